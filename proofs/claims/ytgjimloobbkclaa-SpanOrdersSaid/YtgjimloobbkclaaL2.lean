/- The statement SpanOrders as the program runs it: it answers true, and what lay there before is as it was. -/
import Derived.Test.YtgjimloobbkclaaC11
namespace Go.Proofs.Ytgjimloobbkclaa
open Go.RowKit
open M (Rg)

theorem orders_facts {a b Lx Ly : List Rg} (hl : a.length + b.length ≤ 300) (hx : IsTold (fun x y => x && y) a b Lx) (hy : IsTold (fun x y => x || y) a b Ly) :
    (∀ L, IsTold (fun x y => x && !y) Lx a L → L = []) ∧ (∀ L, IsTold (fun x y => x && !y) a Ly L → L = []) ∧
    (∀ D E, IsTold (fun x y => x && !y) a b D → IsTold (fun x y => x || y) D Lx E → sameL (M.plainL E) (M.plainL a) = true) ∧
    szF (M.plainL Lx) ≤ szF (M.plainL a) ∧ (∀ L, IsTold (fun x y => x && !y) a b L → L.length = 0 → sameL (M.plainL Lx) (M.plainL a) = true) ∧
    sameL (M.plainL a) (M.plainL (M.plainL a)) = true := by
  have lx := and_len hx
  have ly := or_len hy
  have kx : ∀ c, M.hasB Lx c = (M.hasB a c && M.hasB b c) := fun c => by rw [told_has hx (by omega), and_cov hx]
  have ky : ∀ c, M.hasB Ly c = (M.hasB a c || M.hasB b c) := fun c => by rw [told_has hy (by omega), or_cov hy]
  refine ⟨fun L h => nil_of h.1 fun c => ?_, fun L h => nil_of h.1 fun c => ?_, fun D E hD hE => ?_, ?_, fun L h h0 => same_has fun c => ?_, same_has fun c => ?_⟩
  · rw [less_cov h, kx]; cases M.hasB a c <;> simp
  · rw [less_cov h, ky]; cases M.hasB a c <;> simp
  · have kD : ∀ c, M.hasB D c = (M.hasB a c && !M.hasB b c) := fun c => by rw [told_has hD (by have := less_len hD; omega), less_cov hD]
    have e : E = M.plainL a := M.LF_ext hE.1 (M.plainL_ok a).1 fun c => by
      rw [or_cov hE, kD, kx, (M.plainL_ok a).2.1]; cases M.hasB a c <;> cases M.hasB b c <;> rfl
    refine same_has fun c => ?_
    rw [M.hasB_least hE.1 (by rw [e]; have := (M.plainL_ok a).2.2; omega), e, (M.plainL_ok a).2.1]
  · rw [size_cnt Lx 1114112 (Nat.le_refl _), size_cnt a 1114112 (Nat.le_refl _)]
    have := M.cnt_mono (n := 1114112) (p := M.hasB Lx) (q := M.hasB a) fun c h => by
      rw [kx] at h; revert h; cases M.hasB a c <;> simp
    omega
  · have e : L = [] := List.eq_nil_of_length_eq_zero h0
    have := less_cov h c
    rw [e] at this
    rw [kx]
    revert this
    cases M.hasB a c <;> cases M.hasB b c <;> simp [M.covb]
  · rw [M.hasB_least (M.plainL_ok a).1 (by have := (M.plainL_ok a).2.2; omega), (M.plainL_ok a).2.1]

set_option maxHeartbeats 4000000 in
set_option maxRecDepth 100000 in
theorem orders_walk {w : World} {A B : Option Addr} {n m c d : Nat} {a b : List Rg} (ha : Rd w w.heap.size A n c a) (hb : Rd w w.heap.size B m d b) :
    Calls Try.prog 5 #[.slice A n c, .slice B m d] w (Boo w true) := by
  have hn : n ≤ maxLen := Nat.le_trans ha.cap ha.capm
  have hm : m ≤ maxLen := Nat.le_trans hb.cap hb.capm
  have Hn := Lib.hid hn
  have Hm := Lib.hid hm
  unfold maxLen at hn hm
  have Ra1 := Lib.hid ha
  have Rb1 := Lib.hid hb
  clear ha hb
  go_enter Try.func5, Try.ntmps5
  go_wp2_with fail
  refine (alive_any w).mono ?_
  rintro e W1 ⟨rfl, hb⟩
  have Ra2 := Lib.hid (Ra1.out.on hb)
  have Rb2 := Lib.hid (Rb1.out.on hb)
  have BB1 := Lib.hid hb
  clear hb Ra1 Rb1
  go_wp2_with fail
  refine (great_two Hn.out Hm.out).mono ?_
  rintro e W2 ⟨rfl, hb⟩
  have Ra3 := Lib.hid (Ra2.out.on hb)
  have Rb3 := Lib.hid (Rb2.out.on hb)
  have BB2 := Lib.hid (BB1.out.trans (hb.mono BB1.out.size))
  clear hb Ra2 Rb2 BB1
  by_cases hg : 410 < n ∨ 410 < m
  · have gg : (decide (410 < n) || decide (410 < m)) = true := by simpa using hg
    rw [gg]
    go_wp2
    go_ret
    exact ⟨rfl, BB2.out⟩
  have gg : (decide (410 < n) || decide (410 < m)) = false := by simp; omega
  rw [gg]
  have hg1 : n ≤ 410 := by omega
  have hg2 : m ≤ 410 := by omega
  clear hg gg
  by_cases hs : 300 < n + m
  · have gs : decide (300 < (n : Int) + (m : Int)) = true := by simp; omega
    go_wp2
    go_ret
    exact ⟨rfl, BB2.out⟩
  · have gs : decide (300 < (n : Int) + (m : Int)) = false := by simp; omega
    go_wp2_with fail
    refine (and_any Ra3.out Rb3.out).mono ?_
    rintro e W3 ⟨Ax, nx, cx, Lx, rfl, hL, hr, hb⟩
    have Tx := Lib.hid hL
    have hmx : nx ≤ maxLen := Nat.le_trans hr.cap hr.capm
    unfold maxLen at hmx
    have Ra4 := Lib.hid (Ra3.out.on hb)
    clear Ra3
    have Rb4 := Lib.hid (Rb3.out.on hb)
    clear Rb3
    have BB3 := Lib.hid (BB2.out.trans (hb.mono BB2.out.size))
    clear BB2 hb
    have Rx1 := Lib.hid hr
    clear hL hr
    go_wp2_with fail
    refine (or_any Ra4.out Rb4.out).mono ?_
    rintro e W4 ⟨Ay, ny, cy, Ly, rfl, hL, hr, hb⟩
    have Ty := Lib.hid hL
    have hmy : ny ≤ maxLen := Nat.le_trans hr.cap hr.capm
    unfold maxLen at hmy
    have Ra5 := Lib.hid (Ra4.out.on hb)
    clear Ra4
    have Rb5 := Lib.hid (Rb4.out.on hb)
    clear Rb4
    have Rx2 := Lib.hid (Rx1.out.on hb)
    clear Rx1
    have BB4 := Lib.hid (BB3.out.trans (hb.mono BB3.out.size))
    clear BB3 hb
    have Ry1 := Lib.hid hr
    clear hL hr
    obtain ⟨o1, o2, o3, o4, o5, o6⟩ := orders_facts (by rw [Ra5.out.len]; rw [Rb5.out.len]; omega) Tx.out Ty.out
    have O1 := Lib.hid o1
    clear o1
    have O2 := Lib.hid o2
    clear o2
    have O3 := Lib.hid o3
    clear o3
    have O4 := Lib.hid o4
    clear o4
    have O5 := Lib.hid o5
    clear o5
    have O6 := Lib.hid o6
    clear o6
    go_wp2_with fail
    refine (less_any Rx2.out Ra5.out).mono ?_
    rintro e W5 ⟨Ap, np, cp, Lp, rfl, hL, hr, hb⟩
    have Tp := Lib.hid hL
    have hmp : np ≤ maxLen := Nat.le_trans hr.cap hr.capm
    unfold maxLen at hmp
    have Ra6 := Lib.hid (Ra5.out.on hb)
    clear Ra5
    have Rb6 := Lib.hid (Rb5.out.on hb)
    clear Rb5
    have Rx3 := Lib.hid (Rx2.out.on hb)
    clear Rx2
    have Ry2 := Lib.hid (Ry1.out.on hb)
    clear Ry1
    have BB5 := Lib.hid (BB4.out.trans (hb.mono BB4.out.size))
    clear BB4 hb
    have Rp1 := Lib.hid hr
    clear hL hr
    have hp0 : np = 0 := by rw [← Rp1.out.len, O1.out Lp Tp.out]; rfl
    subst hp0
    clear Rp1
    go_wp2_with fail
    refine (less_any Ra6.out Ry2.out).mono ?_
    rintro e W6 ⟨Aq, nq, cq, Lq, rfl, hL, hr, hb⟩
    have Tq := Lib.hid hL
    have hmq : nq ≤ maxLen := Nat.le_trans hr.cap hr.capm
    unfold maxLen at hmq
    have Ra7 := Lib.hid (Ra6.out.on hb)
    clear Ra6
    have Rb7 := Lib.hid (Rb6.out.on hb)
    clear Rb6
    have Rx4 := Lib.hid (Rx3.out.on hb)
    clear Rx3
    have Ry3 := Lib.hid (Ry2.out.on hb)
    clear Ry2
    have BB6 := Lib.hid (BB5.out.trans (hb.mono BB5.out.size))
    clear BB5 hb
    have Rq1 := Lib.hid hr
    clear hL hr
    have hq0 : nq = 0 := by rw [← Rq1.out.len, O2.out Lq Tq.out]; rfl
    subst hq0
    clear Rq1
    go_wp2_with fail
    refine (less_any Ra7.out Rb7.out).mono ?_
    rintro e W7 ⟨Ad, nd, cd, Ld, rfl, hL, hr, hb⟩
    have Td := Lib.hid hL
    have hmd : nd ≤ maxLen := Nat.le_trans hr.cap hr.capm
    unfold maxLen at hmd
    have Ra8 := Lib.hid (Ra7.out.on hb)
    clear Ra7
    have Rb8 := Lib.hid (Rb7.out.on hb)
    clear Rb7
    have Rx5 := Lib.hid (Rx4.out.on hb)
    clear Rx4
    have Ry4 := Lib.hid (Ry3.out.on hb)
    clear Ry3
    have BB7 := Lib.hid (BB6.out.trans (hb.mono BB6.out.size))
    clear BB6 hb
    have Rd1 := Lib.hid hr
    clear hL hr
    go_wp2_with fail
    refine (or_any Rd1.out Rx5.out).mono ?_
    rintro e W8 ⟨Ae, ne, ce, Le, rfl, hL, hr, hb⟩
    have Te := Lib.hid hL
    have hme : ne ≤ maxLen := Nat.le_trans hr.cap hr.capm
    unfold maxLen at hme
    have Ra9 := Lib.hid (Ra8.out.on hb)
    clear Ra8
    have Rb9 := Lib.hid (Rb8.out.on hb)
    clear Rb8
    have Rx6 := Lib.hid (Rx5.out.on hb)
    clear Rx5
    have Ry5 := Lib.hid (Ry4.out.on hb)
    clear Ry4
    have Rd2 := Lib.hid (Rd1.out.on hb)
    clear Rd1
    have BB8 := Lib.hid (BB7.out.trans (hb.mono BB7.out.size))
    clear BB7 hb
    have Re1 := Lib.hid hr
    clear hL hr
    go_wp2_with fail
    refine (same_any Re1.out Ra9.out).mono ?_
    rintro e W9 ⟨rfl, hb⟩
    have Ra10 := Lib.hid (Ra9.out.on hb)
    clear Ra9
    have Rb10 := Lib.hid (Rb9.out.on hb)
    clear Rb9
    have Rx7 := Lib.hid (Rx6.out.on hb)
    clear Rx6
    have Ry6 := Lib.hid (Ry5.out.on hb)
    clear Ry5
    clear Rd2
    clear Re1
    have BB9 := Lib.hid (BB8.out.trans (hb.mono BB8.out.size))
    clear BB8 hb
    rw [O3.out _ _ Td.out Te.out]
    go_wp2_with fail
    refine (size_any Rx7.out).mono ?_
    rintro e W10 ⟨rfl, hb⟩
    have Ra11 := Lib.hid (Ra10.out.on hb)
    clear Ra10
    have Rb11 := Lib.hid (Rb10.out.on hb)
    clear Rb10
    have Rx8 := Lib.hid (Rx7.out.on hb)
    clear Rx7
    have Ry7 := Lib.hid (Ry6.out.on hb)
    clear Ry6
    have BB10 := Lib.hid (BB9.out.trans (hb.mono BB9.out.size))
    clear BB9 hb
    have s1 := size_bd Lx
    have s2 := size_bd a
    have s3 := O4.out
    generalize szF (M.plainL Lx) = S1 at *
    go_wp2_with fail
    refine (size_any Ra11.out).mono ?_
    rintro e W11 ⟨rfl, hb⟩
    have Ra12 := Lib.hid (Ra11.out.on hb)
    clear Ra11
    have Rb12 := Lib.hid (Rb11.out.on hb)
    clear Rb11
    have Rx9 := Lib.hid (Rx8.out.on hb)
    clear Rx8
    have Ry8 := Lib.hid (Ry7.out.on hb)
    clear Ry7
    have BB11 := Lib.hid (BB10.out.trans (hb.mono BB10.out.size))
    clear BB10 hb
    generalize szF (M.plainL a) = S2 at *
    have s4 : decide (S1 ≤ S2) = true := by simpa using s3
    go_wp2_with fail
    refine (less_any Ra12.out Rb12.out).mono ?_
    rintro e W12 ⟨Af, nf, cf, Lf, rfl, hL, hr, hb⟩
    have Tf := Lib.hid hL
    have hmf : nf ≤ maxLen := Nat.le_trans hr.cap hr.capm
    unfold maxLen at hmf
    have Ra13 := Lib.hid (Ra12.out.on hb)
    clear Ra12
    have Rb13 := Lib.hid (Rb12.out.on hb)
    clear Rb12
    have Rx10 := Lib.hid (Rx9.out.on hb)
    clear Rx9
    have Ry9 := Lib.hid (Ry8.out.on hb)
    clear Ry8
    have BB12 := Lib.hid (BB11.out.trans (hb.mono BB11.out.size))
    clear BB11 hb
    have Rf1 := Lib.hid hr
    clear hL hr
    by_cases hf0 : 0 < nf
    · have gf : decide (0 < (nf : Int)) = true := by simp; omega
      go_wp2_with fail
      refine (same_any Ra13.out Ra13.out).mono ?_
      rintro e W13 ⟨rfl, hb⟩
      have Ra14 := Lib.hid (Ra13.out.on hb)
      clear Ra13
      have BB13 := Lib.hid (BB12.out.trans (hb.mono BB12.out.size))
      clear BB12 hb
      rw [show sameL (M.plainL a) (M.plainL a) = true from sameL_yes rfl]
      go_wp2_with fail
      refine (plain_said _ _ _ _ _ Ra14.out).mono ?_
      rintro e W14 ⟨Az, nz, cz, rfl, ho, hb⟩
      have Ra15 := Lib.hid (Ra14.out.on hb)
      clear Ra14
      have BB14 := Lib.hid (BB13.out.trans (hb.mono BB13.out.size))
      clear BB13 hb
      have Rz1 := Lib.hid ho.rd
      clear ho
      go_wp2_with fail
      refine (same_any Ra15.out Rz1.out).mono ?_
      rintro e W15 ⟨rfl, hb⟩
      have Ra16 := Lib.hid (Ra15.out.on hb)
      clear Ra15
      have Rz2 := Lib.hid (Rz1.out.on hb)
      clear Rz1
      have BB15 := Lib.hid (BB14.out.trans (hb.mono BB14.out.size))
      clear BB14 hb
      rw [O6.out]
      go_wp2
      go_ret
      exact ⟨rfl, BB15.out⟩
    · have gf : decide (0 < (nf : Int)) = false := by simp; omega
      have HF0 : Hid (Lf.length = 0) := by have := Rf1.out.len; show Lf.length = 0; omega
      go_wp2_with fail
      refine (same_any Rx10.out Ra13.out).mono ?_
      rintro e W13 ⟨rfl, hb⟩
      have Ra14 := Lib.hid (Ra13.out.on hb)
      clear Ra13
      have Rb14 := Lib.hid (Rb13.out.on hb)
      clear Rb13
      have Rx11 := Lib.hid (Rx10.out.on hb)
      clear Rx10
      have Ry10 := Lib.hid (Ry9.out.on hb)
      clear Ry9
      have Rf2 := Lib.hid (Rf1.out.on hb)
      clear Rf1
      have BB13 := Lib.hid (BB12.out.trans (hb.mono BB12.out.size))
      clear BB12 hb
      rw [O5.out Lf Tf.out HF0.out]
      go_wp2_with fail
      refine (same_any Ra14.out Ra14.out).mono ?_
      rintro e W14 ⟨rfl, hb⟩
      have Ra15 := Lib.hid (Ra14.out.on hb)
      clear Ra14
      have BB14 := Lib.hid (BB13.out.trans (hb.mono BB13.out.size))
      clear BB13 hb
      rw [show sameL (M.plainL a) (M.plainL a) = true from sameL_yes rfl]
      go_wp2_with fail
      refine (plain_said _ _ _ _ _ Ra15.out).mono ?_
      rintro e W15 ⟨Az, nz, cz, rfl, ho, hb⟩
      have Ra16 := Lib.hid (Ra15.out.on hb)
      clear Ra15
      have BB15 := Lib.hid (BB14.out.trans (hb.mono BB14.out.size))
      clear BB14 hb
      have Rz1 := Lib.hid ho.rd
      clear ho
      go_wp2_with fail
      refine (same_any Ra16.out Rz1.out).mono ?_
      rintro e W16 ⟨rfl, hb⟩
      have Ra17 := Lib.hid (Ra16.out.on hb)
      clear Ra16
      have Rz2 := Lib.hid (Rz1.out.on hb)
      clear Rz1
      have BB16 := Lib.hid (BB15.out.trans (hb.mono BB15.out.size))
      clear BB15 hb
      rw [O6.out]
      go_wp2
      go_ret
      exact ⟨rfl, BB16.out⟩
end Go.Proofs.Ytgjimloobbkclaa
