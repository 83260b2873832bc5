/- The statement SpanLaws as the program runs it: it answers true, and what lay there before is as it was. -/
import Derived.Test.YtgjimloobbkclaaC11
namespace Go.Proofs.Ytgjimloobbkclaa
open Go.RowKit
open M (Rg)

theorem laws_facts {a b d Lx Ly : List Rg} (hl : a.length + b.length + d.length ≤ 300) (hx : IsTold (fun x y => x || y) a b Lx) (hy : IsTold (fun x y => x && y) a b Ly) :
    (∀ P, IsTold (fun x y => x || y) b a P → sameL (M.plainL Lx) (M.plainL P) = true) ∧
    (∀ Q, IsTold (fun x y => x && y) b a Q → sameL (M.plainL Ly) (M.plainL Q) = true) ∧
    (∀ R S T U, IsTold (fun x _ => !x) Lx [] R → IsTold (fun x _ => !x) a [] S → IsTold (fun x _ => !x) b [] T → IsTold (fun x y => x && y) S T U → sameL (M.plainL R) (M.plainL U) = true) ∧
    (∀ E F G H, IsTold (fun x y => x || y) b d E → IsTold (fun x y => x && y) a E F → IsTold (fun x y => x && y) a d G → IsTold (fun x y => x || y) Ly G H → sameL (M.plainL F) (M.plainL H) = true) ∧
    (∀ I J, IsTold (fun x _ => !x) a [] I → IsTold (fun x _ => !x) I [] J → sameL (M.plainL J) (M.plainL a) = true) ∧
    szF (M.plainL Lx) + szF (M.plainL Ly) = szF (M.plainL a) + szF (M.plainL b) ∧
    (∀ K L M', IsTold (fun x y => x && !y) a b K → IsTold (fun x _ => !x) b [] L → IsTold (fun x y => x && y) a L M' → sameL (M.plainL K) (M.plainL M') = true) ∧
    rightB Lx = true ∧ rightB Ly = true := by
  have lx := or_len hx
  have ly := and_len hy
  have kx : ∀ c, M.hasB Lx c = (M.hasB a c || M.hasB b c) := fun c => by rw [told_has hx (by omega), or_cov hx]
  have ky : ∀ c, M.hasB Ly c = (M.hasB a c && M.hasB b c) := fun c => by rw [told_has hy (by omega), and_cov hy]
  have kn : ∀ {x L : List Rg}, IsTold (fun x _ => !x) x [] L → x.length ≤ 399 → ∀ c, M.hasB L c = (M.isch c && !M.hasB x c) := fun h hl c => by
    rw [told_has h (by have := not_len h; omega), not_cov h]
  refine ⟨fun P h => same_least hx.1 h.1 fun c => ?_, fun Q h => same_least hy.1 h.1 fun c => ?_, fun R S T U hR hS hT hU => same_least hR.1 hU.1 fun c => ?_,
    fun E F G H hE hF hG hH => same_least hF.1 hH.1 fun c => ?_, fun I J hI hJ => ?_, ?_, fun K L M' hK hL hM => same_least hK.1 hM.1 fun c => ?_, right_told hx (by omega), right_told hy (by omega)⟩
  · rw [or_cov hx, or_cov h, Bool.or_comm]
  · rw [and_cov hy, and_cov h, Bool.and_comm]
  · rw [not_cov hR, and_cov hU, kn hS (by omega), kn hT (by omega), kx]
    cases M.isch c <;> cases M.hasB a c <;> cases M.hasB b c <;> rfl
  · have kE : M.hasB E c = (M.hasB b c || M.hasB d c) := by rw [told_has hE (by have := or_len hE; omega), or_cov hE]
    have kG : M.hasB G c = (M.hasB a c && M.hasB d c) := by rw [told_has hG (by have := and_len hG; omega), and_cov hG]
    rw [and_cov hF, or_cov hH, kE, kG, ky]
    cases M.hasB a c <;> cases M.hasB b c <;> cases M.hasB d c <;> rfl
  · have e : J = M.plainL a := M.LF_ext hJ.1 (M.plainL_ok a).1 fun c => by
      rw [not_cov hJ, kn hI (by omega), (M.plainL_ok a).2.1, M.hasB_isch a]
      cases M.isch c <;> cases M.hasB a c <;> rfl
    refine same_has fun c => ?_
    rw [M.hasB_least hJ.1 (by rw [e]; have := (M.plainL_ok a).2.2; omega), e, (M.plainL_ok a).2.1]
  · obtain ⟨n, hn⟩ := M.big
    rw [size_cnt Lx n (by omega), size_cnt Ly n (by omega), size_cnt a n (by omega), size_cnt b n (by omega), M.cnt_congr kx, M.cnt_congr ky]
    have := M.cnt_or_and n (M.hasB a) (M.hasB b)
    omega
  · rw [less_cov hK, and_cov hM, kn hL (by omega), M.hasB_isch a]
    cases M.isch c <;> cases M.hasB a c <;> cases M.hasB b c <;> rfl

set_option maxHeartbeats 8000000 in
set_option maxRecDepth 100000 in
theorem laws_walk {w : World} {A B D : Option Addr} {n m k c cb cd : Nat} {a b d : List Rg} (ha : Rd w w.heap.size A n c a) (hb : Rd w w.heap.size B m cb b) (hd : Rd w w.heap.size D k cd d) :
    Calls Try.prog 4 #[.slice A n c, .slice B m cb, .slice D k cd] w (Boo w true) := by
  have hn : n ≤ maxLen := Nat.le_trans ha.cap ha.capm
  have hm : m ≤ maxLen := Nat.le_trans hb.cap hb.capm
  have hk : k ≤ maxLen := Nat.le_trans hd.cap hd.capm
  have Hn := Lib.hid hn
  have Hm := Lib.hid hm
  have Hk := Lib.hid hk
  unfold maxLen at hn hm hk
  have Ra1 := Lib.hid ha
  have Rb1 := Lib.hid hb
  have Rd1 := Lib.hid hd
  clear ha hb hd
  go_enter Try.func4, Try.ntmps4
  go_wp2_with fail
  refine (alive_any w).mono ?_
  rintro e W1 ⟨rfl, hb⟩
  have Ra2 := Lib.hid (Ra1.out.on hb)
  have Rb2 := Lib.hid (Rb1.out.on hb)
  have Rd2 := Lib.hid (Rd1.out.on hb)
  have BB1 := Lib.hid hb
  clear hb Ra1 Rb1 Rd1
  go_wp2_with fail
  refine (great_three Hn.out Hm.out Hk.out).mono ?_
  rintro e W2 ⟨rfl, hb⟩
  have Ra3 := Lib.hid (Ra2.out.on hb)
  have Rb3 := Lib.hid (Rb2.out.on hb)
  have Rd3 := Lib.hid (Rd2.out.on hb)
  have BB2 := Lib.hid (BB1.out.trans (hb.mono BB1.out.size))
  clear hb Ra2 Rb2 Rd2 BB1
  by_cases hg : 410 < n ∨ 410 < m ∨ 410 < k
  · have gg : (decide (410 < n) || (decide (410 < m) || decide (410 < k))) = true := by simpa using hg
    rw [gg]
    go_wp2
    go_ret
    exact ⟨rfl, BB2.out⟩
  have gg : (decide (410 < n) || (decide (410 < m) || decide (410 < k))) = false := by simp; omega
  rw [gg]
  have hg1 : n ≤ 410 := by omega
  have hg2 : m ≤ 410 := by omega
  have hg3 : k ≤ 410 := by omega
  clear hg gg
  by_cases hs : 300 < n + m + k
  · have gs : decide (300 < (n : Int) + (m : Int) + (k : Int)) = true := by simp; omega
    go_wp2
    go_ret
    exact ⟨rfl, BB2.out⟩
  · have gs : decide (300 < (n : Int) + (m : Int) + (k : Int)) = false := by simp; omega
    go_wp2_with fail
    refine (or_any Ra3.out Rb3.out).mono ?_
    rintro e W3 ⟨Ax, nx, cx, Lx, rfl, hL, hr, hb⟩
    have Tx := Lib.hid hL
    have hmx : nx ≤ maxLen := Nat.le_trans hr.cap hr.capm
    unfold maxLen at hmx
    have Ra4 := Lib.hid (Ra3.out.on hb)
    clear Ra3
    have Rb4 := Lib.hid (Rb3.out.on hb)
    clear Rb3
    have Rd4 := Lib.hid (Rd3.out.on hb)
    clear Rd3
    have BB3 := Lib.hid (BB2.out.trans (hb.mono BB2.out.size))
    clear BB2 hb
    have Rx1 := Lib.hid hr
    clear hL hr
    go_wp2_with fail
    refine (and_any Ra4.out Rb4.out).mono ?_
    rintro e W4 ⟨Ay, ny, cy, Ly, rfl, hL, hr, hb⟩
    have Ty := Lib.hid hL
    have hmy : ny ≤ maxLen := Nat.le_trans hr.cap hr.capm
    unfold maxLen at hmy
    have Ra5 := Lib.hid (Ra4.out.on hb)
    clear Ra4
    have Rb5 := Lib.hid (Rb4.out.on hb)
    clear Rb4
    have Rd5 := Lib.hid (Rd4.out.on hb)
    clear Rd4
    have Rx2 := Lib.hid (Rx1.out.on hb)
    clear Rx1
    have BB4 := Lib.hid (BB3.out.trans (hb.mono BB3.out.size))
    clear BB3 hb
    have Ry1 := Lib.hid hr
    clear hL hr
    obtain ⟨o1, o2, o3, o4, o5, o6, o7, o8, o9⟩ := laws_facts (d := d) (by rw [Ra5.out.len, Rb5.out.len, Rd5.out.len]; omega) Tx.out Ty.out
    have O1 := Lib.hid o1
    clear o1
    have O2 := Lib.hid o2
    clear o2
    have O3 := Lib.hid o3
    clear o3
    have O4 := Lib.hid o4
    clear o4
    have O5 := Lib.hid o5
    clear o5
    have O6 := Lib.hid o6
    clear o6
    have O7 := Lib.hid o7
    clear o7
    have O8 := Lib.hid o8
    clear o8
    have O9 := Lib.hid o9
    clear o9
    go_wp2_with fail
    refine (or_any Rb5.out Ra5.out).mono ?_
    rintro e W5 ⟨Ap, np, cp, Lp, rfl, hL, hr, hb⟩
    have Tp := Lib.hid hL
    have hmp : np ≤ maxLen := Nat.le_trans hr.cap hr.capm
    unfold maxLen at hmp
    have Ra6 := Lib.hid (Ra5.out.on hb)
    clear Ra5
    have Rb6 := Lib.hid (Rb5.out.on hb)
    clear Rb5
    have Rd6 := Lib.hid (Rd5.out.on hb)
    clear Rd5
    have Rx3 := Lib.hid (Rx2.out.on hb)
    clear Rx2
    have Ry2 := Lib.hid (Ry1.out.on hb)
    clear Ry1
    have BB5 := Lib.hid (BB4.out.trans (hb.mono BB4.out.size))
    clear BB4 hb
    have Rp1 := Lib.hid hr
    clear hL hr
    go_wp2_with fail
    refine (same_any Rx3.out Rp1.out).mono ?_
    rintro e W6 ⟨rfl, hb⟩
    have Ra7 := Lib.hid (Ra6.out.on hb)
    clear Ra6
    have Rb7 := Lib.hid (Rb6.out.on hb)
    clear Rb6
    have Rd7 := Lib.hid (Rd6.out.on hb)
    clear Rd6
    have Rx4 := Lib.hid (Rx3.out.on hb)
    clear Rx3
    have Ry3 := Lib.hid (Ry2.out.on hb)
    clear Ry2
    clear Rp1
    have BB6 := Lib.hid (BB5.out.trans (hb.mono BB5.out.size))
    clear BB5 hb
    rw [O1.out Lp Tp.out]
    go_wp2_with fail
    refine (and_any Rb7.out Ra7.out).mono ?_
    rintro e W7 ⟨Aq, nq, cq, Lq, rfl, hL, hr, hb⟩
    have Tq := Lib.hid hL
    have hmq : nq ≤ maxLen := Nat.le_trans hr.cap hr.capm
    unfold maxLen at hmq
    have Ra8 := Lib.hid (Ra7.out.on hb)
    clear Ra7
    have Rb8 := Lib.hid (Rb7.out.on hb)
    clear Rb7
    have Rd8 := Lib.hid (Rd7.out.on hb)
    clear Rd7
    have Rx5 := Lib.hid (Rx4.out.on hb)
    clear Rx4
    have Ry4 := Lib.hid (Ry3.out.on hb)
    clear Ry3
    have BB7 := Lib.hid (BB6.out.trans (hb.mono BB6.out.size))
    clear BB6 hb
    have Rq1 := Lib.hid hr
    clear hL hr
    go_wp2_with fail
    refine (same_any Ry4.out Rq1.out).mono ?_
    rintro e W8 ⟨rfl, hb⟩
    have Ra9 := Lib.hid (Ra8.out.on hb)
    clear Ra8
    have Rb9 := Lib.hid (Rb8.out.on hb)
    clear Rb8
    have Rd9 := Lib.hid (Rd8.out.on hb)
    clear Rd8
    have Rx6 := Lib.hid (Rx5.out.on hb)
    clear Rx5
    have Ry5 := Lib.hid (Ry4.out.on hb)
    clear Ry4
    clear Rq1
    have BB8 := Lib.hid (BB7.out.trans (hb.mono BB7.out.size))
    clear BB7 hb
    rw [O2.out Lq Tq.out]
    go_wp2_with fail
    refine (not_any Rx6.out).mono ?_
    rintro e W9 ⟨Ar, nr, cr, Lr, rfl, hL, hr, hb⟩
    have Tr := Lib.hid hL
    have hmr : nr ≤ maxLen := Nat.le_trans hr.cap hr.capm
    unfold maxLen at hmr
    have Ra10 := Lib.hid (Ra9.out.on hb)
    clear Ra9
    have Rb10 := Lib.hid (Rb9.out.on hb)
    clear Rb9
    have Rd10 := Lib.hid (Rd9.out.on hb)
    clear Rd9
    have Rx7 := Lib.hid (Rx6.out.on hb)
    clear Rx6
    have Ry6 := Lib.hid (Ry5.out.on hb)
    clear Ry5
    have BB9 := Lib.hid (BB8.out.trans (hb.mono BB8.out.size))
    clear BB8 hb
    have Rr1 := Lib.hid hr
    clear hL hr
    go_wp2_with fail
    refine (not_any Ra10.out).mono ?_
    rintro e W10 ⟨As, ns, cs, Ls, rfl, hL, hr, hb⟩
    have Ts := Lib.hid hL
    have hms : ns ≤ maxLen := Nat.le_trans hr.cap hr.capm
    unfold maxLen at hms
    have Ra11 := Lib.hid (Ra10.out.on hb)
    clear Ra10
    have Rb11 := Lib.hid (Rb10.out.on hb)
    clear Rb10
    have Rd11 := Lib.hid (Rd10.out.on hb)
    clear Rd10
    have Rx8 := Lib.hid (Rx7.out.on hb)
    clear Rx7
    have Ry7 := Lib.hid (Ry6.out.on hb)
    clear Ry6
    have Rr2 := Lib.hid (Rr1.out.on hb)
    clear Rr1
    have BB10 := Lib.hid (BB9.out.trans (hb.mono BB9.out.size))
    clear BB9 hb
    have Rs1 := Lib.hid hr
    clear hL hr
    go_wp2_with fail
    refine (not_any Rb11.out).mono ?_
    rintro e W11 ⟨At, nt, ct, Lt, rfl, hL, hr, hb⟩
    have Tt := Lib.hid hL
    have hmt : nt ≤ maxLen := Nat.le_trans hr.cap hr.capm
    unfold maxLen at hmt
    have Ra12 := Lib.hid (Ra11.out.on hb)
    clear Ra11
    have Rb12 := Lib.hid (Rb11.out.on hb)
    clear Rb11
    have Rd12 := Lib.hid (Rd11.out.on hb)
    clear Rd11
    have Rx9 := Lib.hid (Rx8.out.on hb)
    clear Rx8
    have Ry8 := Lib.hid (Ry7.out.on hb)
    clear Ry7
    have Rr3 := Lib.hid (Rr2.out.on hb)
    clear Rr2
    have Rs2 := Lib.hid (Rs1.out.on hb)
    clear Rs1
    have BB11 := Lib.hid (BB10.out.trans (hb.mono BB10.out.size))
    clear BB10 hb
    have Rt1 := Lib.hid hr
    clear hL hr
    go_wp2_with fail
    refine (and_any Rs2.out Rt1.out).mono ?_
    rintro e W12 ⟨Au, nu, cu, Lu, rfl, hL, hr, hb⟩
    have Tu := Lib.hid hL
    have hmu : nu ≤ maxLen := Nat.le_trans hr.cap hr.capm
    unfold maxLen at hmu
    have Ra13 := Lib.hid (Ra12.out.on hb)
    clear Ra12
    have Rb13 := Lib.hid (Rb12.out.on hb)
    clear Rb12
    have Rd13 := Lib.hid (Rd12.out.on hb)
    clear Rd12
    have Rx10 := Lib.hid (Rx9.out.on hb)
    clear Rx9
    have Ry9 := Lib.hid (Ry8.out.on hb)
    clear Ry8
    have Rr4 := Lib.hid (Rr3.out.on hb)
    clear Rr3
    clear Rs2
    clear Rt1
    have BB12 := Lib.hid (BB11.out.trans (hb.mono BB11.out.size))
    clear BB11 hb
    have Ru1 := Lib.hid hr
    clear hL hr
    go_wp2_with fail
    refine (same_any Rr4.out Ru1.out).mono ?_
    rintro e W13 ⟨rfl, hb⟩
    have Ra14 := Lib.hid (Ra13.out.on hb)
    clear Ra13
    have Rb14 := Lib.hid (Rb13.out.on hb)
    clear Rb13
    have Rd14 := Lib.hid (Rd13.out.on hb)
    clear Rd13
    have Rx11 := Lib.hid (Rx10.out.on hb)
    clear Rx10
    have Ry10 := Lib.hid (Ry9.out.on hb)
    clear Ry9
    clear Rr4
    clear Ru1
    have BB13 := Lib.hid (BB12.out.trans (hb.mono BB12.out.size))
    clear BB12 hb
    rw [O3.out Lr Ls Lt Lu Tr.out Ts.out Tt.out Tu.out]
    go_wp2_with fail
    refine (or_any Rb14.out Rd14.out).mono ?_
    rintro e W14 ⟨Ae, ne, ce, Le, rfl, hL, hr, hb⟩
    have Te := Lib.hid hL
    have hme : ne ≤ maxLen := Nat.le_trans hr.cap hr.capm
    unfold maxLen at hme
    have Ra15 := Lib.hid (Ra14.out.on hb)
    clear Ra14
    have Rb15 := Lib.hid (Rb14.out.on hb)
    clear Rb14
    have Rd15 := Lib.hid (Rd14.out.on hb)
    clear Rd14
    have Rx12 := Lib.hid (Rx11.out.on hb)
    clear Rx11
    have Ry11 := Lib.hid (Ry10.out.on hb)
    clear Ry10
    have BB14 := Lib.hid (BB13.out.trans (hb.mono BB13.out.size))
    clear BB13 hb
    have Re1 := Lib.hid hr
    clear hL hr
    go_wp2_with fail
    refine (and_any Ra15.out Re1.out).mono ?_
    rintro e W15 ⟨Af, nf, cf, Lf, rfl, hL, hr, hb⟩
    have Tf := Lib.hid hL
    have hmf : nf ≤ maxLen := Nat.le_trans hr.cap hr.capm
    unfold maxLen at hmf
    have Ra16 := Lib.hid (Ra15.out.on hb)
    clear Ra15
    have Rb16 := Lib.hid (Rb15.out.on hb)
    clear Rb15
    have Rd16 := Lib.hid (Rd15.out.on hb)
    clear Rd15
    have Rx13 := Lib.hid (Rx12.out.on hb)
    clear Rx12
    have Ry12 := Lib.hid (Ry11.out.on hb)
    clear Ry11
    clear Re1
    have BB15 := Lib.hid (BB14.out.trans (hb.mono BB14.out.size))
    clear BB14 hb
    have Rf1 := Lib.hid hr
    clear hL hr
    go_wp2_with fail
    refine (and_any Ra16.out Rd16.out).mono ?_
    rintro e W16 ⟨Ag, ng, cg, Lg, rfl, hL, hr, hb⟩
    have Tg := Lib.hid hL
    have hmg : ng ≤ maxLen := Nat.le_trans hr.cap hr.capm
    unfold maxLen at hmg
    have Ra17 := Lib.hid (Ra16.out.on hb)
    clear Ra16
    have Rb17 := Lib.hid (Rb16.out.on hb)
    clear Rb16
    clear Rd16
    have Rx14 := Lib.hid (Rx13.out.on hb)
    clear Rx13
    have Ry13 := Lib.hid (Ry12.out.on hb)
    clear Ry12
    have Rf2 := Lib.hid (Rf1.out.on hb)
    clear Rf1
    have BB16 := Lib.hid (BB15.out.trans (hb.mono BB15.out.size))
    clear BB15 hb
    have Rg1 := Lib.hid hr
    clear hL hr
    go_wp2_with fail
    refine (or_any Ry13.out Rg1.out).mono ?_
    rintro e W17 ⟨Ah, nh, ch, Lh, rfl, hL, hr, hb⟩
    have Th := Lib.hid hL
    have hmh : nh ≤ maxLen := Nat.le_trans hr.cap hr.capm
    unfold maxLen at hmh
    have Ra18 := Lib.hid (Ra17.out.on hb)
    clear Ra17
    have Rb18 := Lib.hid (Rb17.out.on hb)
    clear Rb17
    have Rx15 := Lib.hid (Rx14.out.on hb)
    clear Rx14
    have Ry14 := Lib.hid (Ry13.out.on hb)
    clear Ry13
    have Rf3 := Lib.hid (Rf2.out.on hb)
    clear Rf2
    clear Rg1
    have BB17 := Lib.hid (BB16.out.trans (hb.mono BB16.out.size))
    clear BB16 hb
    have Rh1 := Lib.hid hr
    clear hL hr
    go_wp2_with fail
    refine (same_any Rf3.out Rh1.out).mono ?_
    rintro e W18 ⟨rfl, hb⟩
    have Ra19 := Lib.hid (Ra18.out.on hb)
    clear Ra18
    have Rb19 := Lib.hid (Rb18.out.on hb)
    clear Rb18
    have Rx16 := Lib.hid (Rx15.out.on hb)
    clear Rx15
    have Ry15 := Lib.hid (Ry14.out.on hb)
    clear Ry14
    clear Rf3
    clear Rh1
    have BB18 := Lib.hid (BB17.out.trans (hb.mono BB17.out.size))
    clear BB17 hb
    rw [O4.out Le Lf Lg Lh Te.out Tf.out Tg.out Th.out]
    go_wp2_with fail
    refine (not_any Ra19.out).mono ?_
    rintro e W19 ⟨Ai, ni, ci, Li, rfl, hL, hr, hb⟩
    have Ti := Lib.hid hL
    have hmi : ni ≤ maxLen := Nat.le_trans hr.cap hr.capm
    unfold maxLen at hmi
    have Ra20 := Lib.hid (Ra19.out.on hb)
    clear Ra19
    have Rb20 := Lib.hid (Rb19.out.on hb)
    clear Rb19
    have Rx17 := Lib.hid (Rx16.out.on hb)
    clear Rx16
    have Ry16 := Lib.hid (Ry15.out.on hb)
    clear Ry15
    have BB19 := Lib.hid (BB18.out.trans (hb.mono BB18.out.size))
    clear BB18 hb
    have Ri1 := Lib.hid hr
    clear hL hr
    go_wp2_with fail
    refine (not_any Ri1.out).mono ?_
    rintro e W20 ⟨Aj, nj, cj, Lj, rfl, hL, hr, hb⟩
    have Tj := Lib.hid hL
    have hmj : nj ≤ maxLen := Nat.le_trans hr.cap hr.capm
    unfold maxLen at hmj
    have Ra21 := Lib.hid (Ra20.out.on hb)
    clear Ra20
    have Rb21 := Lib.hid (Rb20.out.on hb)
    clear Rb20
    have Rx18 := Lib.hid (Rx17.out.on hb)
    clear Rx17
    have Ry17 := Lib.hid (Ry16.out.on hb)
    clear Ry16
    clear Ri1
    have BB20 := Lib.hid (BB19.out.trans (hb.mono BB19.out.size))
    clear BB19 hb
    have Rj1 := Lib.hid hr
    clear hL hr
    go_wp2_with fail
    refine (same_any Rj1.out Ra21.out).mono ?_
    rintro e W21 ⟨rfl, hb⟩
    have Ra22 := Lib.hid (Ra21.out.on hb)
    clear Ra21
    have Rb22 := Lib.hid (Rb21.out.on hb)
    clear Rb21
    have Rx19 := Lib.hid (Rx18.out.on hb)
    clear Rx18
    have Ry18 := Lib.hid (Ry17.out.on hb)
    clear Ry17
    clear Rj1
    have BB21 := Lib.hid (BB20.out.trans (hb.mono BB20.out.size))
    clear BB20 hb
    rw [O5.out Li Lj Ti.out Tj.out]
    have s1 := size_bd Lx
    have s2 := size_bd Ly
    have s3 := size_bd a
    have s4 := size_bd b
    obtain ⟨s1a, s1b⟩ := s1
    obtain ⟨s2a, s2b⟩ := s2
    obtain ⟨s3a, s3b⟩ := s3
    obtain ⟨s4a, s4b⟩ := s4
    have s5 : (szF (M.plainL Lx) + szF (M.plainL Ly) == szF (M.plainL a) + szF (M.plainL b)) = true := by simpa using O6.out
    clear O6
    go_wp2_with fail
    refine (size_any Rx19.out).mono ?_
    rintro e W22 ⟨rfl, hb⟩
    have Ra23 := Lib.hid (Ra22.out.on hb)
    clear Ra22
    have Rb23 := Lib.hid (Rb22.out.on hb)
    clear Rb22
    have Rx20 := Lib.hid (Rx19.out.on hb)
    clear Rx19
    have Ry19 := Lib.hid (Ry18.out.on hb)
    clear Ry18
    have BB22 := Lib.hid (BB21.out.trans (hb.mono BB21.out.size))
    clear BB21 hb
    generalize szF (M.plainL Lx) = S1 at *
    go_wp2_with fail
    refine (size_any Ry19.out).mono ?_
    rintro e W23 ⟨rfl, hb⟩
    have Ra24 := Lib.hid (Ra23.out.on hb)
    clear Ra23
    have Rb24 := Lib.hid (Rb23.out.on hb)
    clear Rb23
    have Rx21 := Lib.hid (Rx20.out.on hb)
    clear Rx20
    have Ry20 := Lib.hid (Ry19.out.on hb)
    clear Ry19
    have BB23 := Lib.hid (BB22.out.trans (hb.mono BB22.out.size))
    clear BB22 hb
    generalize szF (M.plainL Ly) = S2 at *
    go_wp2_with fail
    refine (size_any Ra24.out).mono ?_
    rintro e W24 ⟨rfl, hb⟩
    have Ra25 := Lib.hid (Ra24.out.on hb)
    clear Ra24
    have Rb25 := Lib.hid (Rb24.out.on hb)
    clear Rb24
    have Rx22 := Lib.hid (Rx21.out.on hb)
    clear Rx21
    have Ry21 := Lib.hid (Ry20.out.on hb)
    clear Ry20
    have BB24 := Lib.hid (BB23.out.trans (hb.mono BB23.out.size))
    clear BB23 hb
    generalize szF (M.plainL a) = S3 at *
    go_wp2_with fail
    refine (size_any Rb25.out).mono ?_
    rintro e W25 ⟨rfl, hb⟩
    have Ra26 := Lib.hid (Ra25.out.on hb)
    clear Ra25
    have Rb26 := Lib.hid (Rb25.out.on hb)
    clear Rb25
    have Rx23 := Lib.hid (Rx22.out.on hb)
    clear Rx22
    have Ry22 := Lib.hid (Ry21.out.on hb)
    clear Ry21
    have BB25 := Lib.hid (BB24.out.trans (hb.mono BB24.out.size))
    clear BB24 hb
    generalize szF (M.plainL b) = S4 at *
    go_wp2_with fail
    refine (less_any Ra26.out Rb26.out).mono ?_
    rintro e W26 ⟨Ak, nk, ck, Lk, rfl, hL, hr, hb⟩
    have Tk := Lib.hid hL
    have hmk : nk ≤ maxLen := Nat.le_trans hr.cap hr.capm
    unfold maxLen at hmk
    have Ra27 := Lib.hid (Ra26.out.on hb)
    clear Ra26
    have Rb27 := Lib.hid (Rb26.out.on hb)
    clear Rb26
    have Rx24 := Lib.hid (Rx23.out.on hb)
    clear Rx23
    have Ry23 := Lib.hid (Ry22.out.on hb)
    clear Ry22
    have BB26 := Lib.hid (BB25.out.trans (hb.mono BB25.out.size))
    clear BB25 hb
    have Rk1 := Lib.hid hr
    clear hL hr
    go_wp2_with fail
    refine (not_any Rb27.out).mono ?_
    rintro e W27 ⟨Al, nl, cl, Ll, rfl, hL, hr, hb⟩
    have Tl := Lib.hid hL
    have hml : nl ≤ maxLen := Nat.le_trans hr.cap hr.capm
    unfold maxLen at hml
    have Ra28 := Lib.hid (Ra27.out.on hb)
    clear Ra27
    clear Rb27
    have Rx25 := Lib.hid (Rx24.out.on hb)
    clear Rx24
    have Ry24 := Lib.hid (Ry23.out.on hb)
    clear Ry23
    have Rk2 := Lib.hid (Rk1.out.on hb)
    clear Rk1
    have BB27 := Lib.hid (BB26.out.trans (hb.mono BB26.out.size))
    clear BB26 hb
    have Rl1 := Lib.hid hr
    clear hL hr
    go_wp2_with fail
    refine (and_any Ra28.out Rl1.out).mono ?_
    rintro e W28 ⟨Am, nm, cm, Lm, rfl, hL, hr, hb⟩
    have Tm := Lib.hid hL
    have hmm : nm ≤ maxLen := Nat.le_trans hr.cap hr.capm
    unfold maxLen at hmm
    clear Ra28
    have Rx26 := Lib.hid (Rx25.out.on hb)
    clear Rx25
    have Ry25 := Lib.hid (Ry24.out.on hb)
    clear Ry24
    have Rk3 := Lib.hid (Rk2.out.on hb)
    clear Rk2
    clear Rl1
    have BB28 := Lib.hid (BB27.out.trans (hb.mono BB27.out.size))
    clear BB27 hb
    have Rm1 := Lib.hid hr
    clear hL hr
    go_wp2_with fail
    refine (same_any Rk3.out Rm1.out).mono ?_
    rintro e W29 ⟨rfl, hb⟩
    have Rx27 := Lib.hid (Rx26.out.on hb)
    clear Rx26
    have Ry26 := Lib.hid (Ry25.out.on hb)
    clear Ry25
    clear Rk3
    clear Rm1
    have BB29 := Lib.hid (BB28.out.trans (hb.mono BB28.out.size))
    clear BB28 hb
    rw [O7.out Lk Ll Lm Tk.out Tl.out Tm.out]
    go_wp2_with fail
    refine (right_any Rx27.out).mono ?_
    rintro e W30 ⟨rfl, hb⟩
    clear Rx27
    have Ry27 := Lib.hid (Ry26.out.on hb)
    clear Ry26
    have BB30 := Lib.hid (BB29.out.trans (hb.mono BB29.out.size))
    clear BB29 hb
    rw [O8.out]
    go_wp2_with fail
    refine (right_any Ry27.out).mono ?_
    rintro e W31 ⟨rfl, hb⟩
    clear Ry27
    have BB31 := Lib.hid (BB30.out.trans (hb.mono BB30.out.size))
    clear BB30 hb
    rw [O9.out]
    go_wp2
    go_ret
    exact ⟨rfl, BB31.out⟩
end Go.Proofs.Ytgjimloobbkclaa
