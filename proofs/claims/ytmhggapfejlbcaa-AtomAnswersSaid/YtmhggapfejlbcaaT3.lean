/- What the document's whole answers: rising pieces, joined where they touch. -/
import Derived.Test.YtmhggapfejlbcaaT1
namespace Go.Proofs.Ytmhggapfejlbcaa
open Go.RowKit
open M (Rg)

theorem whole_take (a : List Rg) (k : Nat) (r : Rg) (h : a[k]? = some r) : M.wholeL (a.take (k + 1)) = M.joinL (M.wholeL (a.take k)) r := by
  obtain ⟨hk, hr⟩ := List.getElem?_eq_some_iff.1 h
  unfold M.wholeL
  rw [M.joinAll_take a k hk, hr]
/-- Rising pieces. -/
def Pieces (a : List Rg) : Prop := (∀ r ∈ a, M.okR r) ∧ a.Pairwise fun x y => x.2 < y.1
theorem pieces_last {a : List Rg} (h : Pieces a) {k : Nat} {r s : Rg} {I : List Rg} (hk : a[k]? = some r) (hw : M.wholeL (a.take k) = I ++ [s]) : s.2 + 1 ≤ r.1 ∧ 0 ≤ s.2 ∧ s.2 ≤ 1114111 := by
  obtain ⟨hkl, hr⟩ := List.getElem?_eq_some_iff.1 hk
  have hm : ∀ x ∈ a.take k, x.2 < r.1 ∧ M.okR x := fun x hx => by
    obtain ⟨j, hj⟩ := List.getElem?_of_mem hx
    rw [List.getElem?_take] at hj
    by_cases g : j < k
    · rw [if_pos g] at hj
      obtain ⟨hj1, hj2⟩ := List.getElem?_eq_some_iff.1 hj
      have := List.pairwise_iff_getElem.1 h.2 j k hj1 hkl g
      rw [hj2, hr] at this
      exact ⟨this, h.1 x (List.mem_of_getElem? hj)⟩
    · rw [if_neg g] at hj; cases hj
  have hne : a.take k ≠ [] := fun e => by rw [e] at hw; simp [M.wholeL, M.joinAll] at hw
  obtain ⟨w1, w2, _, _⟩ := M.whole_ok (f := r.1) hne (fun x hx => ⟨(hm x hx).2, (hm x hx).1⟩) (h.2.sublist (List.take_sublist _ _))
  rw [hw] at w1 w2
  have hs := M.LF_mem w1 s (by simp)
  have hc : M.covb (I ++ [s]) s.2 = true := by rw [M.covb_append]; simp [M.covb, M.inR]; omega
  rw [w2, M.covb_iff] at hc
  obtain ⟨x, hx, x1, x2⟩ := hc
  have := hm x hx
  omega
theorem whole_len (a : List Rg) (k : Nat) : (M.wholeL (a.take k)).length ≤ k := by
  have := M.joinAll_len [] (a.take k)
  unfold M.wholeL
  simp at *; omega
theorem joinW_touch {I : List Rg} {s : Rg} {f t : Int} (h1 : s.2 + 1 = f) (h2 : f ≤ t) : M.joinL (I ++ [s]) (f, t) = I ++ [(s.1, t)] := by
  rw [M.joinL_snoc, if_pos (by show f ≤ s.2 + 1; omega)]
  have : max s.2 t = t := by omega
  show I ++ [(s.1, max s.2 t)] = _
  rw [this]
theorem joinW_apart {I : List Rg} {s : Rg} {f t : Int} (h1 : s.2 + 1 < f) : M.joinL (I ++ [s]) (f, t) = I ++ [s] ++ [(f, t)] := by
  rw [M.joinL_snoc, if_neg (by show ¬ f ≤ s.2 + 1; omega)]
theorem storeW_own {wr : World} {B g n1 c : Nat} {I : List Rg} {s : Rg} (ho : Own wr B (some ⟨g, 0, none⟩) n1 c (I ++ [s])) (hl : n1 - 1 = I.length) (q : Nat) (t : Int) :
    ((wr.drewN q).setCell ⟨g, (n1 - 1) * 2 + 1, none⟩ (.int .i64 t)).ownsRow B 38 2 (.slice (some ⟨g, 0, none⟩) n1 c) n1 (cellsR (I ++ [(s.1, t)])) := by
  have := ((own_drewN ho q).stored ((n1 - 1) * 2 + 1) (.int .i64 t)).1
  rw [hl] at this ⊢
  rwa [set_snoc] at this
/-- The pieces joined so far. -/
def GathW (w : World) (L : List Rg) (v : Value) (wr : World) : Prop := ∃ A m c, v = .slice A m c ∧ Own wr w.heap.size A m c L ∧ Below w.heap.size w wr
theorem gathW_of {w wx : World} {L : List Rg} {v : Value} {n : Nat} (h : wx.ownsRow w.heap.size 38 2 v n (cellsR L)) (hb : Below w.heap.size w wx) : GathW w L v wx := by
  obtain ⟨A, m, c, he, ho, hb'⟩ := left_of h hb
  injection he with he
  exact ⟨A, m, c, he, ho, hb'⟩

set_option maxHeartbeats 2000000 in
set_option maxRecDepth 100000 in
theorem twhole_any {w : World} {A : Option Addr} {n c : Nat} {a : List Rg} (ha : Rd w w.heap.size A n c a) (hp : Pieces a) (hn : n ≤ 1000000) :
    Calls Try.prog 23 #[.slice A n c] w (Left1 w.heap.size w (M.wholeL a)) := by
  obtain ⟨i0, hi0, hz0, hz1, hz2⟩ := info_parts info_R
  have HA := Lib.hid ha
  have HP := Lib.hid hp
  clear ha hp
  go_enter Try.func23, Try.ntmps23
  go_wp2_with fail
  go_loopw [3, 4] (fun v i wr => ∃ k : Nat, k ≤ n ∧ i = .int .i64 k ∧ GathW w (M.wholeL (a.take k)) v wr) (fun _ i _ => n - (intOf i).toNat)
  case atStart => exact ⟨0, Nat.zero_le _, rfl, none, 0, 0, rfl, World.ownsRow_nil _ _ _ _, Below.refl _ _⟩
  case round =>
    obtain ⟨i, hi, rfl, A1, n1, c1, rfl, hown, hbel⟩ := hrel
    by_cases hlt : i < n
    · obtain ⟨bA, oA, f, t, rfl, hbb, hr, k1, k2⟩ := HA.out.got hlt
      have d1 := (hbel.cell (p := ⟨bA, oA + i * 2, none⟩) hbb).trans k1
      have d2 := (hbel.cell (p := ⟨bA, oA + i * 2 + 1, none⟩) hbb).trans k2
      have HT := Lib.hid (whole_take a i (f, t) hr)
      have hok := HP.out.1 (f, t) (List.mem_of_getElem? hr)
      obtain ⟨ok1, ok2, ok3⟩ := hok
      have ok1' : 0 ≤ f := ok1
      have ok2' : f ≤ t := ok2
      have ok3' : t ≤ 1114111 := ok3
      have HK := Lib.hid hr
      have hml : n1 ≤ i := by have := hown.len; have := whole_len a i; omega
      have HO := Lib.hid hown
      have HBL := Lib.hid hbel
      clear hr hown hbel k1 k2 ok1 ok2 ok3
      rcases List.eq_nil_or_concat (M.wholeL (a.take i)) with hL0 | ⟨I, s, hLs⟩
      · have hn0 : n1 = 0 := by have := HO.out.len; rw [hL0] at this; simpa using this.symm
        have HJ : Hid (M.wholeL (a.take (i + 1)) = [(f, t)]) := by show M.wholeL (a.take (i + 1)) = [(f, t)]; rw [HT.out, hL0]; rfl
        have HO' : Hid (Own wr w.heap.size A1 n1 c1 []) := by rw [← hL0]; exact HO.out
        clear hL0 HO
        subst hn0
        go_wp2
        go_quiet (fail)
        go_wp2_with (at_builtin; refine wpList_append_own _ rfl _ _ 23 rfl w.heap.size 38 i0 (.agg #[.int .i64 0, .int .i64 0]) 2 16 Try.underlying23 hi0 hz0 hz1 hz2 rfl (by decide) _ _ _ rfl ((own_drewN HO'.out _).alloc _) ⟨wr.heap.size, 0, none⟩ 1 1 [.int .i64 f, .int .i64 t] rfl rfl ?c1 (news_one _ _) ?c3 ?c4 ?c5 ?_)
        case c1 => exact news_at _ _ (by simp) _ _ _
        case c3 => simp only [maxLen]; omega
        case c4 => omega
        case c5 => have := HBL.out.size; simp; omega
        intro v' w3 hown' hgrow _
        have hb3 : Below w.heap.size w w3 := ((below_drewN HBL.out _).alloc HBL.out.size _).grown hgrow (by have := HBL.out.size; simp; omega) (fun k hk => (HO'.out.lt k hk).1)
        have R : GathW w (M.wholeL (a.take (i + 1))) v' w3 := gathW_of (n := 0 + 1) (by rw [HJ.out]; simpa [cellsR] using hown') hb3
        have RR := Lib.hid R
        clear R hown' hgrow hb3
        go_wp2
        go_roundw
        case rel => exact ⟨i + 1, by omega, by go_num, RR.out⟩
        case measure => simp [intOf]; omega
      · rw [List.concat_eq_append] at hLs
        obtain ⟨u1, u2, u3⟩ := pieces_last HP.out HK.out hLs
        have u1' : s.2 + 1 ≤ f := u1
        have HO' : Hid (Own wr w.heap.size A1 n1 c1 (I ++ [s])) := by rw [← hLs]; exact HO.out
        have HT' : Hid (M.wholeL (a.take (i + 1)) = M.joinL (I ++ [s]) (f, t)) := by show M.wholeL (a.take (i + 1)) = _; rw [HT.out, hLs]
        clear HO HT hLs u1
        have hln : n1 = I.length + 1 := by have := HO'.out.len; simp at this; omega
        have hln1 : n1 - 1 = I.length := by omega
        rcases HO'.out.2 with ⟨_, h2⟩ | ⟨g, cap, cur, hv, hBg, hgh, h3, h4, _, _⟩
        · omega
        injection hv with a1 a2 a3
        subst a1 a3
        have hcell : wr.cell? ⟨g, (n1 - 1) * 2 + 1, none⟩ = some (.int .i64 s.2) := by
          rw [World.ownsRow.cellAt HO'.out ((n1 - 1) * 2 + 1) (by omega), hln1, cellsR_hi (I ++ [s]) I.length (by simp)]; simp
        have hfz : wr.frozen? ⟨g, (n1 - 1) * 2 + 1, none⟩ = false := World.ownsRow.frozenAt HO'.out _
        have hn0 : 0 < n1 := by omega
        have dd1 : decide (0 < (n1 : Int)) = true := by simp; omega
        have HLN := Lib.hid hln1
        clear hln hln1 hgh
        by_cases htch : s.2 + 1 = f
        · have dd2 : ((s.2 + 1 : Int) == f) = true := by simpa using htch
          have HJ := Lib.hid (joinW_touch (I := I) htch ok2')
          clear htch
          go_wp2
          go_quiet (fail)
          go_wp2
          go_roundw
          case rel => exact ⟨i + 1, by omega, by go_num, gathW_of (n := n1) (by rw [HT'.out, HJ.out]; exact storeW_own HO'.out HLN.out _ t) ((below_drewN HBL.out _).setCell hBg _)⟩
          case measure => simp [intOf]; omega
        · have dd2 : ((s.2 + 1 : Int) == f) = false := by simpa using htch
          have HJ := Lib.hid (joinW_apart (I := I) (t := t) (show s.2 + 1 < f by omega))
          clear htch
          go_wp2
          go_quiet (fail)
          go_wp2_with (at_builtin; refine wpList_append_own _ rfl _ _ 23 rfl w.heap.size 38 i0 (.agg #[.int .i64 0, .int .i64 0]) 2 16 Try.underlying23 hi0 hz0 hz1 hz2 rfl (by decide) _ _ _ rfl ((own_drewN HO'.out _).alloc _) ⟨wr.heap.size, 0, none⟩ 1 1 [.int .i64 f, .int .i64 t] rfl rfl ?d1 (news_one _ _) ?d3 ?d4 ?d5 ?_)
          case d1 => exact news_at _ _ (by simp) _ _ _
          case d3 => simp only [maxLen]; omega
          case d4 => omega
          case d5 => have := HBL.out.size; simp; omega
          intro v' w3 hown' hgrow _
          have hb3 : Below w.heap.size w w3 := ((below_drewN HBL.out _).alloc HBL.out.size _).grown hgrow (by have := HBL.out.size; simp; omega) (fun k hk => (HO'.out.lt k hk).1)
          have R : GathW w (M.wholeL (a.take (i + 1))) v' w3 := gathW_of (n := n1 + 1) (by rw [HT'.out, HJ.out, cellsR_append (I ++ [s])]; exact hown') hb3
          have RR := Lib.hid R
          clear R hown' hgrow hb3
          go_wp2
          go_roundw
          case rel => exact ⟨i + 1, by omega, by go_num, RR.out⟩
          case measure => simp [intOf]; omega
    · have ht : a.take i = a := List.take_of_length_le (by rw [HA.out.len]; omega)
      rw [ht] at hown
      have R : Left1 w.heap.size w (M.wholeL a) (.returned (.slice A1 n1 c1)) wr := ⟨A1, n1, c1, rfl, hown, hbel⟩
      have RR := Lib.hid R
      clear R hown hbel ht
      go_wp2
      go_ret
      exact RR.out
end Go.Proofs.Ytmhggapfejlbcaa
