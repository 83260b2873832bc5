/- Whether patterns are the same: the document's Same (layer 8). -/
import Derived.Test.YtpllgfhocedgmaaRT02
import Derived.Test.YtpllgfhocedgmaaRT09
set_option maxRecDepth 100000
namespace Go.Proofs.Ytpllgfhocedgmaa
open Go.RowKit

noncomputable def eqP (x y : Pt) : Bool := @decide (x = y) (Classical.propDecidable _)
noncomputable def eqPs (l m : List Pt) : Bool := @decide (l = m) (Classical.propDecidable _)
theorem eqP_iff {x y : Pt} : eqP x y = true ↔ x = y := by unfold eqP; exact @decide_eq_true_iff _ (Classical.propDecidable _)
theorem eqPs_iff {l m : List Pt} : eqPs l m = true ↔ l = m := by unfold eqPs; exact @decide_eq_true_iff _ (Classical.propDecidable _)
theorem eqP_no {x y : Pt} (h : x ≠ y) : eqP x y = false := by rw [← Bool.not_eq_true, eqP_iff]; exact h
theorem eqPs_no {l m : List Pt} (h : l ≠ m) : eqPs l m = false := by rw [← Bool.not_eq_true, eqPs_iff]; exact h
theorem eqP_yes (x : Pt) : eqP x x = true := eqP_iff.2 rfl
theorem eqP_kids {x y : Pt} (h1 : x.kind = y.kind) (h2 : x.set = y.set) (h3 : x.signs = y.signs) : eqP x y = eqPs x.kids y.kids := by
 rw [Bool.eq_iff_iff, eqP_iff, eqPs_iff]
 refine ⟨fun h => by rw [h], fun h => ?_⟩
 cases x; cases y
 simp only [Pt.kind, Pt.set, Pt.signs, Pt.kids] at h1 h2 h3 h
 subst h1 h2 h3 h
 rfl
theorem pheld_cell {w w' : World} {b o : Nat} {v : Value} (h : Below w.heap.size w w') (hb : b < w.heap.size) (hc : w.cell? ⟨b, o, none⟩ = some v) : w'.cell? ⟨b, o, none⟩ = some v := (h.cell (p := ⟨b, o, none⟩) hb).trans hc
def PSameK (k : Nat) : Prop := ∀ (x y : Pt), x.size ≤ k → ∀ (w : World) (sA gA A : Option Addr) (sn sc gn gc n c : Nat) (sA' gA' A' : Option Addr) (sn' sc' gn' gc' n' c' : Nat), PtIn w (Bl w) sA sn sc gA gn gc A n c x → PtIn w (Bl w) sA' sn' sc' gA' gn' gc' A' n' c' y →
 Calls Try.prog 16 #[.agg #[.int .i64 x.kind, .slice sA sn sc, .slice gA gn gc, .slice A n c], .agg #[.int .i64 y.kind, .slice sA' sn' sc', .slice gA' gn' gc', .slice A' n' c']] w (BooK w (eqP x y))
set_option maxHeartbeats 8000000 in
theorem psame_all : ∀ k : Nat, PSameK k := by
 intro k
 induction k with
 | zero => intro x y h; have := Pt.size_pos x; omega
 | succ k ih =>
  intro x y hk w sA gA A sn sc gn gc n c sA' gA' A' sn' sc' gn' gc' n' c' ha hb
  have hkids : ptsSize x.kids ≤ k := by have := Pt.size_kids x; omega
  have hna := ha.kids.len
  have hnb := hb.kids.len
  have hsm := ha.kids.small
  have hsm' := hb.kids.small
  have HP := Lib.hid ((kbelow_push w (.cells #[.int .i64 x.kind, .slice sA sn sc, .slice gA gn gc, .slice A n c] 26)).trans ((kbelow_push _ (.cells #[.int .i64 y.kind, .slice sA' sn' sc', .slice gA' gn' gc', .slice A' n' c'] 26)).mono (by simp)))
  have HR1 : Hid (((w.alloc (.cells #[.int .i64 x.kind, .slice sA sn sc, .slice gA gn gc, .slice A n c] 26)).alloc (.cells #[.int .i64 y.kind, .slice sA' sn' sc', .slice gA' gn' gc', .slice A' n' c'] 26)).heap[w.heap.size]? = some (.cells #[.int .i64 x.kind, .slice sA sn sc, .slice gA gn gc, .slice A n c] 26 (0, 0))) := ((kbelow_push (w.alloc (.cells #[.int .i64 x.kind, .slice sA sn sc, .slice gA gn gc, .slice A n c] 26)) (.cells #[.int .i64 y.kind, .slice sA' sn' sc', .slice gA' gn' gc', .slice A' n' c'] 26)).block _ (by simp)).trans (heap_alloc_new w _)
  have HR2 : Hid (((w.alloc (.cells #[.int .i64 x.kind, .slice sA sn sc, .slice gA gn gc, .slice A n c] 26)).alloc (.cells #[.int .i64 y.kind, .slice sA' sn' sc', .slice gA' gn' gc', .slice A' n' c'] 26)).heap[w.heap.size + 1]? = some (.cells #[.int .i64 y.kind, .slice sA' sn' sc', .slice gA' gn' gc', .slice A' n' c'] 26 (0, 0))) := by
   have := heap_alloc_new (w.alloc (.cells #[.int .i64 x.kind, .slice sA sn sc, .slice gA gn gc, .slice A n c] 26)) (.cells #[.int .i64 y.kind, .slice sA' sn' sc', .slice gA' gn' gc', .slice A' n' c'] 26)
   rwa [show (w.alloc (.cells #[.int .i64 x.kind, .slice sA sn sc, .slice gA gn gc, .slice A n c] 26)).heap.size = w.heap.size + 1 by simp] at this
  have hz2 : ((w.alloc (.cells #[.int .i64 x.kind, .slice sA sn sc, .slice gA gn gc, .slice A n c] 26)).alloc (.cells #[.int .i64 y.kind, .slice sA' sn' sc', .slice gA' gn' gc', .slice A' n' c'] 26)).heap.size = w.heap.size + 2 := by simp
  have HA := Lib.hid (ha.on HP.out)
  have HB := Lib.hid (hb.on HP.out)
  clear ha hb
  by_cases h1 : x.kind = y.kind
  ·have g1 : (x.kind != y.kind) = false := by simpa using h1
   have HC1 := Lib.hid (pranges_b HA.out.set HB.out.set)
   by_cases h2 : x.set = y.set
   ·have e2 : decide (x.set = y.set) = true := decide_eq_true h2
    rw [e2] at HC1
    by_cases h3 : x.signs = y.signs
    ·have e3 : decide (x.signs = y.signs) = true := decide_eq_true h3
     have hE := eqP_kids h1 h2 h3
     by_cases h5 : n = n'
     ·subst h5
      have HF := Lib.hid hE
      have HE3 := Lib.hid e3
      clear h1 h2 h3 hE e2 e3
      go_enter Try.func16, Try.ntmps16
      go_wp2_with fail
      generalize hW1 : ((w.alloc (.cells #[.int .i64 x.kind, .slice sA sn sc, .slice gA gn gc, .slice A n c] 26)).alloc (.cells #[.int .i64 y.kind, .slice sA' sn' sc', .slice gA' gn' gc', .slice A' n c'] 26)) = W1 at *
      clear hW1
      refine HC1.out.mono ?_
      rintro en w1 ⟨rfl, hb1⟩
      have HB1 := Lib.hid hb1
      obtain ⟨r0, r1, r2, r3⟩ := cells4 ((hb1.block _ (by omega)).trans HR1.out)
      obtain ⟨q0, q1, q2, q3⟩ := cells4 ((hb1.block _ (by omega)).trans HR2.out)
      have HC2 := Lib.hid (pints_b (HA.out.on HB1.out).signs (HB.out.on HB1.out).signs)
      rw [HE3.out] at HC2
      clear hb1 HC1
      go_wp2_with fail
      refine HC2.out.mono ?_
      rintro en w2 ⟨rfl, hb2⟩
      have HB2 := Lib.hid (HB1.out.trans (hb2.mono HB1.out.size))
      clear r0 r1 r2 r3 q0 q1 q2 q3 hb2 HC2 HB1
      obtain ⟨r0, r1, r2, r3⟩ := cells4 ((HB2.out.block _ (by omega)).trans HR1.out)
      obtain ⟨q0, q1, q2, q3⟩ := cells4 ((HB2.out.block _ (by omega)).trans HR2.out)
      go_wp2_with fail
      clear r0 r1 r2 r3 q0 q1 q2 q3
      generalize hla : x.kids = la at *
      generalize hlb : y.kids = lb at *
      have HAK : Hid (RdP W1 (Bl W1) A n c la) := hla ▸ HA.out.kids
      have HBK : Hid (RdP W1 (Bl W1) A' n c' lb) := hlb ▸ HB.out.kids
      clear hla hlb HA HB
      go_loopw [5] (fun iv wx => ∃ j : Nat, j ≤ n ∧ iv = .int .i64 j ∧ Hid (la.take j = lb.take j) ∧ Hid (Below W1.heap.size W1 wx)) (fun iv _ => n - (intOf iv).toNat)
      case atStart => exact ⟨0, by omega, rfl, rfl, HB2.out⟩
      case round =>
       obtain ⟨j, hj, rfl, HT, HBL⟩ := hrel
       have HA2 := Lib.hid (HAK.out.on HBL.out)
       have HB2 := Lib.hid (HBK.out.on HBL.out)
       have hS0 : ∀ w', Below wr.heap.size wr w' → w'.cell? ⟨w.heap.size, 3, none⟩ = some (.slice A n c) ∧ w'.cell? ⟨w.heap.size + 1, 3, none⟩ = some (.slice A' n c') := fun w' h => by
        have hb := HBL.out.trans (h.mono HBL.out.size)
        exact ⟨(cells4 ((hb.block _ (by omega)).trans HR1.out)).2.2.2, (cells4 ((hb.block _ (by omega)).trans HR2.out)).2.2.2⟩
       obtain ⟨r4, q4⟩ := hS0 wr (Below.refl _ _)
       by_cases hlt : j < n
       ·obtain ⟨b1, o1, u, sA1, sn1, sc1, gA1, gn1, gc1, A1, n1, c1, hA, hb1, hx, hr1, s0, s1, s2, s3⟩ := HA2.out.got hlt
        obtain ⟨b2, o2, v, sA2, sn2, sc2, gA2, gn2, gc2, A2, n2, c2, hB, hb2, hy, hr2, t0, t1, t2, t3⟩ := HB2.out.got hlt
        subst hA hB
        have hS : ∀ w', Below wr.heap.size wr w' → w'.cell? ⟨w.heap.size, 3, none⟩ = some (.slice (some ⟨b1, o1, none⟩) n c) ∧ w'.cell? ⟨w.heap.size + 1, 3, none⟩ = some (.slice (some ⟨b2, o2, none⟩) n c') ∧ w'.cell? ⟨b1, o1 + j * 4, none⟩ = some (.int .i64 u.kind) ∧ w'.cell? ⟨b1, o1 + j * 4 + 1, none⟩ = some (.slice sA1 sn1 sc1) ∧ w'.cell? ⟨b1, o1 + j * 4 + 2, none⟩ = some (.slice gA1 gn1 gc1) ∧ w'.cell? ⟨b1, o1 + j * 4 + 3, none⟩ = some (.slice A1 n1 c1) ∧ w'.cell? ⟨b2, o2 + j * 4, none⟩ = some (.int .i64 v.kind) ∧ w'.cell? ⟨b2, o2 + j * 4 + 1, none⟩ = some (.slice sA2 sn2 sc2) ∧ w'.cell? ⟨b2, o2 + j * 4 + 2, none⟩ = some (.slice gA2 gn2 gc2) ∧ w'.cell? ⟨b2, o2 + j * 4 + 3, none⟩ = some (.slice A2 n2 c2) := fun w' h => ⟨(hS0 w' h).1, (hS0 w' h).2, pheld_cell h hb1 s0, pheld_cell h hb1 s1, pheld_cell h hb1 s2, pheld_cell h hb1 s3, pheld_cell h hb2 t0, pheld_cell h hb2 t1, pheld_cell h hb2 t2, pheld_cell h hb2 t3⟩
        have HS := Lib.hid hS
        have HX := Lib.hid hx
        have HY := Lib.hid hy
        have HR3 := Lib.hid hr1
        have HR4 := Lib.hid hr2
        have hsz : u.size ≤ k := Nat.le_trans (ptsSize_mem hx) hkids
        have hj0 : (0 : Int) ≤ (j : Int) := by omega
        have hj1 : (j : Int) < (n : Int) := by omega
        have HC : Hid (∀ w', Below wr.heap.size wr w' → Calls Try.prog 16 #[.agg #[.int .i64 u.kind, .slice sA1 sn1 sc1, .slice gA1 gn1 gc1, .slice A1 n1 c1], .agg #[.int .i64 v.kind, .slice sA2 sn2 sc2, .slice gA2 gn2 gc2, .slice A2 n2 c2]] w' (BooK w' (eqP u v))) := fun w' h => ih u v hsz w' _ _ _ _ _ _ _ _ _ _ _ _ _ _ _ _ _ _ (HR3.out.on h) (HR4.out.on h)
        have HK0 := Lib.hid (HS.out _ (kbelow_drewN (Below.refl _ _) 1))
        have HC0 := Lib.hid (HC.out wr.drew (kbelow_drewN (Below.refl _ _) 1))
        have HBD : Hid (Below wr.heap.size wr wr.drew) := kbelow_drewN (Below.refl _ _) 1
        clear hx hy hr1 hr2 HA2 HB2 hS hS0 HC
        cases he : eqP u v with
        | true =>
         rw [he] at HC0
         have HT2 : Hid (la.take (j + 1) = lb.take (j + 1)) := by
          show _ = _
          have e := eqP_iff.1 he
          subst e
          rw [List.take_add_one, List.take_add_one, HT.out, HX.out, HY.out]
         clear HT HX HY he
         go_wp2_with fail
         go_region_held_law (fun w' => w'.cell? ⟨w.heap.size, 3, none⟩ = some (.slice (some ⟨b1, o1, none⟩) n c) ∧ w'.cell? ⟨w.heap.size + 1, 3, none⟩ = some (.slice (some ⟨b2, o2, none⟩) n c') ∧ w'.cell? ⟨b1, o1 + j * 4, none⟩ = some (.int .i64 u.kind) ∧ w'.cell? ⟨b1, o1 + j * 4 + 1, none⟩ = some (.slice sA1 sn1 sc1) ∧ w'.cell? ⟨b1, o1 + j * 4 + 2, none⟩ = some (.slice gA1 gn1 gc1) ∧ w'.cell? ⟨b1, o1 + j * 4 + 3, none⟩ = some (.slice A1 n1 c1) ∧ w'.cell? ⟨b2, o2 + j * 4, none⟩ = some (.int .i64 v.kind) ∧ w'.cell? ⟨b2, o2 + j * 4 + 1, none⟩ = some (.slice sA2 sn2 sc2) ∧ w'.cell? ⟨b2, o2 + j * 4 + 2, none⟩ = some (.slice gA2 gn2 gc2) ∧ w'.cell? ⟨b2, o2 + j * 4 + 3, none⟩ = some (.slice A2 n2 c2)) (first | exact HK0.out | exact HK1.out) ((go_at_call 16; refine HC0.out.mono ?_; rintro en w5 ⟨rfl, hb5⟩; have HB5 := Lib.hid (HBD.out.trans (hb5.mono HBD.out.size)); have HK1 := Lib.hid (HS.out w5 HB5.out); clear hb5))
         go_wp2_with fail
         go_roundw
         case rel => exact ⟨j + 1, by omega, by go_num, HT2.out, HBL.out.trans (HB5.out.mono HBL.out.size)⟩
         case measure => simp [intOf]; omega
        | false =>
         rw [he] at HC0
         have HFF : Hid (eqP x y = false) := by
          show _ = _
          rw [HF.out]
          refine eqPs_no fun e => ?_
          subst e
          have e2 := HX.out.symm.trans HY.out
          injection e2 with e2
          subst e2
          rw [eqP_yes] at he
          cases he
         clear HT HX HY he HF
         go_wp2_with fail
         go_region_held_law (fun w' => w'.cell? ⟨w.heap.size, 3, none⟩ = some (.slice (some ⟨b1, o1, none⟩) n c) ∧ w'.cell? ⟨w.heap.size + 1, 3, none⟩ = some (.slice (some ⟨b2, o2, none⟩) n c') ∧ w'.cell? ⟨b1, o1 + j * 4, none⟩ = some (.int .i64 u.kind) ∧ w'.cell? ⟨b1, o1 + j * 4 + 1, none⟩ = some (.slice sA1 sn1 sc1) ∧ w'.cell? ⟨b1, o1 + j * 4 + 2, none⟩ = some (.slice gA1 gn1 gc1) ∧ w'.cell? ⟨b1, o1 + j * 4 + 3, none⟩ = some (.slice A1 n1 c1) ∧ w'.cell? ⟨b2, o2 + j * 4, none⟩ = some (.int .i64 v.kind) ∧ w'.cell? ⟨b2, o2 + j * 4 + 1, none⟩ = some (.slice sA2 sn2 sc2) ∧ w'.cell? ⟨b2, o2 + j * 4 + 2, none⟩ = some (.slice gA2 gn2 gc2) ∧ w'.cell? ⟨b2, o2 + j * 4 + 3, none⟩ = some (.slice A2 n2 c2)) (first | exact HK0.out | exact HK1.out) ((go_at_call 16; refine HC0.out.mono ?_; rintro en w5 ⟨rfl, hb5⟩; have HB5 := Lib.hid (HBD.out.trans (hb5.mono HBD.out.size)); have HK1 := Lib.hid (HS.out w5 HB5.out); clear hb5))
         go_wp2_with fail
         go_ret
         exact ⟨pret_bool HFF.out.symm, HP.out.trans ((HBL.out.trans (HB5.out.mono HBL.out.size)).mono HP.out.size)⟩
       ·obtain rfl : j = n := by omega
        have HFF : Hid (eqP x y = true) := by
         show _ = _
         rw [HF.out]
         refine eqPs_iff.2 ?_
         have := HT.out
         rwa [List.take_of_length_le (by omega), List.take_of_length_le (by omega)] at this
        clear HT HA2 HB2 HF
        go_wp2_with fail
        go_ret
        exact ⟨pret_bool HFF.out.symm, HP.out.trans (HBL.out.mono HP.out.size)⟩
     ·have g5 : ((n : Int) != (n' : Int)) = true := by rw [bne_iff_ne]; omega
      have HF : Hid (eqP x y = false) := by
       show _ = _
       rw [hE]
       exact eqPs_no fun e => h5 (by rw [← hna, ← hnb, e])
      have HE3 := Lib.hid e3
      clear h1 h2 h3 hE e2 e3
      go_enter Try.func16, Try.ntmps16
      go_wp2_with fail
      generalize hW1 : ((w.alloc (.cells #[.int .i64 x.kind, .slice sA sn sc, .slice gA gn gc, .slice A n c] 26)).alloc (.cells #[.int .i64 y.kind, .slice sA' sn' sc', .slice gA' gn' gc', .slice A' n' c'] 26)) = W1 at *
      refine HC1.out.mono ?_
      rintro en w1 ⟨rfl, hb1⟩
      have HB1 := Lib.hid hb1
      obtain ⟨r0, r1, r2, r3⟩ := cells4 ((hb1.block _ (by omega)).trans HR1.out)
      obtain ⟨q0, q1, q2, q3⟩ := cells4 ((hb1.block _ (by omega)).trans HR2.out)
      have HC2 := Lib.hid (pints_b (HA.out.on HB1.out).signs (HB.out.on HB1.out).signs)
      rw [HE3.out] at HC2
      clear hb1 HC1 hW1
      go_wp2_with fail
      refine HC2.out.mono ?_
      rintro en w2 ⟨rfl, hb2⟩
      have HB2 := Lib.hid (HB1.out.trans (hb2.mono HB1.out.size))
      clear r0 r1 r2 r3 q0 q1 q2 q3 hb2 HC2 HB1
      obtain ⟨r0, r1, r2, r3⟩ := cells4 ((HB2.out.block _ (by omega)).trans HR1.out)
      obtain ⟨q0, q1, q2, q3⟩ := cells4 ((HB2.out.block _ (by omega)).trans HR2.out)
      go_wp2_with fail
      go_ret
      exact ⟨pret_bool HF.out.symm, HP.out.trans (HB2.out.mono HP.out.size)⟩
    ·have e3 : decide (x.signs = y.signs) = false := decide_eq_false h3
     have HF := Lib.hid (eqP_no (x := x) (y := y) fun e => h3 (by rw [e]))
     have HE3 := Lib.hid e3
     clear h1 h2 h3 e2 e3
     go_enter Try.func16, Try.ntmps16
     go_wp2_with fail
     generalize hW1 : ((w.alloc (.cells #[.int .i64 x.kind, .slice sA sn sc, .slice gA gn gc, .slice A n c] 26)).alloc (.cells #[.int .i64 y.kind, .slice sA' sn' sc', .slice gA' gn' gc', .slice A' n' c'] 26)) = W1 at *
     refine HC1.out.mono ?_
     rintro en w1 ⟨rfl, hb1⟩
     have HB1 := Lib.hid hb1
     obtain ⟨r0, r1, r2, r3⟩ := cells4 ((hb1.block _ (by omega)).trans HR1.out)
     obtain ⟨q0, q1, q2, q3⟩ := cells4 ((hb1.block _ (by omega)).trans HR2.out)
     have HC2 := Lib.hid (pints_b (HA.out.on HB1.out).signs (HB.out.on HB1.out).signs)
     rw [HE3.out] at HC2
     clear hb1 HC1 hW1
     go_wp2_with fail
     refine HC2.out.mono ?_
     rintro en w2 ⟨rfl, hb2⟩
     have HB2 := Lib.hid (HB1.out.trans (hb2.mono HB1.out.size))
     clear hb2 HC2 HB1
     go_wp2_with fail
     go_ret
     exact ⟨pret_bool HF.out.symm, HP.out.trans (HB2.out.mono HP.out.size)⟩
   ·have e2 : decide (x.set = y.set) = false := decide_eq_false h2
    rw [e2] at HC1
    have HF := Lib.hid (eqP_no (x := x) (y := y) fun e => h2 (by rw [e]))
    clear h1 h2 e2
    go_enter Try.func16, Try.ntmps16
    go_wp2_with fail
    generalize hW1 : ((w.alloc (.cells #[.int .i64 x.kind, .slice sA sn sc, .slice gA gn gc, .slice A n c] 26)).alloc (.cells #[.int .i64 y.kind, .slice sA' sn' sc', .slice gA' gn' gc', .slice A' n' c'] 26)) = W1 at *
    refine HC1.out.mono ?_
    rintro en w1 ⟨rfl, hb1⟩
    have HB1 := Lib.hid hb1
    clear hb1 HC1 hW1
    go_wp2_with fail
    go_ret
    exact ⟨pret_bool HF.out.symm, HP.out.trans (HB1.out.mono HP.out.size)⟩
  ·have g1 : (x.kind != y.kind) = true := by rw [bne_iff_ne]; exact h1
   have HF := Lib.hid (eqP_no (x := x) (y := y) fun e => h1 (by rw [e]))
   clear h1
   go_enter Try.func16, Try.ntmps16
   go_wp2_with fail
   go_ret
   exact ⟨pret_bool HF.out.symm, HP.out⟩
theorem psame_any {x y : Pt} {w : World} {sA gA A : Option Addr} {sn sc gn gc n c : Nat} {sA' gA' A' : Option Addr} {sn' sc' gn' gc' n' c' : Nat} (ha : PtIn w (Bl w) sA sn sc gA gn gc A n c x) (hb : PtIn w (Bl w) sA' sn' sc' gA' gn' gc' A' n' c' y) :
  Calls Try.prog 16 #[.agg #[.int .i64 x.kind, .slice sA sn sc, .slice gA gn gc, .slice A n c], .agg #[.int .i64 y.kind, .slice sA' sn' sc', .slice gA' gn' gc', .slice A' n' c']] w (BooK w (eqP x y)) :=
 psame_all x.size x y (Nat.le_refl _) w _ _ _ _ _ _ _ _ _ _ _ _ _ _ _ _ _ _ ha hb
end Go.Proofs.Ytpllgfhocedgmaa
