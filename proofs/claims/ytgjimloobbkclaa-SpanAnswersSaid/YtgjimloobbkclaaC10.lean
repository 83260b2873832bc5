/- The fixed fact of the statements of layer 1: at two small sets each call answers as it should. -/
import Derived.Test.YtgjimloobbkclaaC9
namespace Go.Proofs.Ytgjimloobbkclaa
open Go.RowKit
open M (Rg)

section
variable {w w' : World} {B n c : Nat} {A : Option Addr} {L : List Rg}
theorem Rd.on (h : Rd w w.heap.size A n c L) (hb : Below w.heap.size w w') : Rd w' w'.heap.size A n c L := (h.below hb).more hb.size
theorem Rd.push (h : Rd w w.heap.size A n c L) (o : Obj) : Rd (w.alloc o) (w.alloc o).heap.size A n c L := h.on ((Below.refl _ _).alloc (Nat.le_refl _) o)
end
theorem below_push (w : World) (o : Obj) : Below w.heap.size w (w.alloc o) := (Below.refl _ _).alloc (Nat.le_refl _) o
/-- A list that is written out. -/
theorem rd_lit (w : World) (N : Nat) (hN : N = w.heap.size) (L : List Rg) (t : TypeId) (cs : Array Value) (hc : cs.toList = cellsR L) (hm : L.length ≤ 400) :
    Rd (w.alloc (.cells cs t)) (w.alloc (.cells cs t)).heap.size (some ⟨N, 0, none⟩) L.length L.length L := by
  subst hN
  refine ⟨rfl, Nat.le_refl _, by unfold maxLen; omega, fun _ => ⟨w.heap.size, 0, rfl, by simp, fun j u hu => ?_⟩⟩
  rw [cell_of_row (w.alloc (.cells cs t)) w.heap.size (0 + j) cs t (0, 0) (heap_alloc_new w _), Nat.zero_add, ← hu, ← hc]
  simp

theorem told_is {tl : Bool → Bool → Bool} {a b L R : List Rg} (h : IsTold tl a b L) (hR : M.LF 0 R) (hc : ∀ c, M.covb R c = (M.isch c && tl (M.hasB a c) (M.hasB b c))) : L = R :=
  M.LF_ext h.1 hR fun c => by rw [h.2, hc]

def a0 : List Rg := [(4, 5), (1, 3), (9, 8)]
def b0 : List Rg := [(3, 7)]
theorem has_a0 (c : Int) : M.hasB a0 c = decide (1 ≤ c ∧ c ≤ 5) := by
  rw [Bool.eq_iff_iff]; simp [M.hasB, a0, M.isch, M.covb, M.inR]; omega
theorem has_b0 (c : Int) : M.hasB b0 c = decide (3 ≤ c ∧ c ≤ 7) := by
  rw [Bool.eq_iff_iff]; simp [M.hasB, b0, M.isch, M.covb, M.inR]; omega
theorem plain_a0 : M.plainL a0 = [(1, 5)] := M.plainL_is (by simp [M.LF]) fun c => by
  rw [has_a0, Bool.eq_iff_iff]; simp [M.covb, M.inR]
theorem plain_15 : M.plainL [(1, 5)] = [(1, 5)] := M.plainL_is (by simp [M.LF]) fun c => by
  rw [Bool.eq_iff_iff]; simp [M.hasB, M.isch, M.covb, M.inR]; omega
theorem and_ab {L : List Rg} (h : IsTold (fun x y => x && y) a0 b0 L) : L = [(3, 5)] := told_is h (by simp [M.LF]) fun c => by
  rw [has_a0, has_b0, Bool.eq_iff_iff]; simp [M.covb, M.inR, M.isch]; omega
theorem less_ba {L : List Rg} (h : IsTold (fun x y => x && !y) b0 a0 L) : L = [(6, 7)] := told_is h (by simp [M.LF]) fun c => by
  rw [has_a0, has_b0, Bool.eq_iff_iff]; simp [M.covb, M.inR, M.isch]; omega
theorem or_ab {L : List Rg} (h : IsTold (fun x y => x || y) a0 b0 L) : L = [(1, 7)] := told_is h (by simp [M.LF]) fun c => by
  rw [has_a0, has_b0, Bool.eq_iff_iff]; simp [M.covb, M.inR, M.isch]; omega
theorem not_a {L : List Rg} (h : IsTold (fun x _ => !x) a0 [] L) : L = [(0, 0), (6, 1114111)] := told_is h (by simp [M.LF]) fun c => by
  rw [has_a0, Bool.eq_iff_iff]; simp [M.covb, M.inR, M.isch]; omega
theorem size_not : szF (M.plainL [(0, 0), (6, 1114111)]) = 1114107 := by
  have : M.plainL [(0, 0), (6, 1114111)] = [(0, 0), (6, 1114111)] := M.plainL_is (by simp [M.LF]) fun c => by
    rw [Bool.eq_iff_iff]; simp [M.hasB, M.isch, M.covb, M.inR]; omega
  rw [this]; simp [szF]
theorem right_b0 : rightB b0 = true := by simp [rightB, b0, lfb]
theorem right_a0 : rightB a0 = false := by simp [rightB, a0, lfb]

theorem rd_one (w : World) (x y : Int) (t : TypeId) : Rd (w.alloc (.cells #[.int .i64 x, .int .i64 y] t)) (w.alloc (.cells #[.int .i64 x, .int .i64 y] t)).heap.size (some ⟨w.heap.size, 0, none⟩) 1 1 [(x, y)] :=
  rd_lit w _ rfl [(x, y)] t _ rfl (by simp)
theorem ranges_yes {w : World} {B : Nat} {A A' : Option Addr} {n m c d : Nat} {a : List Rg} (ha : Rd w B A n c a) (hb : Rd w B A' m d a) :
    Calls Try.prog 9 #[.slice A n c, .slice A' m d] w (Boo w true) :=
  (ranges_any ha hb).mono fun _ _ ⟨he, q, hq⟩ => ⟨by rw [he, sameL_yes rfl], by rw [hq]; exact below_drewN (Below.refl _ _) q⟩

/-- What is kept while the fixed fact is asked: the two sets, and all that lay there before. -/
def Kept (w : World) (N M : Nat) (W : World) : Prop := Rd W W.heap.size (some ⟨N, 0, none⟩) 3 3 a0 ∧ Rd W W.heap.size (some ⟨M, 0, none⟩) 1 1 b0 ∧ Below w.heap.size w W
theorem Kept.on {w W W' : World} {N M : Nat} (h : Kept w N M W) (hb : Below W.heap.size W W') : Kept w N M W' := ⟨h.1.on hb, h.2.1.on hb, h.2.2.trans (hb.mono h.2.2.size)⟩
theorem Kept.push {w W : World} {N M : Nat} (h : Kept w N M W) (o : Obj) : Kept w N M (W.alloc o) := h.on (below_push W o)

set_option maxHeartbeats 4000000 in
set_option maxRecDepth 100000 in
theorem alive_any (w : World) : Calls Try.prog 7 #[] w (Boo w true) := by
  have K0 : Hid (Kept w w.heap.size (w.heap.size + 1) ((w.alloc (.cells #[.int .i64 4, .int .i64 5, .int .i64 1, .int .i64 3, .int .i64 9, .int .i64 8] 34)).alloc (.cells #[.int .i64 3, .int .i64 7] 34))) :=
    ⟨(rd_lit w _ rfl a0 _ _ rfl (by simp [a0])).push _, rd_lit _ _ (by simp) b0 _ _ rfl (by simp [b0]), (below_push w _).trans ((below_push _ _).mono (by simp))⟩
  go_enter Try.func7, Try.ntmps7
  go_wp2_with fail
  generalize (w.alloc (.cells #[.int .i64 4, .int .i64 5, .int .i64 1, .int .i64 3, .int .i64 9, .int .i64 8] 34)).alloc (.cells #[.int .i64 3, .int .i64 7] 34) = W0 at *
  generalize w.heap.size + 1 = M0 at *
  refine (plain_said _ _ _ _ _ K0.out.1).mono ?_
  rintro e W1 ⟨A1, n1, c1, rfl, ho, hb⟩
  have K1 := Lib.hid (K0.out.on hb)
  have R1 := Lib.hid ho.rd
  rw [plain_a0] at R1
  clear ho hb K0
  go_wp2_with fail
  refine (ranges_yes (R1.out.push _) (rd_one W1 1 5 _)).mono ?_
  rintro e W2 ⟨rfl, hb⟩
  have K2 := Lib.hid ((K1.out.push _).on hb)
  clear R1 K1 hb
  go_wp2_with fail
  refine (and_any K2.out.1 K2.out.2.1).mono ?_
  rintro e W3 ⟨A2, n2, c2, L2, rfl, hL, hr, hb⟩
  obtain rfl := and_ab hL
  have K3 := Lib.hid (K2.out.on hb)
  have R1 := Lib.hid hr
  clear hL hr hb K2
  go_wp2_with fail
  refine (ranges_yes (R1.out.push _) (rd_one W3 3 5 _)).mono ?_
  rintro e W4 ⟨rfl, hb⟩
  have K4 := Lib.hid ((K3.out.push _).on hb)
  clear R1 K3 hb
  go_wp2_with fail
  refine (less_any K4.out.2.1 K4.out.1).mono ?_
  rintro e W5 ⟨A4, n4, c4, L4, rfl, hL, hr, hb⟩
  obtain rfl := less_ba hL
  have K5 := Lib.hid (K4.out.on hb)
  have R1 := Lib.hid hr
  clear hL hr hb K4
  go_wp2_with fail
  refine (ranges_yes (R1.out.push _) (rd_one W5 6 7 _)).mono ?_
  rintro e W6 ⟨rfl, hb⟩
  have K6 := Lib.hid ((K5.out.push _).on hb)
  clear R1 K5 hb
  go_wp2_with fail
  refine (or_any K6.out.1 K6.out.2.1).mono ?_
  rintro e W7 ⟨A6, n6, c6, L6, rfl, hL, hr, hb⟩
  obtain rfl := or_ab hL
  have K7 := Lib.hid (K6.out.on hb)
  have R1 := Lib.hid hr
  clear hL hr hb K6
  go_wp2_with fail
  refine (ranges_yes (R1.out.push _) (rd_one W7 1 7 _)).mono ?_
  rintro e W8 ⟨rfl, hb⟩
  have K8 := Lib.hid ((K7.out.push _).on hb)
  clear R1 K7 hb
  go_wp2_with fail
  refine (first_any K8.out.1).mono ?_
  rintro e W9 ⟨rfl, hb⟩
  have K9 := Lib.hid ((K8.out).on hb)
  clear K8 hb
  rw [show firstF (M.plainL a0) = 1 from by rw [plain_a0]; rfl]
  go_wp2_with fail
  refine (size_any K9.out.1).mono ?_
  rintro e W10 ⟨rfl, hb⟩
  have K10 := Lib.hid ((K9.out).on hb)
  clear K9 hb
  rw [show szF (M.plainL a0) = 5 from by rw [plain_a0]; rfl]
  go_wp2_with fail
  refine (has_any K10.out.1 4).mono ?_
  rintro e W11 ⟨rfl, hb⟩
  have K11 := Lib.hid ((K10.out).on hb)
  clear K10 hb
  rw [show M.hasB a0 4 = true from by rw [has_a0]; rfl]
  go_wp2_with fail
  refine (has_any K11.out.1 8).mono ?_
  rintro e W12 ⟨rfl, hb⟩
  have K12 := Lib.hid ((K11.out).on hb)
  clear K11 hb
  rw [show M.hasB a0 8 = false from by rw [has_a0]; rfl]
  go_wp2_with fail
  skip
  refine (same_any (K12.out.1.push _) (rd_one W12 1 5 _)).mono ?_
  rintro e W13 ⟨rfl, hb⟩
  have K13 := Lib.hid ((K12.out.push _).on hb)
  clear K12 hb
  rw [show sameL (M.plainL a0) (M.plainL [(1, 5)]) = true from sameL_yes (by rw [plain_a0, plain_15])]
  go_wp2_with fail
  refine (right_any K13.out.2.1).mono ?_
  rintro e W14 ⟨rfl, hb⟩
  have K14 := Lib.hid ((K13.out).on hb)
  clear K13 hb
  rw [right_b0]
  go_wp2_with fail
  refine (right_any K14.out.1).mono ?_
  rintro e W15 ⟨rfl, hb⟩
  have K15 := Lib.hid ((K14.out).on hb)
  clear K14 hb
  rw [right_a0]
  go_wp2_with fail
  refine (not_any K15.out.1).mono ?_
  rintro e W16 ⟨A2, n2, c2, L2, rfl, hL, hr, hb⟩
  obtain rfl := not_a hL
  have K16 := Lib.hid (K15.out.on hb)
  have R1 := Lib.hid hr
  clear hL hr hb K15
  go_wp2_with fail
  refine (size_any R1.out).mono ?_
  rintro e W17 ⟨rfl, hb⟩
  have K17 := Lib.hid (K16.out.on hb)
  clear K16 R1 hb
  rw [size_not]
  go_wp2
  go_ret
  exact ⟨rfl, K17.out.2.2⟩
end Go.Proofs.Ytgjimloobbkclaa
