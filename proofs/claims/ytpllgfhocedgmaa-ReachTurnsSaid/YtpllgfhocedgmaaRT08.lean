/- Forms and lists that are written out: a sign's form, rows of one form and of two, lists of numbers. -/
import Derived.Test.YtpllgfhocedgmaaRT06
import Derived.Test.YtpllgfhocedgmaaRT07
set_option maxRecDepth 100000
namespace Go.Proofs.Ytpllgfhocedgmaa
open Go.RowKit

theorem inAt_lit {w : World} {S : Nat → Prop} {b : Nat} {t : TypeId} {lh : Nat × Nat} (L : List Int) (h : w.heap[b]? = some (.cells (L.map (Value.int .i64)).toArray t lh)) (hS : S b) (hl : L.length ≤ maxLen) : InAt w S (some ⟨b, 0, none⟩) L.length L.length L :=
 ⟨rfl, Nat.le_refl _, hl, fun _ => ⟨b, 0, rfl, hS, fun j x hx => by
  rw [Nat.zero_add]
  simp [World.cell?, h, hx]⟩⟩
theorem rdP_1 {w : World} {S : Nat → Prop} {b : Nat} {t : TypeId} {lh : Nat × Nat} {a0 a1 a2 a3 : Value} {x : Pt} (h : w.heap[b]? = some (.cells #[a0, a1, a2, a3] t lh)) (hS : S b) (hx : PtAt w S [a0, a1, a2, a3] x) : RdP w S (some ⟨b, 0, none⟩) 1 1 [x] := by
 refine ⟨rfl, Nat.le_refl _, by simp [maxLen], fun _ => [a0, a1, a2, a3], fun _ => ⟨b, 0, rfl, hS, fun i hi j u hu => ?_⟩, fun i y hy => ?_⟩
 ·obtain rfl : i = 0 := by omega
  have hj := (List.getElem?_eq_some_iff.1 hu).1
  simp only [Nat.zero_mul, Nat.zero_add]
  simp only [World.cell?, h, Option.isSome_none, Bool.false_eq_true, if_false]
  rw [← Array.getElem?_toList]
  exact hu
 ·obtain rfl : i = 0 := by have := (List.getElem?_eq_some_iff.1 hy).1; simp at this; omega
  simp at hy
  exact hy ▸ hx
theorem rdP_2 {w : World} {S : Nat → Prop} {b : Nat} {t : TypeId} {lh : Nat × Nat} {a0 a1 a2 a3 b0 b1 b2 b3 : Value} {x y : Pt} (h : w.heap[b]? = some (.cells #[a0, a1, a2, a3, b0, b1, b2, b3] t lh)) (hS : S b) (hx : PtAt w S [a0, a1, a2, a3] x) (hy : PtAt w S [b0, b1, b2, b3] y) : RdP w S (some ⟨b, 0, none⟩) 2 2 [x, y] := by
 refine ⟨rfl, Nat.le_refl _, by simp [maxLen], fun i => if i = 0 then [a0, a1, a2, a3] else [b0, b1, b2, b3], fun _ => ⟨b, 0, rfl, hS, fun i hi j u hu => ?_⟩, fun i z hz => ?_⟩
 ·simp only [World.cell?, h, Option.isSome_none, Bool.false_eq_true, if_false, Nat.zero_add]
  rw [← Array.getElem?_toList]
  rcases (show i = 0 ∨ i = 1 by omega) with rfl | rfl
  ·have hj := (List.getElem?_eq_some_iff.1 hu).1
   simp only [if_true] at hu hj
   simp only [List.length_cons, List.length_nil] at hj
   rw [Nat.zero_mul, Nat.zero_add]
   rcases (show j = 0 ∨ j = 1 ∨ j = 2 ∨ j = 3 by omega) with rfl | rfl | rfl | rfl <;> exact hu
  ·have hj := (List.getElem?_eq_some_iff.1 hu).1
   simp only [Nat.one_ne_zero, if_false] at hu hj
   simp only [List.length_cons, List.length_nil] at hj
   rcases (show j = 0 ∨ j = 1 ∨ j = 2 ∨ j = 3 by omega) with rfl | rfl | rfl | rfl <;> exact hu
 ·rcases (show i = 0 ∨ i = 1 by have := (List.getElem?_eq_some_iff.1 hz).1; simp at this; omega) with rfl | rfl
  ·simp at hz
   simpa [← hz] using hx
  ·simp at hz
   simpa [← hz] using hy
def OneP (n : Int) (w : World) (en : Ending) (w' : World) : Prop := ∃ g, en = .returned (.agg #[.int .i64 2, .slice none 0 0, .slice (some ⟨g, 0, none⟩) 1 1, .slice none 0 0]) ∧ PtIn w' (Ub w' w.heap.size) none 0 0 (some ⟨g, 0, none⟩) 1 1 none 0 0 (sg n) ∧ Below w.heap.size w w'
set_option maxHeartbeats 1000000 in
theorem one_form {w : World} (n : Int) : Calls Try.prog 26 #[.int .i64 n] w (OneP n w) := by
 have z1 : (w.alloc (.cells #[.int .i64 2, .slice none 0 0, .slice (some ⟨w.heap.size + 1, 0, none⟩) 1 1, .slice none 0 0] 26)).heap.size = w.heap.size + 1 := by simp
 have r1 := heap_alloc_new (w.alloc (.cells #[.int .i64 2, .slice none 0 0, .slice (some ⟨w.heap.size + 1, 0, none⟩) 1 1, .slice none 0 0] 26)) (.cells #[.int .i64 n] 3)
 rw [z1] at r1
 have HR1 := Lib.hid r1
 have HB : Hid (Below w.heap.size w ((w.alloc (.cells #[.int .i64 2, .slice none 0 0, .slice (some ⟨w.heap.size + 1, 0, none⟩) 1 1, .slice none 0 0] 26)).alloc (.cells #[.int .i64 n] 3))) := (kbelow_push w _).trans ((kbelow_push _ _).mono (by omega))
 have HR0 := Lib.hid (((kbelow_push (w.alloc (.cells #[.int .i64 2, .slice none 0 0, .slice (some ⟨w.heap.size + 1, 0, none⟩) 1 1, .slice none 0 0] 26)) (.cells #[.int .i64 n] 3)).block w.heap.size (by omega)).trans (heap_alloc_new w _))
 have HF : Hid (OneP n w (.returned (.agg #[.int .i64 2, .slice none 0 0, .slice (some ⟨w.heap.size + 1, 0, none⟩) 1 1, .slice none 0 0])) ((w.alloc (.cells #[.int .i64 2, .slice none 0 0, .slice (some ⟨w.heap.size + 1, 0, none⟩) 1 1, .slice none 0 0] 26)).alloc (.cells #[.int .i64 n] 3))) := by
  refine ⟨_, rfl, ⟨RgAt.nil _ _, ?_, RdP.nil _ _⟩, HB.out⟩
  exact inAt_lit [n] HR1.out ⟨Nat.le_succ _, _, _, HR1.out⟩ (by simp [maxLen])
 clear z1 r1 HB
 go_enter Try.func26, Try.ntmps26
 go_wp2_with fail
 generalize hW9 : ((w.alloc (.cells #[.int .i64 2, .slice none 0 0, .slice (some ⟨w.heap.size + 1, 0, none⟩) 1 1, .slice none 0 0] 26)).alloc (.cells #[.int .i64 n] 3)) = W9 at *
 exact bodyPost_ret (results_c4 (a := 2) rfl (Try.isAgg26 _) (Try.sizeOf26 _) _ rfl HR0.out) rfl HF.out
end Go.Proofs.Ytpllgfhocedgmaa
