/- ReachKinds' walk. -/
import Derived.Test.YtpllgfhocedgmaaRT11
set_option maxRecDepth 100000
namespace Go.Proofs.Ytpllgfhocedgmaa
open Go.RowKit

noncomputable def mtB (l : List Int) (x : Pt) (a b : Nat) : Bool := @decide (Mt l x a b) (Classical.propDecidable _)
theorem mtB_iff {l : List Int} {x : Pt} {a b : Nat} : mtB l x a b = true ↔ Mt l x a b := by unfold mtB; exact @decide_eq_true_iff _ (Classical.propDecidable _)
structure Bx (V : World) (N : Nat) (f : Pt) (sA : Option Addr) (sn sc : Nat) (gA : Option Addr) (gn gc : Nat) (A : Option Addr) (n c : Nat) : Prop where
 row : V.heap[N]? = some (.cells #[.int .i64 f.kind, .slice sA sn sc, .slice gA gn gc, .slice A n c] 26 (0, 0))
 pt : PtIn V (Bl V) sA sn sc gA gn gc A n c f
 few : f.size ≤ 10000
section
variable {V V' : World} {N : Nat} {f x y : Pt} {sA gA A tA uA B : Option Addr} {sn sc gn gc n c tn tc un uc m d : Nat}
theorem Bx.lt (h : Bx V N f sA sn sc gA gn gc A n c) : N < V.heap.size := (Array.getElem?_eq_some_iff.1 h.row).1
theorem Bx.on (h : Bx V N f sA sn sc gA gn gc A n c) (hb : Below V.heap.size V V') : Bx V' N f sA sn sc gA gn gc A n c := ⟨(hb.block N h.lt).trans h.row, h.pt.on hb, h.few⟩
theorem Bx.cells (h : Bx V N f sA sn sc gA gn gc A n c) : V.cell? ⟨N, 0, none⟩ = some (.int .i64 f.kind) ∧ V.cell? ⟨N, 1, none⟩ = some (.slice sA sn sc) ∧ V.cell? ⟨N, 2, none⟩ = some (.slice gA gn gc) ∧ V.cell? ⟨N, 3, none⟩ = some (.slice A n c) := hcells4 h.row
end
section
variable (l : List Int) (p q : Pt) (i : Nat)
end
end Go.Proofs.Ytpllgfhocedgmaa
