/- What both calls of Of are said to leave. -/
import Derived.Test.YtmhggapfejlbcaaT4
namespace Go.Proofs.Ytmhggapfejlbcaa
open Go.RowKit
open M (Rg)

/-- What Of leaves: the atoms in new memory, or nothing and the number of an error. -/
def OfPost (w : World) (ls : List (List Rg)) (e : Ending) (w' : World) : Prop :=
  ∃ res, M.OfSpec ls res ∧ (res = none → e = .returned (.tuple #[.slice none 0 0, .int .i64 9])) ∧
    (∀ R, res = some R → ∃ A n c gs, e = .returned (.tuple #[.slice A n c, .int .i64 0]) ∧ RdS w' w'.heap.size A n c gs ∧ listsOf gs = R) ∧ Below w.heap.size w w'
theorem of_none {w w' : World} {ls : List (List Rg)} (h : M.OfSpec ls none) (hb : Below w.heap.size w w') : OfPost w ls (.returned (.tuple #[.slice none 0 0, .int .i64 9])) w' :=
  ⟨none, h, fun _ => rfl, (fun R h => by cases h), hb⟩
theorem spec_sets {ls : List (List Rg)} (h : 60 < ls.length) : M.OfSpec ls none := ⟨fun _ => rfl, fun _ => rfl, fun _ => rfl, fun h' => by omega⟩
theorem spec_long {ls : List (List Rg)} {l : List Rg} (hl : l ∈ ls) (h : 400 < l.length) : M.OfSpec ls none := ⟨fun _ => rfl, fun _ => rfl, fun _ => rfl, fun _ h' => by have := h' l hl; omega⟩
theorem spec_many {ls : List (List Rg)} (h : M.TooMany ls) : M.OfSpec ls none := ⟨fun _ => rfl, fun _ => rfl, fun _ => rfl, fun _ _ h' => absurd h h'⟩
theorem spec_wide {ls R : List (List Rg)} {a : List Rg} (hR : M.IsAtoms ls R) (ha : a ∈ R) (h : 400 < a.length) : M.OfSpec ls none :=
  ⟨fun _ => rfl, fun _ => rfl, fun _ => rfl, fun _ _ _ => ⟨R, hR, fun _ => rfl, fun h' => by have := h' a ha; omega⟩⟩
theorem spec_some {ls R : List (List Rg)} (h1 : ls.length ≤ 60) (h2 : ∀ l ∈ ls, l.length ≤ 400) (hR : M.IsAtoms ls R) (h3 : R.length ≤ 200) (h4 : ∀ a ∈ R, a.length ≤ 400) : M.OfSpec ls (some R) :=
  ⟨fun h => by omega, fun ⟨l, hl, h⟩ => by have := h2 l hl; omega, fun h => absurd h (M.few_atoms hR h3), fun _ _ _ => ⟨R, hR, fun ⟨a, ha, h⟩ => by have := h4 a ha; omega, fun _ => rfl⟩⟩
end Go.Proofs.Ytmhggapfejlbcaa
