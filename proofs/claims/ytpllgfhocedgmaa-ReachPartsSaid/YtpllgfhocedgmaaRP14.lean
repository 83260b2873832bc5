/- Two small numbers as an argument. -/
import Derived.Test.YtpllgfhocedgmaaRP13
import Derived.OpenShut
set_option maxRecDepth 100000
namespace Go.Proofs.Ytpllgfhocedgmaa
open Go.ChangeShapes Go.WideShapes Go.ChangeAt Go.RowKit Go.Deep

theorem cells_two8 : Try.prog.cellsOf 37 = 2 := by kernel_rfl
theorem cells_u8 : Try.prog.cellsOf 5 = 1 := by kernel_rfl
theorem two8_arg {H : Type} {enc : TypeId × Value → H} {W : World} {r : Reach} {b0 : Nat} {v : Value} {d : DataW H} {p : List MemPlace} (hv : Value.okWide Try.prog W r b0 37 v) (h : DataW.Trod enc Try.prog W 0 (fun _ => true) true 37 v d p) :
  ∃ y z : Int, v = .agg #[.int .u8 y, .int .u8 z] ∧ (0 ≤ y ∧ y ≤ 255) ∧ (0 ≤ z ∧ z ≤ 255) := by
 obtain ⟨cs, rfl, hcs⟩ : ∃ cs, v = .agg cs ∧ cs.size = Try.prog.cellsOf 37 := by
  simp only [Value.okWide, Try.underlying37] at hv
  obtain ⟨cs, h1, h2, _⟩ := hv
  exact ⟨cs, h1, h2⟩
 obtain ⟨fuel, hf⟩ := h
 obtain ⟨xs, m, hfu, hx, hl, hlen, hat⟩ := DataW.trod_array Try.underlying37 hf
 rw [cells_two8] at hcs
 obtain ⟨cl⟩ := cs
 have hcl : cl.length = 2 := by simpa using hcs
 match cl, hcl, xs, hlen with
 | [u0, u1], _, [y0, y1], _ =>
  have f0 := hat 0 (by decide)
  have f1 := hat 1 (by decide)
  simp [cells_u8, Value.cells] at f0 f1
  obtain ⟨y, e0, _, w0⟩ := DataW.trod_int Try.underlying5 f0
  obtain ⟨z, e1, _, w1⟩ := DataW.trod_int Try.underlying5 f1
  simp at e0 e1
  subst e0 e1
  have hr : ∀ a : Int, (Lit.int .u8 a).wf = true → 0 ≤ a ∧ a ≤ 255 := fun a h => by
   have e1 : IntKind.min .u8 = 0 := rfl
   have e2 : IntKind.max .u8 = 255 := rfl
   simp [Lit.wf, e1, e2] at h
   exact h
  exact ⟨y, z, rfl, hr y w0, hr z w1⟩
end Go.Proofs.Ytpllgfhocedgmaa
