/- How an argument that is a slice of numbers is read: as a list of numbers in memory. -/
import Derived.Test.YtdhighnbbpngpaaGreatDoorKMem
import Derived.ProofKit
import Derived.Deep.Slices
import Derived.Deep.Fields
import Derived.ChangeSame
namespace Go.Proofs.YtdhighnbbpngpaaGreatDoor
open Go.ChangeShapes Go.WideShapes Go.ChangeAt Go.RowKit Go.Deep

theorem Tryz.own : ownKnob Tryz.prog.godebug = none := by kernel_rfl
theorem Tryz.laidOut : laidOutB Tryz.prog = true := by kernel_rfl
theorem list_of (w : World) (a : Addr) (k : IntKind) : ∀ (n : Nat), (∀ i, i < n → ∃ x : Int, w.cell? (a.add i) = some (.int k x) ∧ (Lit.int k x).wf = true) →
    ∃ L : List Int, L.length = n ∧ (∀ (i : Nat) (x : Int), L[i]? = some x → w.cell? (a.add i) = some (.int k x)) ∧ ∀ x ∈ L, (Lit.int k x).wf = true
  | 0, _ => ⟨[], rfl, fun i x h => by simp at h, fun x h => by cases h⟩
  | n + 1, h => by
    obtain ⟨L, hl, hc, hw⟩ := list_of w a k n fun i hi => h i (by omega)
    obtain ⟨y, h1, h2⟩ := h n (by omega)
    refine ⟨L ++ [y], by simp [hl], fun i x hx => ?_, fun x hx => ?_⟩
    · by_cases hin : i < L.length
      · rw [List.getElem?_append_left hin] at hx; exact hc i x hx
      · have hi : i < (L ++ [y]).length := (List.getElem?_eq_some_iff.1 hx).1
        obtain rfl : i = L.length := by simp at hi; omega
        simp at hx
        subst hx
        rw [hl]; exact h1
    · rcases List.mem_append.1 hx with hx | hx
      · exact hw x hx
      · simp at hx; subst hx; exact h2
set_option maxRecDepth 100000 in
/-- An argument that is a slice of numbers. -/
theorem rdk_arg {H : Type} {enc : TypeId × Value → H} {W : World} {r : Reach} {b0 : Nat} {v : Value} {d : DataW H} {p : List MemPlace} {t e : TypeId} {k : IntKind} (ht : Tryz.prog.underlying t = some (.slice e)) (he : Tryz.prog.underlying e = some (.int k)) (hce : Tryz.prog.cellsOf e = 1)
    (hv : Value.okWide Tryz.prog W r b0 t v) (h : DataW.Trod enc Tryz.prog W 0 (fun _ => true) true t v d p) : ∃ A n c L, v = .slice A n c ∧ RdK k W W.heap.size A n c L ∧ ∀ x ∈ L, (Lit.int k x).wf = true := by
  obtain ⟨a0, len, cap, rfl⟩ := okWide_slice ht hv
  obtain ⟨fuel, hf⟩ := h
  rcases open_slice ht hf with ⟨hcs, hx⟩ | ⟨a, len', cap', m, kk, D, Pl, hcs, _, hl, hm, hmm, hx, hcell⟩
  · simp [Value.cells] at hcs
    obtain ⟨rfl, rfl, rfl⟩ := hcs
    exact ⟨none, 0, 0, [], rfl, RdK.nil _ _ _, fun x h => by cases h⟩
  · simp [Value.cells] at hcs
    obtain ⟨rfl, rfl, rfl⟩ := hcs
    simp only [if_true] at hmm
    subst hmm
    have hp : ∀ i, i < len → ∃ x : Int, W.cell? (a.add i) = some (.int k x) ∧ (Lit.int k x).wf = true := by
      intro i hi
      obtain ⟨cs, hcc, htt⟩ := hcell i (by omega)
      rw [hce] at hcc
      obtain ⟨_, hlen, hat⟩ := World.cells?_some hcc
      obtain ⟨x, e1, _, hw⟩ := DataW.trod_int he htt
      subst e1
      have c1 := hat 0 (by omega)
      rw [Go.Deep.add_add] at c1
      exact ⟨x, by simpa using c1, hw⟩
    obtain ⟨L, hL, hc, hw⟩ := list_of W a k len hp
    refine ⟨some a, len, _, L, rfl, ⟨hL, hl, hm, fun hn => ?_⟩, hw⟩
    have h0 : W.cell? (a.add 0) = some (.int k (L[0]'(by omega))) := hc 0 _ (List.getElem?_eq_getElem (by omega))
    have hs : a.spot = none := by
      have := World.cell?_spot h0
      simpa [Addr.add] using this
    obtain ⟨b, off, sp⟩ := a
    simp at hs
    subst hs
    refine ⟨b, off, rfl, ?_, fun j x hj => ?_⟩
    · have := klt_of_cell h0; simpa [Addr.add] using this
    · rw [← kadd_none]; exact hc j x hj
end Go.Proofs.YtdhighnbbpngpaaGreatDoor
