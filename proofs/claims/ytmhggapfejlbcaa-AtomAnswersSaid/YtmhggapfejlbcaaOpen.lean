/- How an argument that is a slice of ranges is read: as a list of ranges in memory. -/
import Derived.Test.YtmhggapfejlbcaaMem
import Derived.ProofKit
import Derived.Deep.Slices
import Derived.Deep.Fields
import Derived.ChangeSame
namespace Go.Proofs.Ytmhggapfejlbcaa
open Go.ChangeShapes Go.WideShapes Go.ChangeAt Go.RowKit Go.Deep
open M (Rg)

theorem Try.own : ownKnob Try.prog.godebug = none := by kernel_rfl
theorem Try.laidOut : laidOutB Try.prog = true := by kernel_rfl

theorem cells_I : Try.prog.cellsOf 3 = 1 := by kernel_rfl
theorem cells_R : Try.prog.cellsOf 38 = 2 := by kernel_rfl
theorem lt_of_cell {w : World} {a : Addr} {v : Value} (h : w.cell? a = some v) : a.block < w.heap.size := by
  rcases Nat.lt_or_ge a.block w.heap.size with hlt | hge
  · exact hlt
  · unfold World.cell? at h; rw [Array.getElem?_eq_none hge] at h; cases h

/-- A list of cells, two by two, as ranges. -/
theorem pairs_of (w : World) (a : Addr) : ∀ (n : Nat), (∀ i, i < n → ∃ lo hi : Int, w.cell? (a.add (i * 2)) = some (.int .i64 lo) ∧ w.cell? (a.add (i * 2 + 1)) = some (.int .i64 hi)) →
    ∃ L : List Rg, L.length = n ∧ ∀ i, (h : i < L.length) → w.cell? (a.add (i * 2)) = some (.int .i64 L[i].1) ∧ w.cell? (a.add (i * 2 + 1)) = some (.int .i64 L[i].2)
  | 0, _ => ⟨[], rfl, fun i h => absurd h (by simp)⟩
  | n + 1, h => by
    obtain ⟨L, hl, hc⟩ := pairs_of w a n fun i hi => h i (by omega)
    obtain ⟨lo, hi, h1, h2⟩ := h n (by omega)
    refine ⟨L ++ [(lo, hi)], by simp [hl], fun i hi' => ?_⟩
    by_cases hin : i < L.length
    · rw [List.getElem_append_left hin]; exact hc i hin
    · have : i = L.length := by simp at hi'; omega
      subst this
      simp [hl, h1, h2]

set_option maxRecDepth 100000 in
/-- An argument that is a slice of ranges. -/
theorem rd_arg {H : Type} {enc : TypeId × Value → H} {W : World} {r : Reach} {b0 : Nat} {v : Value} {d : DataW H} {p : List MemPlace} (hv : Value.okWide Try.prog W r b0 23 v)
    (h : DataW.Trod enc Try.prog W 0 (fun _ => true) true 23 v d p) : ∃ A n c L, v = .slice A n c ∧ Rd W W.heap.size A n c L := by
  obtain ⟨a0, len, cap, rfl⟩ := okWide_slice Try.underlying23 hv
  obtain ⟨fuel, hf⟩ := h
  rcases open_slice Try.underlying23 hf with ⟨hcs, hx⟩ | ⟨a, len', cap', m, k, D, Pl, hcs, _, hl, hm, hmm, hx, hcell⟩
  · simp [Value.cells] at hcs
    obtain ⟨rfl, rfl, rfl⟩ := hcs
    exact ⟨none, 0, 0, [], rfl, Rd.nil _ _⟩
  · simp [Value.cells] at hcs
    obtain ⟨rfl, rfl, rfl⟩ := hcs
    simp only [if_true] at hmm
    subst hmm
    have hp : ∀ i, i < len → ∃ lo hi : Int, W.cell? (a.add (i * 2)) = some (.int .i64 lo) ∧ W.cell? (a.add (i * 2 + 1)) = some (.int .i64 hi) := by
      intro i hi
      obtain ⟨cs, hcc, htt⟩ := hcell i (by omega)
      rw [cells_R] at hcc
      obtain ⟨_, hlen, hat⟩ := World.cells?_some hcc
      obtain ⟨y0, y1, k', _, _, t1, t2⟩ := trod_struct2 Try.underlying38 htt
      match cs, hlen with
      | [u0, u1], _ =>
        have t1' : DataW.trod enc Try.prog W 0 (fun _ => true) true k' 3 [u0] = some y0 := by simpa [cells_I] using t1
        have t2' : DataW.trod enc Try.prog W 0 (fun _ => true) true k' 3 [u1] = some y1 := by simpa [cells_I] using t2
        obtain ⟨x1, e1, _, _⟩ := DataW.trod_int Try.underlying3 t1'
        obtain ⟨x2, e2, _, _⟩ := DataW.trod_int Try.underlying3 t2'
        simp at e1 e2
        subst e1 e2
        have c1 := hat 0 (by omega)
        have c2 := hat 1 (by omega)
        rw [Go.Deep.add_add] at c1 c2
        exact ⟨x1, x2, by simpa using c1, by simpa using c2⟩
    obtain ⟨L, hL, hc⟩ := pairs_of W a len hp
    refine ⟨some a, len, _, L, rfl, hL, hl, hm, fun hn => ?_⟩
    have h0 := (hc 0 (by omega)).1
    have hs : a.spot = none := by
      have := World.cell?_spot h0
      simpa [Addr.add] using this
    obtain ⟨b, off, sp⟩ := a
    simp at hs
    subst hs
    refine ⟨b, off, rfl, ?_, fun j u hu => ?_⟩
    · have := lt_of_cell h0; simpa [Addr.add] using this
    · have hj : j < L.length * 2 := by
        have := (List.getElem?_eq_some_iff.1 hu).1; rwa [cellsR_len] at this
      rcases (show j % 2 = 0 ∨ j % 2 = 1 by omega) with g | g
      · have e : j = j / 2 * 2 := by omega
        rw [e] at hu ⊢
        rw [cellsR_lo L _ (by omega)] at hu
        rw [← add_none, (hc (j / 2) (by omega)).1, hu]
      · have e : j = j / 2 * 2 + 1 := by omega
        rw [e] at hu ⊢
        rw [cellsR_hi L _ (by omega)] at hu
        rw [← add_none, (hc (j / 2) (by omega)).2, hu]
end Go.Proofs.Ytmhggapfejlbcaa
