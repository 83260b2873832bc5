/- word.read catches what its reader panics with. -/
import Derived.Test.YtddoobpflfooaaaDoorWP
set_option maxRecDepth 100000
namespace Go.Proofs.YtddoobpflfooaaaDoor
open Go.RowKit

/-- Three results that a closure holds. -/
structure Tri (w : World) (b : Nat) (tv : Value) (v2 v3 : Int) : Prop where
  k1 : w.heap[b + 1]? = some (.cells #[tv] 44 (0, 0))
  k2 : w.heap[b + 2]? = some (.cells #[.int .i64 v2] 3 (0, 0))
  k3 : w.heap[b + 3]? = some (.cells #[.int .i64 v3] 35 (0, 0))
section
variable {w w' : World} {b : Nat} {tv : Value} {v2 v3 : Int}
theorem Tri.lt (h : Tri w b tv v2 v3) : b + 3 < w.heap.size := by
  rcases Nat.lt_or_ge (b + 3) w.heap.size with hl | hl
  · exact hl
  · have := h.k3; rw [Array.getElem?_eq_none hl] at this; cases this
theorem Tri.fr (h : Tri w b tv v2 v3) (hf : Fr b w w') : Tri w' b tv v2 v3 :=
  ⟨(hf.block _ (by omega) (by omega)).trans h.k1, (hf.block _ (by omega) (by omega)).trans h.k2, (hf.block _ (by omega) (by omega)).trans h.k3⟩
theorem Tri.below (h : Tri w b tv v2 v3) (hb : Below w.heap.size w w') : Tri w' b tv v2 v3 := by
  have := h.lt
  exact ⟨(hb.block _ (by omega)).trans h.k1, (hb.block _ (by omega)).trans h.k2, (hb.block _ (by omega)).trans h.k3⟩
theorem Tri.drewN (h : Tri w b tv v2 v3) (q : Nat) : Tri (w.drewN q) b tv v2 v3 := ⟨h.k1, h.k2, h.k3⟩
theorem Tri.cells (h : Tri w b tv v2 v3) : w.cell? ⟨b + 1, 0, none⟩ = some tv ∧ w.cell? ⟨b + 2, 0, none⟩ = some (.int .i64 v2) ∧ w.cell? ⟨b + 3, 0, none⟩ = some (.int .i64 v3) ∧ w.frozen? ⟨b + 1, 0, none⟩ = false ∧ w.frozen? ⟨b + 2, 0, none⟩ = false ∧ w.frozen? ⟨b + 3, 0, none⟩ = false := by
  refine ⟨?_, ?_, ?_, frozen_of_row _ _ _ _ _ h.k1, frozen_of_row _ _ _ _ _ h.k2, frozen_of_row _ _ _ _ _ h.k3⟩
  · rw [cell_of_row _ _ _ _ _ _ h.k1]; rfl
  · rw [cell_of_row _ _ _ _ _ _ h.k2]; rfl
  · rw [cell_of_row _ _ _ _ _ _ h.k3]; rfl
theorem Tri.put (h : Tri w b tv v2 v3) (x1 : Value) (x2 x3 : Int) : Tri (((w.setCell ⟨b + 1, 0, none⟩ x1).setCell ⟨b + 2, 0, none⟩ (.int .i64 x2)).setCell ⟨b + 3, 0, none⟩ (.int .i64 x3)) b x1 x2 x3 := by
  refine ⟨?_, ?_, ?_⟩
  · rw [heap_setCell_other _ _ _ _ (by show b + 1 ≠ b + 3; omega), heap_setCell_other _ _ _ _ (by show b + 1 ≠ b + 2; omega), heap_setCell_same _ _ _ _ _ _ h.k1]; rfl
  · rw [heap_setCell_other _ _ _ _ (by show b + 2 ≠ b + 3; omega), heap_setCell_same _ _ _ _ _ _ ((heap_setCell_other _ _ _ _ (by show b + 2 ≠ b + 1; omega)).trans h.k2)]; rfl
  · rw [heap_setCell_same _ _ _ _ _ _ ((heap_setCell_other _ _ _ _ (by show b + 3 ≠ b + 2; omega)).trans ((heap_setCell_other _ _ _ _ (by show b + 3 ≠ b + 1; omega)).trans h.k3))]; rfl
end
theorem catch_idle5 (a0 a1 a2 : Value) (w : World) :
    CallsD Tryd.prog 30 #[a0, a1, a2] .returning w fun e u' w' => e = .returned (.tuple #[]) ∧ u' = .returning ∧ w' = w := by
  refine callsD_of_wpS Tryd.func30 rfl fun c₀ cs hu => ?_
  simp only [Tryd.ntmps30, List.size_toArray, List.length_cons, List.length_nil, Nat.reduceAdd, Nat.reduceSub, Array.replicate_succ, Array.replicate_zero, List.push_toArray, List.append_toArray, List.nil_append, List.cons_append]
  apply wpS_seq
  apply wpS_region
  simp [wpOpsS, go_sem, recoverD, hu, Exit.thenS]
  refine wpS_of_wp ?_
  generalize hR : (fun (e : Ending) (u' : FrameMode) (w' : World) => e = .returned (.tuple #[]) ∧ u' = .returning ∧ w' = w) = R
  change Code.wp _ _ (endS Tryd.prog Tryd.f30 c₀ cs (c₀ :: cs) R) _ _
  have HU := Lib.hid hu
  have HR := Lib.hid hR
  clear hu hR
  go_wp2
  have hu := HU.out
  have hR := HR.out
  refine ⟨rfl, .returning, ?_, .tuple #[], by simp [results, Tryd.results30, go_sem], ?_⟩
  · cases c₀; simp at hu; rw [hu]
  · rw [← hR]; exact ⟨rfl, rfl, rfl⟩
theorem assert_stop5 (v : Value) (w : World) : (Instr.typeAssert (.iface 70 v) 20 70 true).run Tryd.prog w = .ok (.tuple #[v, .bool true]) w := by
  simp [Instr.typeAssert, run_underlying Tryd.underlying70]
set_option maxHeartbeats 1000000 in
theorem catch_pan5 {w : World} {b : Nat} {tv : Value} {v2 v3 : Int} (h : Tri w b tv v2 v3) (y x : Int) (older : List PanicEntry) :
    CallsD Tryd.prog 30 #[.pointer (some ⟨b + 1, 0, none⟩), .pointer (some ⟨b + 2, 0, none⟩), .pointer (some ⟨b + 3, 0, none⟩)] (.panicking ({ v := .iface 70 (.agg #[.int .i64 y, .int .i64 x]), recovered := false } :: older)) w fun e u' w' =>
      e = .returned (.tuple #[]) ∧ u' = .panicking ({ v := .iface 70 (.agg #[.int .i64 y, .int .i64 x]), recovered := true } :: older) ∧ Tri w' b (.slice none 0 0) y x ∧ Below b w w' := by
  refine callsD_of_wpS Tryd.func30 rfl fun c₀ cs hu => ?_
  simp only [Tryd.ntmps30, List.size_toArray, List.length_cons, List.length_nil, Nat.reduceAdd, Nat.reduceSub, Array.replicate_succ, Array.replicate_zero, List.push_toArray, List.append_toArray, List.nil_append, List.cons_append]
  apply wpS_seq
  apply wpS_region
  simp [wpOpsS, go_sem, recoverD, hu, Exit.thenS]
  refine wpS_of_wp ?_
  generalize hR : (fun (e : Ending) (u' : FrameMode) (w' : World) => e = .returned (.tuple #[]) ∧ u' = .panicking ({ v := .iface 70 (.agg #[.int .i64 y, .int .i64 x]), recovered := true } :: older) ∧ Tri w' b (.slice none 0 0) y x ∧ Below b w w') = R
  generalize hcs : ({ c₀ with mode := .panicking ({ v := .iface 70 (.agg #[.int .i64 y, .int .i64 x]), recovered := true } :: older) } :: cs : List Frame) = cs'
  change Code.wp _ _ (endS Tryd.prog Tryd.f30 c₀ cs cs' R) _ _
  have HU := Lib.hid hu
  have HR := Lib.hid hR
  have HCS := Lib.hid hcs
  clear hu hR hcs
  have HF := Lib.hid h
  clear h
  have q1 := assert_stop5 (.agg #[.int .i64 y, .int .i64 x]) w
  go_wp2
  clear q1
  obtain ⟨W1, hW1⟩ : ∃ W1, W1 = w.alloc (.cells #[.int .i64 y, .int .i64 x] 70) := ⟨_, rfl⟩
  have hF1 : Tri W1 b tv v2 v3 := by rw [hW1]; exact HF.out.below (kbelow_push w _)
  have d0 : W1.cell? ⟨w.heap.size, 0, none⟩ = some (.int .i64 y) := by rw [hW1, cell_of_row _ _ _ _ _ _ (heap_alloc_new w _)]; rfl
  have d1 : W1.cell? ⟨w.heap.size, 1, none⟩ = some (.int .i64 x) := by rw [hW1, cell_of_row _ _ _ _ _ _ (heap_alloc_new w _)]; rfl
  have hlt := HF.out.lt
  rw [← hW1]
  have HW1 := Lib.hid hW1
  clear hW1
  obtain ⟨c1, c2, c3, f1, f2, f3⟩ := hF1.cells
  have K := Lib.hid hF1
  clear hF1
  generalize hN : w.heap.size = N at hlt d0 d1 ⊢
  have HN := Lib.hid hN
  clear hN
  have n1 : ¬ b + 1 = N := by omega
  have n2 : ¬ b + 2 = N := by omega
  have n3 : ¬ b + 3 = N := by omega
  go_region
  have hR := HR.out
  refine ⟨rfl, _, HCS.out.symm, .tuple #[], by simp [results, Tryd.results30, go_sem], ?_⟩
  rw [← hR]
  refine ⟨rfl, rfl, (K.out.put _ _ _).drewN 1, ?_⟩
  rw [HW1.out]
  exact ((((((Below.refl b w).alloc (by have := HN.out; omega) (.cells #[.int .i64 y, .int .i64 x] 70)).setCell (p := ⟨b + 1, 0, none⟩) (by show b ≤ b + 1; omega) _).setCell (p := ⟨b + 2, 0, none⟩) (by show b ≤ b + 2; omega) _).setCell (p := ⟨b + 3, 0, none⟩) (by show b ≤ b + 3; omega) _).drew)
end Go.Proofs.YtddoobpflfooaaaDoor
