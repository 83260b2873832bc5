/- The program's Read, which catches what is panicked with. -/
import Derived.Test.YtdhighnbbpngpaaGreatDoorQI
set_option maxRecDepth 100000
namespace Go.Proofs.YtdhighnbbpngpaaGreatDoor
open Go.RowKit
open Q (isC plainB digV R numS uS escS readS)

/-- Four variables that a closure holds: a place, and three results. -/
structure Four (w : World) (b0 b1 b2 b3 : Nat) (at_ v1 v2 v3 : Int) : Prop where
  k0 : w.heap[b0]? = some (.cells #[.int .i64 at_] 3 (0, 0))
  k1 : w.heap[b1]? = some (.cells #[.int .i64 v1] 3 (0, 0))
  k2 : w.heap[b2]? = some (.cells #[.int .i64 v2] 3 (0, 0))
  k3 : w.heap[b3]? = some (.cells #[.int .i64 v3] 25 (0, 0))
  d1 : b1 = b0 + 1
  d2 : b2 = b0 + 2
  d3 : b3 = b0 + 3
theorem Four.lt {w : World} {b0 b1 b2 b3 : Nat} {at_ v1 v2 v3 : Int} (h : Four w b0 b1 b2 b3 at_ v1 v2 v3) : b3 < w.heap.size := by
  rcases Nat.lt_or_ge b3 w.heap.size with hl | hl
  · exact hl
  · have := h.k3; rw [Array.getElem?_eq_none hl] at this; cases this
theorem Four.on {w w' : World} {b0 b1 b2 b3 : Nat} {at_ v1 v2 v3 : Int} (h : Four w b0 b1 b2 b3 at_ v1 v2 v3) (hb : Below w.heap.size w w') : Four w' b0 b1 b2 b3 at_ v1 v2 v3 := by
  have hl := h.lt
  have e1 := h.d1; have e2 := h.d2; have e3 := h.d3
  exact ⟨(hb.block _ (by omega)).trans h.k0, (hb.block _ (by omega)).trans h.k1, (hb.block _ (by omega)).trans h.k2, (hb.block _ (by omega)).trans h.k3, e1, e2, e3⟩
theorem Four.drew {w : World} {b0 b1 b2 b3 : Nat} {at_ v1 v2 v3 : Int} (h : Four w b0 b1 b2 b3 at_ v1 v2 v3) : Four w.drew b0 b1 b2 b3 at_ v1 v2 v3 := ⟨h.k0, h.k1, h.k2, h.k3, h.d1, h.d2, h.d3⟩
theorem put_four {W : World} {b0 : Nat} {at_ v1 v2 v3 : Int} (h : W.heap[b0]? = some (.cells #[.int .i64 at_] 3 (0, 0)) ∧ W.heap[b0 + 1]? = some (.cells #[.int .i64 v1] 3 (0, 0)) ∧ W.heap[b0 + 2]? = some (.cells #[.int .i64 v2] 3 (0, 0)) ∧ W.heap[b0 + 3]? = some (.cells #[.int .i64 v3] 25 (0, 0))) (y1 y2 y3 : Int) :
    Four (((W.setCell ⟨b0 + 1, 0, none⟩ (.int .i64 y1)).setCell ⟨b0 + 2, 0, none⟩ (.int .i64 y2)).setCell ⟨b0 + 3, 0, none⟩ (.int .i64 y3)) b0 (b0 + 1) (b0 + 2) (b0 + 3) at_ y1 y2 y3 := by
  obtain ⟨k0, k1, k2, k3⟩ := h
  refine ⟨?_, ?_, ?_, ?_, rfl, rfl, rfl⟩
  · rw [heap_setCell_other _ _ _ _ (by show b0 ≠ b0 + 3; omega), heap_setCell_other _ _ _ _ (by show b0 ≠ b0 + 2; omega), heap_setCell_other _ _ _ _ (by show b0 ≠ b0 + 1; omega)]; exact k0
  · rw [heap_setCell_other _ _ _ _ (by show b0 + 1 ≠ b0 + 3; omega), heap_setCell_other _ _ _ _ (by show b0 + 1 ≠ b0 + 2; omega), heap_setCell_same _ _ _ _ _ _ k1]; rfl
  · rw [heap_setCell_other _ _ _ _ (by show b0 + 2 ≠ b0 + 3; omega), heap_setCell_same _ _ _ _ _ _ ((heap_setCell_other _ _ _ _ (by show b0 + 2 ≠ b0 + 1; omega)).trans k2)]; rfl
  · rw [heap_setCell_same _ _ _ _ _ _ ((heap_setCell_other _ _ _ _ (by show b0 + 3 ≠ b0 + 2; omega)).trans ((heap_setCell_other _ _ _ _ (by show b0 + 3 ≠ b0 + 1; omega)).trans k3))]; rfl
/-- A deferred call's end, under one name. -/
def endS (P : Program) (fn : Func) (c₀ : Frame) (cs cs' : List Frame) (R : Ending → FrameMode → World → Prop) : Exit → Act → World → Prop := fun e a w => bodyPostS P fn c₀ cs R e a cs' w
theorem catch_idle (a0 a1 a2 a3 : Value) (w : World) :
    CallsD Tryz.prog 216 #[a0, a1, a2, a3] .returning w fun e u' w' => e = .returned (.tuple #[]) ∧ u' = .returning ∧ w' = w := by
  refine callsD_of_wpS Tryz.func216 rfl fun c₀ cs hu => ?_
  simp only [Tryz.ntmps216, List.size_toArray, List.length_cons, List.length_nil, Nat.reduceAdd, Nat.reduceSub, Array.replicate_succ, Array.replicate_zero, List.push_toArray, List.append_toArray, List.nil_append, List.cons_append]
  apply wpS_seq
  apply wpS_region
  simp [wpOpsS, go_sem, recoverD, hu, Exit.thenS]
  refine wpS_of_wp ?_
  generalize hR : (fun (e : Ending) (u' : FrameMode) (w' : World) => e = .returned (.tuple #[]) ∧ u' = .returning ∧ w' = w) = R
  change Code.wp _ _ (endS Tryz.prog Tryz.f216 c₀ cs (c₀ :: cs) R) _ _
  have HU := Lib.hid hu
  have HR := Lib.hid hR
  clear hu hR
  go_wp2
  have hu := HU.out
  have hR := HR.out
  refine ⟨rfl, .returning, ?_, .tuple #[], by simp [results, Tryz.results216, go_sem], ?_⟩
  · cases c₀; simp at hu; rw [hu]
  · rw [← hR]; exact ⟨rfl, rfl, rfl⟩
theorem assert_stop (v : Value) (w : World) : (Instr.typeAssert (.iface 195 v) 20 195 true).run Tryz.prog w = .ok (.tuple #[v, .bool true]) w := by
  simp [Instr.typeAssert, run_underlying Tryz.underlying195]
set_option maxHeartbeats 1000000 in
theorem catch_pan {w : World} {b0 b1 b2 b3 : Nat} {at_ v1 v2 v3 : Int} (h : Four w b0 b1 b2 b3 at_ v1 v2 v3) (x : Int) (older : List PanicEntry) :
    CallsD Tryz.prog 216 #[.pointer (some ⟨b0, 0, none⟩), .pointer (some ⟨b1, 0, none⟩), .pointer (some ⟨b2, 0, none⟩), .pointer (some ⟨b3, 0, none⟩)] (.panicking ({ v := .iface 195 (.agg #[.int .i64 x]), recovered := false } :: older)) w fun e u' w' =>
      e = .returned (.tuple #[]) ∧ u' = .panicking ({ v := .iface 195 (.agg #[.int .i64 x]), recovered := true } :: older) ∧ Four w' b0 b1 b2 b3 at_ 0 at_ x ∧ Below b0 w w' := by
  refine callsD_of_wpS Tryz.func216 rfl fun c₀ cs hu => ?_
  simp only [Tryz.ntmps216, List.size_toArray, List.length_cons, List.length_nil, Nat.reduceAdd, Nat.reduceSub, Array.replicate_succ, Array.replicate_zero, List.push_toArray, List.append_toArray, List.nil_append, List.cons_append]
  apply wpS_seq
  apply wpS_region
  simp [wpOpsS, go_sem, recoverD, hu, Exit.thenS]
  refine wpS_of_wp ?_
  generalize hR : (fun (e : Ending) (u' : FrameMode) (w' : World) => e = .returned (.tuple #[]) ∧ u' = .panicking ({ v := .iface 195 (.agg #[.int .i64 x]), recovered := true } :: older) ∧ Four w' b0 b1 b2 b3 at_ 0 at_ x ∧ Below b0 w w') = R
  generalize hcs : ({ c₀ with mode := .panicking ({ v := .iface 195 (.agg #[.int .i64 x]), recovered := true } :: older) } :: cs : List Frame) = cs'
  change Code.wp _ _ (endS Tryz.prog Tryz.f216 c₀ cs cs' R) _ _
  have HU := Lib.hid hu
  have HR := Lib.hid hR
  have HCS := Lib.hid hcs
  clear hu hR hcs
  have HF := Lib.hid h
  clear h
  have q1 := assert_stop (.agg #[.int .i64 x]) w
  go_wp2
  clear q1
  obtain ⟨W1, hW1⟩ : ∃ W1, W1 = w.alloc (.cells #[.int .i64 x] 195) := ⟨_, rfl⟩
  have hF1 : Four W1 b0 b1 b2 b3 at_ v1 v2 v3 := by
    have hb := kbelow_push w (.cells #[.int .i64 x] 195)
    rw [hW1]; exact HF.out.on hb
  have c4 : W1.cell? ⟨w.heap.size, 0, none⟩ = some (.int .i64 x) := by rw [hW1, cell_of_row _ _ _ _ _ _ (heap_alloc_new w _)]; rfl
  have hne4 : b0 + 3 < w.heap.size := by have := HF.out.lt; rwa [HF.out.d3] at this
  rw [← hW1]
  have HW1 := Lib.hid hW1
  clear hW1
  obtain ⟨k0, k1, k2, k3, rfl, rfl, rfl⟩ := hF1
  have c0 : W1.cell? ⟨b0, 0, none⟩ = some (.int .i64 at_) := by rw [cell_of_row _ _ _ _ _ _ k0]; rfl
  have c1 : W1.cell? ⟨b0 + 1, 0, none⟩ = some (.int .i64 v1) := by rw [cell_of_row _ _ _ _ _ _ k1]; rfl
  have c2 : W1.cell? ⟨b0 + 2, 0, none⟩ = some (.int .i64 v2) := by rw [cell_of_row _ _ _ _ _ _ k2]; rfl
  have c3 : W1.cell? ⟨b0 + 3, 0, none⟩ = some (.int .i64 v3) := by rw [cell_of_row _ _ _ _ _ _ k3]; rfl
  have f1 : W1.frozen? ⟨b0 + 1, 0, none⟩ = false := frozen_of_row _ _ _ _ _ k1
  have f2 : W1.frozen? ⟨b0 + 2, 0, none⟩ = false := frozen_of_row _ _ _ _ _ k2
  have f3 : W1.frozen? ⟨b0 + 3, 0, none⟩ = false := frozen_of_row _ _ _ _ _ k3
  have K := Lib.hid (And.intro k0 (And.intro k1 (And.intro k2 k3)))
  clear k0 k1 k2 k3
  have hNw := hne4
  generalize hN : w.heap.size = N at hne4 c4 ⊢
  have HN := Lib.hid hN
  clear hN
  have n1 : ¬ b0 + 1 = N := by omega
  have n2 : ¬ b0 + 2 = N := by omega
  have n3 : ¬ b0 + 3 = N := by omega
  go_region
  have hR := HR.out
  refine ⟨rfl, _, HCS.out.symm, .tuple #[], by simp [results, Tryz.results216, go_sem], ?_⟩
  rw [← hR]
  refine ⟨rfl, rfl, (put_four K.out _ _ _).drew, ?_⟩
  rw [HW1.out]
  exact ((((((Below.refl b0 w).alloc (by omega) (.cells #[.int .i64 x] 195)).setCell (p := ⟨b0 + 1, 0, none⟩) (by show b0 ≤ b0 + 1; omega) (.int .i64 0)).setCell (p := ⟨b0 + 2, 0, none⟩) (by show b0 ≤ b0 + 2; omega) (.int .i64 at_)).setCell (p := ⟨b0 + 3, 0, none⟩) (by show b0 ≤ b0 + 3; omega) (.int .i64 x)).drew)
end Go.Proofs.YtdhighnbbpngpaaGreatDoor
