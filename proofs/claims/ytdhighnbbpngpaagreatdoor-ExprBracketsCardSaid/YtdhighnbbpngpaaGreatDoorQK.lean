/- The program's Read, whole. -/
import Derived.Test.YtdhighnbbpngpaaGreatDoorQJ
set_option maxRecDepth 100000
namespace Go.Proofs.YtdhighnbbpngpaaGreatDoor
open Go.RowKit
open Q (isC plainB digV R numS uS escS readS)

/-- What Read answers. -/
def readV (L : List Int) (at_ : Int) : Int × Int × Int :=
  if at_ < 0 ∨ (L.length : Int) < at_ then (0, at_, 1) else match readS (L.drop at_.toNat) at_.toNat with | .ok c k => (c, k, 0) | .bad x => (0, at_, x)
def ReadP (w : World) (L : List Int) (at_ : Int) (e : Ending) (w' : World) : Prop :=
  e = .returned (.tuple #[.int .i64 (readV L at_).1, .int .i64 (readV L at_).2.1, .int .i64 (readV L at_).2.2]) ∧ Below w.heap.size w w'
theorem four_new (w : World) (p : Int) (v2 v3 : Int) : Four ((((w.alloc (.cells #[.int .i64 p] 3)).alloc (.cells #[.int .i64 0] 3)).alloc (.cells #[.int .i64 v2] 3)).alloc (.cells #[.int .i64 v3] 25)) w.heap.size (w.heap.size + 1) (w.heap.size + 1 + 1) (w.heap.size + 1 + 1 + 1) p 0 v2 v3 := by
  refine ⟨?_, ?_, ?_, ?_, rfl, rfl, rfl⟩
  · rw [Lib.alloc_old _ _ _ (by simp <;> omega), Lib.alloc_old _ _ _ (by simp <;> omega), Lib.alloc_old _ _ _ (by simp <;> omega)]; exact heap_alloc_new w _
  · rw [Lib.alloc_old _ _ _ (by simp <;> omega), Lib.alloc_old _ _ _ (by simp)]
    have := heap_alloc_new (w.alloc (.cells #[.int .i64 p] 3)) (.cells #[.int .i64 0] 3)
    simpa using this
  · rw [Lib.alloc_old _ _ _ (by simp)]
    have := heap_alloc_new ((w.alloc (.cells #[.int .i64 p] 3)).alloc (.cells #[.int .i64 0] 3)) (.cells #[.int .i64 v2] 3)
    simpa using this
  · have := heap_alloc_new (((w.alloc (.cells #[.int .i64 p] 3)).alloc (.cells #[.int .i64 0] 3)).alloc (.cells #[.int .i64 v2] 3)) (.cells #[.int .i64 v3] 25)
    simpa using this
theorem below_new (w : World) (p : Int) (v2 v3 : Int) : Below w.heap.size w ((((w.alloc (.cells #[.int .i64 p] 3)).alloc (.cells #[.int .i64 0] 3)).alloc (.cells #[.int .i64 v2] 3)).alloc (.cells #[.int .i64 v3] 25)) :=
  ((((Below.refl _ w).alloc (Nat.le_refl _) _).alloc (by simp) _).alloc (by simp <;> omega) _).alloc (by simp <;> omega) _
theorem Four.cells {w : World} {b0 b1 b2 b3 : Nat} {at_ v1 v2 v3 : Int} (h : Four w b0 b1 b2 b3 at_ v1 v2 v3) :
    w.cell? ⟨b0, 0, none⟩ = some (.int .i64 at_) ∧ w.cell? ⟨b1, 0, none⟩ = some (.int .i64 v1) ∧ w.cell? ⟨b2, 0, none⟩ = some (.int .i64 v2) ∧ w.cell? ⟨b3, 0, none⟩ = some (.int .i64 v3) ∧ w.frozen? ⟨b1, 0, none⟩ = false ∧ w.frozen? ⟨b2, 0, none⟩ = false ∧ w.frozen? ⟨b3, 0, none⟩ = false := by
  refine ⟨?_, ?_, ?_, ?_, frozen_of_row _ _ _ _ _ h.k1, frozen_of_row _ _ _ _ _ h.k2, frozen_of_row _ _ _ _ _ h.k3⟩
  · rw [cell_of_row _ _ _ _ _ _ h.k0]; rfl
  · rw [cell_of_row _ _ _ _ _ _ h.k1]; rfl
  · rw [cell_of_row _ _ _ _ _ _ h.k2]; rfl
  · rw [cell_of_row _ _ _ _ _ _ h.k3]; rfl
theorem Four.only {w w' : World} {b0 b1 b2 b3 b : Nat} {at_ v1 v2 v3 : Int} (h : Four w b0 b1 b2 b3 at_ v1 v2 v3) (ho : Only b w w') (hb : b3 < b) : Four w' b0 b1 b2 b3 at_ v1 v2 v3 := by
  have e1 := h.d1; have e2 := h.d2; have e3 := h.d3
  exact ⟨(ho.block _ (by omega)).trans h.k0, (ho.block _ (by omega)).trans h.k1, (ho.block _ (by omega)).trans h.k2, (ho.block _ (by omega)).trans h.k3, e1, e2, e3⟩
theorem Only.below {w w' : World} {b B : Nat} (h : Only b w w') (hb : B ≤ b) : Below B w w' := ⟨h.os, h.tape, h.output, Nat.le_of_eq h.size.symm, fun k hk => h.block k (by omega)⟩
theorem readP_arg {w w' : World} {L : List Int} {at_ : Int} (h : at_ < 0 ∨ (L.length : Int) < at_) (hb : Below w.heap.size w w') : ReadP w L at_ (.returned (.tuple #[.int .i64 0, .int .i64 at_, .int .i64 1])) w' := ⟨by unfold readV; rw [if_pos h], hb⟩
theorem readP_ok {w w' : World} {L : List Int} {p k : Nat} {x : Int} (h : p ≤ L.length) (hr : readS (L.drop p) p = .ok x k) (hb : Below w.heap.size w w') : ReadP w L p (.returned (.tuple #[.int .i64 x, .int .i64 k, .int .i64 0])) w' :=
  ⟨by unfold readV; rw [if_neg (by omega)]; simp only [Int.toNat_natCast]; rw [hr], hb⟩
theorem readP_bad {w w' : World} {L : List Int} {p : Nat} {x : Int} (h : p ≤ L.length) (hr : readS (L.drop p) p = .bad x) (hb : Below w.heap.size w w') : ReadP w L p (.returned (.tuple #[.int .i64 0, .int .i64 p, .int .i64 x])) w' :=
  ⟨by unfold readV; rw [if_neg (by omega)]; simp only [Int.toNat_natCast]; rw [hr], hb⟩
/-- Behind the last deferred call: three results that lie in memory. -/
theorem leaves_three {w' : World} {b0 b1 b2 b3 : Nat} {at_ v1 v2 v3 : Int} {tmps : Array Value} {R : Ending → World → Prop} (hF : Four w' b0 b1 b2 b3 at_ v1 v2 v3)
    (t4 : tmps[4]?.getD undef = .pointer (some ⟨b1, 0, none⟩)) (t5 : tmps[5]?.getD undef = .pointer (some ⟨b2, 0, none⟩)) (t6 : tmps[6]?.getD undef = .pointer (some ⟨b3, 0, none⟩))
    (hR : R (.returned (.tuple #[.int .i64 v1, .int .i64 v2, .int .i64 v3])) w') :
    Leaves Tryz.prog Tryz.f200 tmps R [] .returning w' := by
  obtain ⟨c0, c1, c2, c3, _⟩ := hF.cells
  refine ⟨_, ?_, hR⟩
  simp [results, Tryz.results200, go_sem, t4, t5, t6, c1, c2, c3]
set_option maxHeartbeats 2000000 in
theorem read_any {w : World} {A : Option Addr} {n c : Nat} {L : List Int} (h : RdK .i64 w w.heap.size A n c L) (at_ : Int) :
    Calls Tryz.prog 200 #[.slice A n c, .int .i64 at_] w (ReadP w L at_) := by
  have hmf : ∀ (fn : Fn) (first cap : Array Value) (w : World), (Instr.makeFunc fn first cap).run Tryz.prog w = .ok (.func fn first cap) w := fun _ _ _ _ => rfl
  have hs := h.small
  have hlen := Lib.hid h.len
  have HH := Lib.hid h
  clear h
  by_cases h0 : at_ < 0
  · go_enter_defers Tryz.func200, Tryz.ntmps200
    go_wp2_with fail
    go_region
    go_wp2_with fail
    exact leaves_three (four_new w at_ at_ 1).drew rfl rfl rfl (readP_arg (.inl h0) (below_new w at_ at_ 1).drew)
  · by_cases h1 : (n : Int) < at_
    · go_enter_defers Tryz.func200, Tryz.ntmps200
      go_wp2_with fail
      go_region
      go_wp2_with fail
      exact leaves_three (four_new w at_ at_ 1).drew rfl rfl rfl (readP_arg (.inr (by rw [hlen.out]; exact h1)) (below_new w at_ at_ 1).drew)
    · obtain ⟨p, rfl⟩ : ∃ p : Nat, at_ = p := ⟨at_.toNat, by omega⟩
      have hp : p ≤ n := by omega
      have HP : Hid (p ≤ L.length) := by rw [hlen.out]; exact hp
      clear h0 h1
      go_enter_defers Tryz.func200, Tryz.ntmps200
      go_wp2_with fail
      have HF0 := Lib.hid (four_new w p 0 0)
      have HB0 := Lib.hid (below_new w p 0 0)
      generalize hW0 : ((((w.alloc (.cells #[.int .i64 p] 3)).alloc (.cells #[.int .i64 0] 3)).alloc (.cells #[.int .i64 0] 3)).alloc (.cells #[.int .i64 0] 25)) = W0 at HF0 HB0 ⊢
      have hz : W0.heap.size = w.heap.size + 1 + 1 + 1 + 1 := by rw [← hW0]; simp
      have hR0 : Rdr (W0.alloc (.cells #[.slice A n c, .int .i64 p] 198)) (w.heap.size + 1 + 1 + 1 + 1) A n c L p := by
        refine ⟨by rw [← hz]; exact heap_alloc_new W0 _, ?_, hp⟩
        have := HH.out.keep (w' := W0.alloc (.cells #[.slice A n c, .int .i64 p] 198)) fun q hq => (HB0.out.trans ((kbelow_push W0 _).mono (by omega))).cell hq
        exact this.more (by omega)
      have HZ := Lib.hid hz
      clear hz hW0
      refine (character_any hR0).mono ?_
      clear hR0
      intro e w1 hg
      have HF1 := Lib.hid (HF0.out.on (kbelow_push W0 (.cells #[.slice A n c, .int .i64 p] 198)))
      have HB1 := Lib.hid (HB0.out.trans ((kbelow_push W0 (.cells #[.slice A n c, .int .i64 p] 198)).mono (by rw [HZ.out]; omega)))
      clear HF0 HB0
      generalize hr : readS (L.drop p) p = r at hg
      have HR := Lib.hid hr
      clear hr
      cases r with
      | ok x k =>
        obtain ⟨rfl, hrd, ho⟩ := hg
        have HF2 := Lib.hid (HF1.out.only ho (by omega))
        have HB2 := Lib.hid (HB1.out.trans (ho.below (by omega)))
        have ck : w1.cell? ⟨w.heap.size + 1 + 1 + 1 + 1, 1, none⟩ = some (.int .i64 k) := by rw [cell_of_row _ _ _ _ _ _ hrd.blk]; rfl
        obtain ⟨c0, c1, c2, c3, f1, f2, f3⟩ := HF2.out.cells
        have HG := Lib.hid (put_four ⟨(heap_setCell_other _ ⟨w.heap.size + 1, 0, none⟩ w.heap.size (.int .i64 x) (by show w.heap.size ≠ w.heap.size + 1; omega)).trans HF2.out.k0, (heap_setCell_same _ (w.heap.size + 1) 0 _ _ (.int .i64 x) HF2.out.k1), (heap_setCell_other _ ⟨w.heap.size + 1, 0, none⟩ (w.heap.size + 2) (.int .i64 x) (by show w.heap.size + 2 ≠ w.heap.size + 1; omega)).trans HF2.out.k2, (heap_setCell_other _ ⟨w.heap.size + 1, 0, none⟩ (w.heap.size + 3) (.int .i64 x) (by show w.heap.size + 3 ≠ w.heap.size + 1; omega)).trans HF2.out.k3⟩ x k 0)
        clear hrd ho HF1 HB1
        go_wp2_with fail
        go_region
        go_wp2_with fail
        refine leaves_cons (f := 216) (args := #[.pointer (some ⟨w.heap.size, 0, none⟩), .pointer (some ⟨w.heap.size + 1, 0, none⟩), .pointer (some ⟨w.heap.size + 1 + 1, 0, none⟩), .pointer (some ⟨w.heap.size + 1 + 1 + 1, 0, none⟩)]) (by simp) (by simp [go_sem]) ?_
        refine (catch_idle _ _ _ _ _).mono ?_
        rintro e u' w'' ⟨rfl, rfl, rfl⟩
        exact leaves_three HG.out.drew rfl rfl rfl (readP_ok HP.out HR.out ((((HB2.out.setCell (p := ⟨w.heap.size + 1, 0, none⟩) (by show _ ≤ _ + 1; omega) _).setCell (p := ⟨w.heap.size + 1, 0, none⟩) (by show _ ≤ _ + 1; omega) _).setCell (p := ⟨w.heap.size + 1 + 1, 0, none⟩) (by show _ ≤ _ + 1 + 1; omega) _).setCell (p := ⟨w.heap.size + 1 + 1 + 1, 0, none⟩) (by show _ ≤ _ + 1 + 1 + 1; omega) _).drew)
      | bad x =>
        obtain ⟨rfl, ho⟩ := hg
        have HF2 := Lib.hid (HF1.out.only ho (by omega))
        have HB2 := Lib.hid (HB1.out.trans (ho.below (by omega)))
        clear ho HF1 HB1
        go_wp2_with fail
        refine leaves_cons (f := 216) (args := #[.pointer (some ⟨w.heap.size, 0, none⟩), .pointer (some ⟨w.heap.size + 1, 0, none⟩), .pointer (some ⟨w.heap.size + 1 + 1, 0, none⟩), .pointer (some ⟨w.heap.size + 1 + 1 + 1, 0, none⟩)]) (by simp) (by simp [go_sem]) ?_
        refine (catch_pan HF2.out x []).mono ?_
        rintro e u' w'' ⟨rfl, rfl, hf, hb⟩
        exact leaves_three hf rfl rfl rfl (readP_bad HP.out HR.out (HB2.out.trans hb))
end Go.Proofs.YtdhighnbbpngpaaGreatDoor
