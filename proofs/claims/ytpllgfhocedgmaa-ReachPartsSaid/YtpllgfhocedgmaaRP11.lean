/- The fixed fact of layer 11's laws. ReachParts' walk. -/
import Derived.Test.YtpllgfhocedgmaaRP08
import Derived.Test.YtpllgfhocedgmaaRP10
import Derived.Test.YtpllgfhocedgmaaRP02
import Derived.BigQuiet
import Derived.Deep.RegionHeldLaw
set_option maxRecDepth 100000
namespace Go.Proofs.Ytpllgfhocedgmaa
open Go.RowKit

def TrueP (w : World) (en : Ending) (w' : World) : Prop := en = .returned (.bool true) ∧ Below w.heap.size w w'
def BoolP (r : Bool) (w : World) (en : Ending) (w' : World) : Prop := en = .returned (.bool r) ∧ Below w.heap.size w w'
theorem BoP.yes {P : Prop} {w : World} {en : Ending} {w' : World} (h : BoP P w en w') (hp : P) : BoolP true w en w' := by
 obtain ⟨r, rfl, h1, h2⟩ := h
 exact ⟨by rw [h1.2 hp], h2⟩
theorem BoP.not {P : Prop} {w : World} {en : Ending} {w' : World} (h : BoP P w en w') (hp : ¬ P) : BoolP false w en w' := by
 obtain ⟨r, rfl, h1, h2⟩ := h
 cases r with
 | false => exact ⟨rfl, h2⟩
 | true => exact absurd (h1.1 rfl) hp
theorem p12_endF {pl : List Int} (h : EndF l5 p12 0 pl) : pl = [0, 2, 4] := by
 refine pw_ext h.ord (by simp) fun z => (h.mem z).trans ⟨?_, ?_⟩
 ·rintro ⟨a, b, e1, rfl, _, _, hm⟩
  obtain rfl : a = 0 := by omega
  have := (p12_ends (.inl rfl)).1 hm
  simp
  omega
 ·intro hz
  have hz : z = 0 ∨ z = 2 ∨ z = 4 := by simpa using hz
  obtain ⟨b, rfl⟩ := Int.eq_ofNat_of_zero_le (show 0 ≤ z by omega)
  exact ⟨0, b, rfl, rfl, Nat.zero_le _, by show b ≤ 5; omega, (p12_ends (.inl rfl)).2 ⟨by omega, by omega⟩⟩
theorem p12_begF {pl : List Int} (h : BegF l5 p12 4 pl) : pl = [0, 2, 4] := by
 refine pw_ext h.ord (by simp) fun z => (h.mem z).trans ⟨?_, ?_⟩
 ·rintro ⟨a, b, e1, rfl, _, hm⟩
  obtain rfl : a = 4 := by omega
  have := p12_begs.1 hm
  simp
  omega
 ·intro hz
  have hz : z = 0 ∨ z = 2 ∨ z = 4 := by simpa using hz
  obtain ⟨b, rfl⟩ := Int.eq_ofNat_of_zero_le (show 0 ≤ z by omega)
  exact ⟨4, b, rfl, rfl, by show 4 ≤ 5; omega, p12_begs.2 (by omega)⟩
theorem p12_size : p12.size ≤ 10000 ∧ p12.wt ≤ 90000 ∧ p12.turn.size ≤ 10000 := by
 rw [p12_turn]
 decide +kernel
set_option maxHeartbeats 4000000 in
theorem alive11_any {w : World} : Calls Try.prog 9 #[] w (TrueP w) := by
 have hp9 := p12_size
 go_enter Try.func9, Try.ntmps9
 go_wp2_with fail
 refine (one_form (w := w) 1).mono ?_
 rintro en w1 ⟨g1, rfl, hp1, hb1⟩
 have HP1 := Lib.hid hp1
 have HB1 := Lib.hid hb1
 clear hp1 hb1
 go_wp2_with fail
 refine (one_form (w := w1) 2).mono ?_
 rintro en w2 ⟨g2, rfl, hp2, hb2⟩
 have hs1 := HB1.out.size
 have hs2 := hb2.size
 have z1 : (w2.alloc (.cells #[.int .i64 2, .slice none 0 0, .slice (some ⟨g1, 0, none⟩) 1 1, .slice none 0 0, .int .i64 2, .slice none 0 0, .slice (some ⟨g2, 0, none⟩) 1 1, .slice none 0 0] 26)).heap.size = w2.heap.size + 1 := by simp
 have z2 : ((w2.alloc (.cells #[.int .i64 2, .slice none 0 0, .slice (some ⟨g1, 0, none⟩) 1 1, .slice none 0 0, .int .i64 2, .slice none 0 0, .slice (some ⟨g2, 0, none⟩) 1 1, .slice none 0 0] 26)).alloc (.cells #[.int .i64 3, .slice none 0 0, .slice none 0 0, .slice (some ⟨w2.heap.size, 0, none⟩) 2 2] 26)).heap.size = w2.heap.size + 2 := by simp
 have z3 : (((w2.alloc (.cells #[.int .i64 2, .slice none 0 0, .slice (some ⟨g1, 0, none⟩) 1 1, .slice none 0 0, .int .i64 2, .slice none 0 0, .slice (some ⟨g2, 0, none⟩) 1 1, .slice none 0 0] 26)).alloc (.cells #[.int .i64 3, .slice none 0 0, .slice none 0 0, .slice (some ⟨w2.heap.size, 0, none⟩) 2 2] 26)).alloc (.cells #[.int .i64 5, .slice none 0 0, .slice none 0 0, .slice (some ⟨w2.heap.size + 1, 0, none⟩) 1 1] 26)).heap.size = w2.heap.size + 3 := by simp
 have z4 : ((((w2.alloc (.cells #[.int .i64 2, .slice none 0 0, .slice (some ⟨g1, 0, none⟩) 1 1, .slice none 0 0, .int .i64 2, .slice none 0 0, .slice (some ⟨g2, 0, none⟩) 1 1, .slice none 0 0] 26)).alloc (.cells #[.int .i64 3, .slice none 0 0, .slice none 0 0, .slice (some ⟨w2.heap.size, 0, none⟩) 2 2] 26)).alloc (.cells #[.int .i64 5, .slice none 0 0, .slice none 0 0, .slice (some ⟨w2.heap.size + 1, 0, none⟩) 1 1] 26)).alloc (.cells #[.int .i64 1, .int .i64 2, .int .i64 1, .int .i64 2, .int .i64 1] 3)).heap.size = w2.heap.size + 4 := by simp
 have b1 : Below w2.heap.size w2 (w2.alloc (.cells #[.int .i64 2, .slice none 0 0, .slice (some ⟨g1, 0, none⟩) 1 1, .slice none 0 0, .int .i64 2, .slice none 0 0, .slice (some ⟨g2, 0, none⟩) 1 1, .slice none 0 0] 26)) := kbelow_push _ _
 have b2 : Below w2.heap.size w2 ((w2.alloc (.cells #[.int .i64 2, .slice none 0 0, .slice (some ⟨g1, 0, none⟩) 1 1, .slice none 0 0, .int .i64 2, .slice none 0 0, .slice (some ⟨g2, 0, none⟩) 1 1, .slice none 0 0] 26)).alloc (.cells #[.int .i64 3, .slice none 0 0, .slice none 0 0, .slice (some ⟨w2.heap.size, 0, none⟩) 2 2] 26)) := b1.trans ((kbelow_push _ _).mono (by omega))
 have b3 : Below w2.heap.size w2 (((w2.alloc (.cells #[.int .i64 2, .slice none 0 0, .slice (some ⟨g1, 0, none⟩) 1 1, .slice none 0 0, .int .i64 2, .slice none 0 0, .slice (some ⟨g2, 0, none⟩) 1 1, .slice none 0 0] 26)).alloc (.cells #[.int .i64 3, .slice none 0 0, .slice none 0 0, .slice (some ⟨w2.heap.size, 0, none⟩) 2 2] 26)).alloc (.cells #[.int .i64 5, .slice none 0 0, .slice none 0 0, .slice (some ⟨w2.heap.size + 1, 0, none⟩) 1 1] 26)) := b2.trans ((kbelow_push _ _).mono (by omega))
 have b4 : Below w2.heap.size w2 ((((w2.alloc (.cells #[.int .i64 2, .slice none 0 0, .slice (some ⟨g1, 0, none⟩) 1 1, .slice none 0 0, .int .i64 2, .slice none 0 0, .slice (some ⟨g2, 0, none⟩) 1 1, .slice none 0 0] 26)).alloc (.cells #[.int .i64 3, .slice none 0 0, .slice none 0 0, .slice (some ⟨w2.heap.size, 0, none⟩) 2 2] 26)).alloc (.cells #[.int .i64 5, .slice none 0 0, .slice none 0 0, .slice (some ⟨w2.heap.size + 1, 0, none⟩) 1 1] 26)).alloc (.cells #[.int .i64 1, .int .i64 2, .int .i64 1, .int .i64 2, .int .i64 1] 3)) := b3.trans ((kbelow_push _ _).mono (by omega))
 have r8 : ((((w2.alloc (.cells #[.int .i64 2, .slice none 0 0, .slice (some ⟨g1, 0, none⟩) 1 1, .slice none 0 0, .int .i64 2, .slice none 0 0, .slice (some ⟨g2, 0, none⟩) 1 1, .slice none 0 0] 26)).alloc (.cells #[.int .i64 3, .slice none 0 0, .slice none 0 0, .slice (some ⟨w2.heap.size, 0, none⟩) 2 2] 26)).alloc (.cells #[.int .i64 5, .slice none 0 0, .slice none 0 0, .slice (some ⟨w2.heap.size + 1, 0, none⟩) 1 1] 26)).alloc (.cells #[.int .i64 1, .int .i64 2, .int .i64 1, .int .i64 2, .int .i64 1] 3)).heap[w2.heap.size]? = some (.cells #[.int .i64 2, .slice none 0 0, .slice (some ⟨g1, 0, none⟩) 1 1, .slice none 0 0, .int .i64 2, .slice none 0 0, .slice (some ⟨g2, 0, none⟩) 1 1, .slice none 0 0] 26 (0, 0)) := ((kbelow_push _ _).block _ (by rw [z3]; omega)).trans (((kbelow_push _ _).block _ (by rw [z2]; omega)).trans (((kbelow_push _ _).block _ (by rw [z1]; omega)).trans (heap_alloc_new w2 _)))
 have r4 : ((((w2.alloc (.cells #[.int .i64 2, .slice none 0 0, .slice (some ⟨g1, 0, none⟩) 1 1, .slice none 0 0, .int .i64 2, .slice none 0 0, .slice (some ⟨g2, 0, none⟩) 1 1, .slice none 0 0] 26)).alloc (.cells #[.int .i64 3, .slice none 0 0, .slice none 0 0, .slice (some ⟨w2.heap.size, 0, none⟩) 2 2] 26)).alloc (.cells #[.int .i64 5, .slice none 0 0, .slice none 0 0, .slice (some ⟨w2.heap.size + 1, 0, none⟩) 1 1] 26)).alloc (.cells #[.int .i64 1, .int .i64 2, .int .i64 1, .int .i64 2, .int .i64 1] 3)).heap[w2.heap.size + 1]? = some (.cells #[.int .i64 3, .slice none 0 0, .slice none 0 0, .slice (some ⟨w2.heap.size, 0, none⟩) 2 2] 26 (0, 0)) := by
  have h := heap_alloc_new (w2.alloc (.cells #[.int .i64 2, .slice none 0 0, .slice (some ⟨g1, 0, none⟩) 1 1, .slice none 0 0, .int .i64 2, .slice none 0 0, .slice (some ⟨g2, 0, none⟩) 1 1, .slice none 0 0] 26)) (.cells #[.int .i64 3, .slice none 0 0, .slice none 0 0, .slice (some ⟨w2.heap.size, 0, none⟩) 2 2] 26)
  rw [z1] at h
  exact ((kbelow_push _ _).block _ (by rw [z3]; omega)).trans (((kbelow_push _ _).block _ (by rw [z2]; omega)).trans h)
 have rp : ((((w2.alloc (.cells #[.int .i64 2, .slice none 0 0, .slice (some ⟨g1, 0, none⟩) 1 1, .slice none 0 0, .int .i64 2, .slice none 0 0, .slice (some ⟨g2, 0, none⟩) 1 1, .slice none 0 0] 26)).alloc (.cells #[.int .i64 3, .slice none 0 0, .slice none 0 0, .slice (some ⟨w2.heap.size, 0, none⟩) 2 2] 26)).alloc (.cells #[.int .i64 5, .slice none 0 0, .slice none 0 0, .slice (some ⟨w2.heap.size + 1, 0, none⟩) 1 1] 26)).alloc (.cells #[.int .i64 1, .int .i64 2, .int .i64 1, .int .i64 2, .int .i64 1] 3)).heap[w2.heap.size + 1 + 1]? = some (.cells #[.int .i64 5, .slice none 0 0, .slice none 0 0, .slice (some ⟨w2.heap.size + 1, 0, none⟩) 1 1] 26 (0, 0)) := by
  have h := heap_alloc_new ((w2.alloc (.cells #[.int .i64 2, .slice none 0 0, .slice (some ⟨g1, 0, none⟩) 1 1, .slice none 0 0, .int .i64 2, .slice none 0 0, .slice (some ⟨g2, 0, none⟩) 1 1, .slice none 0 0] 26)).alloc (.cells #[.int .i64 3, .slice none 0 0, .slice none 0 0, .slice (some ⟨w2.heap.size, 0, none⟩) 2 2] 26)) (.cells #[.int .i64 5, .slice none 0 0, .slice none 0 0, .slice (some ⟨w2.heap.size + 1, 0, none⟩) 1 1] 26)
  rw [z2] at h
  exact ((kbelow_push _ _).block _ (by rw [z3]; omega)).trans h
 have ri : ((((w2.alloc (.cells #[.int .i64 2, .slice none 0 0, .slice (some ⟨g1, 0, none⟩) 1 1, .slice none 0 0, .int .i64 2, .slice none 0 0, .slice (some ⟨g2, 0, none⟩) 1 1, .slice none 0 0] 26)).alloc (.cells #[.int .i64 3, .slice none 0 0, .slice none 0 0, .slice (some ⟨w2.heap.size, 0, none⟩) 2 2] 26)).alloc (.cells #[.int .i64 5, .slice none 0 0, .slice none 0 0, .slice (some ⟨w2.heap.size + 1, 0, none⟩) 1 1] 26)).alloc (.cells #[.int .i64 1, .int .i64 2, .int .i64 1, .int .i64 2, .int .i64 1] 3)).heap[w2.heap.size + 1 + 1 + 1]? = some (.cells #[.int .i64 1, .int .i64 2, .int .i64 1, .int .i64 2, .int .i64 1] 3 (0, 0)) := by
  have h := heap_alloc_new (((w2.alloc (.cells #[.int .i64 2, .slice none 0 0, .slice (some ⟨g1, 0, none⟩) 1 1, .slice none 0 0, .int .i64 2, .slice none 0 0, .slice (some ⟨g2, 0, none⟩) 1 1, .slice none 0 0] 26)).alloc (.cells #[.int .i64 3, .slice none 0 0, .slice none 0 0, .slice (some ⟨w2.heap.size, 0, none⟩) 2 2] 26)).alloc (.cells #[.int .i64 5, .slice none 0 0, .slice none 0 0, .slice (some ⟨w2.heap.size + 1, 0, none⟩) 1 1] 26)) (.cells #[.int .i64 1, .int .i64 2, .int .i64 1, .int .i64 2, .int .i64 1] 3)
  rw [z3] at h
  exact h
 have HX : Hid (PtIn ((((w2.alloc (.cells #[.int .i64 2, .slice none 0 0, .slice (some ⟨g1, 0, none⟩) 1 1, .slice none 0 0, .int .i64 2, .slice none 0 0, .slice (some ⟨g2, 0, none⟩) 1 1, .slice none 0 0] 26)).alloc (.cells #[.int .i64 3, .slice none 0 0, .slice none 0 0, .slice (some ⟨w2.heap.size, 0, none⟩) 2 2] 26)).alloc (.cells #[.int .i64 5, .slice none 0 0, .slice none 0 0, .slice (some ⟨w2.heap.size + 1, 0, none⟩) 1 1] 26)).alloc (.cells #[.int .i64 1, .int .i64 2, .int .i64 1, .int .i64 2, .int .i64 1] 3)) (Ub ((((w2.alloc (.cells #[.int .i64 2, .slice none 0 0, .slice (some ⟨g1, 0, none⟩) 1 1, .slice none 0 0, .int .i64 2, .slice none 0 0, .slice (some ⟨g2, 0, none⟩) 1 1, .slice none 0 0] 26)).alloc (.cells #[.int .i64 3, .slice none 0 0, .slice none 0 0, .slice (some ⟨w2.heap.size, 0, none⟩) 2 2] 26)).alloc (.cells #[.int .i64 5, .slice none 0 0, .slice none 0 0, .slice (some ⟨w2.heap.size + 1, 0, none⟩) 1 1] 26)).alloc (.cells #[.int .i64 1, .int .i64 2, .int .i64 1, .int .i64 2, .int .i64 1] 3)) w.heap.size) none 0 0 none 0 0 (some ⟨w2.heap.size + 1, 0, none⟩) 1 1 p12) := by
  have hq1 := HP1.out.keep (w' := ((((w2.alloc (.cells #[.int .i64 2, .slice none 0 0, .slice (some ⟨g1, 0, none⟩) 1 1, .slice none 0 0, .int .i64 2, .slice none 0 0, .slice (some ⟨g2, 0, none⟩) 1 1, .slice none 0 0] 26)).alloc (.cells #[.int .i64 3, .slice none 0 0, .slice none 0 0, .slice (some ⟨w2.heap.size, 0, none⟩) 2 2] 26)).alloc (.cells #[.int .i64 5, .slice none 0 0, .slice none 0 0, .slice (some ⟨w2.heap.size + 1, 0, none⟩) 1 1] 26)).alloc (.cells #[.int .i64 1, .int .i64 2, .int .i64 1, .int .i64 2, .int .i64 1] 3))) (S' := Ub ((((w2.alloc (.cells #[.int .i64 2, .slice none 0 0, .slice (some ⟨g1, 0, none⟩) 1 1, .slice none 0 0, .int .i64 2, .slice none 0 0, .slice (some ⟨g2, 0, none⟩) 1 1, .slice none 0 0] 26)).alloc (.cells #[.int .i64 3, .slice none 0 0, .slice none 0 0, .slice (some ⟨w2.heap.size, 0, none⟩) 2 2] 26)).alloc (.cells #[.int .i64 5, .slice none 0 0, .slice none 0 0, .slice (some ⟨w2.heap.size + 1, 0, none⟩) 1 1] 26)).alloc (.cells #[.int .i64 1, .int .i64 2, .int .i64 1, .int .i64 2, .int .i64 1] 3)) w.heap.size) (fun b hb => ⟨hb.1, hb.2.same ((b4.block b (Nat.lt_of_lt_of_le hb.2.lt hs2)).trans (hb2.block b hb.2.lt))⟩) (fun p hp => (b4.cell (p := p) (Nat.lt_of_lt_of_le hp.2.lt hs2)).trans (hb2.cell hp.2.lt))
  have hq2 := hp2.keep (w' := ((((w2.alloc (.cells #[.int .i64 2, .slice none 0 0, .slice (some ⟨g1, 0, none⟩) 1 1, .slice none 0 0, .int .i64 2, .slice none 0 0, .slice (some ⟨g2, 0, none⟩) 1 1, .slice none 0 0] 26)).alloc (.cells #[.int .i64 3, .slice none 0 0, .slice none 0 0, .slice (some ⟨w2.heap.size, 0, none⟩) 2 2] 26)).alloc (.cells #[.int .i64 5, .slice none 0 0, .slice none 0 0, .slice (some ⟨w2.heap.size + 1, 0, none⟩) 1 1] 26)).alloc (.cells #[.int .i64 1, .int .i64 2, .int .i64 1, .int .i64 2, .int .i64 1] 3))) (S' := Ub ((((w2.alloc (.cells #[.int .i64 2, .slice none 0 0, .slice (some ⟨g1, 0, none⟩) 1 1, .slice none 0 0, .int .i64 2, .slice none 0 0, .slice (some ⟨g2, 0, none⟩) 1 1, .slice none 0 0] 26)).alloc (.cells #[.int .i64 3, .slice none 0 0, .slice none 0 0, .slice (some ⟨w2.heap.size, 0, none⟩) 2 2] 26)).alloc (.cells #[.int .i64 5, .slice none 0 0, .slice none 0 0, .slice (some ⟨w2.heap.size + 1, 0, none⟩) 1 1] 26)).alloc (.cells #[.int .i64 1, .int .i64 2, .int .i64 1, .int .i64 2, .int .i64 1] 3)) w.heap.size) (fun b hb => ⟨Nat.le_trans hs1 hb.1, hb.2.same (b4.block b hb.2.lt)⟩) (fun p hp => b4.cell hp.2.lt)
  have hj : RdP ((((w2.alloc (.cells #[.int .i64 2, .slice none 0 0, .slice (some ⟨g1, 0, none⟩) 1 1, .slice none 0 0, .int .i64 2, .slice none 0 0, .slice (some ⟨g2, 0, none⟩) 1 1, .slice none 0 0] 26)).alloc (.cells #[.int .i64 3, .slice none 0 0, .slice none 0 0, .slice (some ⟨w2.heap.size, 0, none⟩) 2 2] 26)).alloc (.cells #[.int .i64 5, .slice none 0 0, .slice none 0 0, .slice (some ⟨w2.heap.size + 1, 0, none⟩) 1 1] 26)).alloc (.cells #[.int .i64 1, .int .i64 2, .int .i64 1, .int .i64 2, .int .i64 1] 3)) (Ub ((((w2.alloc (.cells #[.int .i64 2, .slice none 0 0, .slice (some ⟨g1, 0, none⟩) 1 1, .slice none 0 0, .int .i64 2, .slice none 0 0, .slice (some ⟨g2, 0, none⟩) 1 1, .slice none 0 0] 26)).alloc (.cells #[.int .i64 3, .slice none 0 0, .slice none 0 0, .slice (some ⟨w2.heap.size, 0, none⟩) 2 2] 26)).alloc (.cells #[.int .i64 5, .slice none 0 0, .slice none 0 0, .slice (some ⟨w2.heap.size + 1, 0, none⟩) 1 1] 26)).alloc (.cells #[.int .i64 1, .int .i64 2, .int .i64 1, .int .i64 2, .int .i64 1] 3)) w.heap.size) (some ⟨w2.heap.size, 0, none⟩) 2 2 [sg 1, sg 2] := rdP_2 r8 ⟨by omega, _, _, r8⟩ (PtAt.of hq1) (PtAt.of hq2)
  have hk : RdP ((((w2.alloc (.cells #[.int .i64 2, .slice none 0 0, .slice (some ⟨g1, 0, none⟩) 1 1, .slice none 0 0, .int .i64 2, .slice none 0 0, .slice (some ⟨g2, 0, none⟩) 1 1, .slice none 0 0] 26)).alloc (.cells #[.int .i64 3, .slice none 0 0, .slice none 0 0, .slice (some ⟨w2.heap.size, 0, none⟩) 2 2] 26)).alloc (.cells #[.int .i64 5, .slice none 0 0, .slice none 0 0, .slice (some ⟨w2.heap.size + 1, 0, none⟩) 1 1] 26)).alloc (.cells #[.int .i64 1, .int .i64 2, .int .i64 1, .int .i64 2, .int .i64 1] 3)) (Ub ((((w2.alloc (.cells #[.int .i64 2, .slice none 0 0, .slice (some ⟨g1, 0, none⟩) 1 1, .slice none 0 0, .int .i64 2, .slice none 0 0, .slice (some ⟨g2, 0, none⟩) 1 1, .slice none 0 0] 26)).alloc (.cells #[.int .i64 3, .slice none 0 0, .slice none 0 0, .slice (some ⟨w2.heap.size, 0, none⟩) 2 2] 26)).alloc (.cells #[.int .i64 5, .slice none 0 0, .slice none 0 0, .slice (some ⟨w2.heap.size + 1, 0, none⟩) 1 1] 26)).alloc (.cells #[.int .i64 1, .int .i64 2, .int .i64 1, .int .i64 2, .int .i64 1] 3)) w.heap.size) (some ⟨w2.heap.size + 1, 0, none⟩) 1 1 [jn [sg 1, sg 2]] := rdP_1 r4 ⟨by omega, _, _, r4⟩ (PtAt.of (x := jn [sg 1, sg 2]) ⟨RgAt.nil _ _, InAt.nil _ _, hj⟩)
  exact ⟨RgAt.nil _ _, InAt.nil _ _, hk⟩
 have HL : Hid (InAt ((((w2.alloc (.cells #[.int .i64 2, .slice none 0 0, .slice (some ⟨g1, 0, none⟩) 1 1, .slice none 0 0, .int .i64 2, .slice none 0 0, .slice (some ⟨g2, 0, none⟩) 1 1, .slice none 0 0] 26)).alloc (.cells #[.int .i64 3, .slice none 0 0, .slice none 0 0, .slice (some ⟨w2.heap.size, 0, none⟩) 2 2] 26)).alloc (.cells #[.int .i64 5, .slice none 0 0, .slice none 0 0, .slice (some ⟨w2.heap.size + 1, 0, none⟩) 1 1] 26)).alloc (.cells #[.int .i64 1, .int .i64 2, .int .i64 1, .int .i64 2, .int .i64 1] 3)) (Bl ((((w2.alloc (.cells #[.int .i64 2, .slice none 0 0, .slice (some ⟨g1, 0, none⟩) 1 1, .slice none 0 0, .int .i64 2, .slice none 0 0, .slice (some ⟨g2, 0, none⟩) 1 1, .slice none 0 0] 26)).alloc (.cells #[.int .i64 3, .slice none 0 0, .slice none 0 0, .slice (some ⟨w2.heap.size, 0, none⟩) 2 2] 26)).alloc (.cells #[.int .i64 5, .slice none 0 0, .slice none 0 0, .slice (some ⟨w2.heap.size + 1, 0, none⟩) 1 1] 26)).alloc (.cells #[.int .i64 1, .int .i64 2, .int .i64 1, .int .i64 2, .int .i64 1] 3))) (some ⟨w2.heap.size + 1 + 1 + 1, 0, none⟩) 5 5 l5) := inAt_lit l5 ri (by show _ < _; rw [z4]; omega) (by simp [l5, maxLen])
 have HRP := Lib.hid rp
 have HZ := Lib.hid z4
 have HBW : Hid (Below w.heap.size w ((((w2.alloc (.cells #[.int .i64 2, .slice none 0 0, .slice (some ⟨g1, 0, none⟩) 1 1, .slice none 0 0, .int .i64 2, .slice none 0 0, .slice (some ⟨g2, 0, none⟩) 1 1, .slice none 0 0] 26)).alloc (.cells #[.int .i64 3, .slice none 0 0, .slice none 0 0, .slice (some ⟨w2.heap.size, 0, none⟩) 2 2] 26)).alloc (.cells #[.int .i64 5, .slice none 0 0, .slice none 0 0, .slice (some ⟨w2.heap.size + 1, 0, none⟩) 1 1] 26)).alloc (.cells #[.int .i64 1, .int .i64 2, .int .i64 1, .int .i64 2, .int .i64 1] 3))) := (HB1.out.trans (hb2.mono hs1)).trans (b4.mono (Nat.le_trans hs1 hs2))
 clear hp2 hb2 z1 z2 z3 z4 b1 b2 b3 b4 r8 r4 rp ri HP1 HB1 hs1 hs2
 go_upto_region 3 with fail
 generalize hW4 : ((((w2.alloc (.cells #[.int .i64 2, .slice none 0 0, .slice (some ⟨g1, 0, none⟩) 1 1, .slice none 0 0, .int .i64 2, .slice none 0 0, .slice (some ⟨g2, 0, none⟩) 1 1, .slice none 0 0] 26)).alloc (.cells #[.int .i64 3, .slice none 0 0, .slice none 0 0, .slice (some ⟨w2.heap.size, 0, none⟩) 2 2] 26)).alloc (.cells #[.int .i64 5, .slice none 0 0, .slice none 0 0, .slice (some ⟨w2.heap.size + 1, 0, none⟩) 1 1] 26)).alloc (.cells #[.int .i64 1, .int .i64 2, .int .i64 1, .int .i64 2, .int .i64 1] 3)) = W at *
 clear hW4
 have HXB : Hid (PtIn W (Bl W) none 0 0 none 0 0 (some ⟨w2.heap.size + 1, 0, none⟩) 1 1 p12) := HX.out.keep (fun b hb => hb.2.lt) (fun _ _ => rfl)
 have HK : Hid (∀ V, Below W.heap.size W V → V.cell? ⟨w2.heap.size + 1 + 1, 0, none⟩ = some (.int .i64 5) ∧ V.cell? ⟨w2.heap.size + 1 + 1, 1, none⟩ = some (.slice none 0 0) ∧ V.cell? ⟨w2.heap.size + 1 + 1, 2, none⟩ = some (.slice none 0 0) ∧ V.cell? ⟨w2.heap.size + 1 + 1, 3, none⟩ = some (.slice (some ⟨w2.heap.size + 1, 0, none⟩) 1 1)) := fun V hb => hcells4 ((hb.block _ (by have := HZ.out; omega)).trans HRP.out)
 have HB4 : Hid (Below W.heap.size W W) := Below.refl _ _
 have HC5 : Hid (Calls Try.prog 13 #[.agg #[.int .i64 5, .slice none 0 0, .slice none 0 0, .slice (some ⟨w2.heap.size + 1, 0, none⟩) 1 1], .slice (some ⟨w2.heap.size + 1 + 1 + 1, 0, none⟩) 5 5, .int .i64 0] W (EndP l5 p12 0 W)) := ends_any (HL.out.on HB4.out) (by simp [l5]) (HXB.out.on HB4.out) hp9.1 0
 obtain ⟨c0, c1, c2, c3⟩ := HK.out _ HB4.out
 go_wp2_with fail
 refine HC5.out.mono ?_
 rintro en w5 ⟨A5, n5, d5, pl, rfl, hb, hi, hf⟩
 obtain rfl := p12_endF hf
 have HI5 := Lib.hid hi
 have HB5 := Lib.hid (HB4.out.trans (hb.mono HB4.out.size))
 clear hb hi hf c0 c1 c2 c3
 have HR5 := Lib.hid (heap_alloc_new w5 (.cells #[.int .i64 0, .int .i64 2, .int .i64 4] 3))
 have HJ5 : Hid (Below w5.heap.size w5 (w5.alloc (.cells #[.int .i64 0, .int .i64 2, .int .i64 4] 3))) := kbelow_push _ _
 have HC6 : Hid (Calls Try.prog 27 #[.slice A5 n5 d5, .slice (some ⟨w5.heap.size, 0, none⟩) 3 3] (w5.alloc (.cells #[.int .i64 0, .int .i64 2, .int .i64 4] 3)) (BoolP true (w5.alloc (.cells #[.int .i64 0, .int .i64 2, .int .i64 4] 3)))) := (pints_b (HI5.out.on HJ5.out) (inAt_lit (S := fun _ => True) [0, 2, 4] HR5.out trivial (by simp [maxLen]))).mono fun e w9 h => by obtain ⟨h1, h2⟩ := h; exact ⟨by rw [h1]; rfl, h2⟩
 have HBX5 := Lib.hid (HB5.out.trans (HJ5.out.mono HB5.out.size))
 go_wp2_with fail
 refine HC6.out.mono ?_
 rintro en w6 ⟨rfl, hb⟩
 have HB6 := Lib.hid (HBX5.out.trans (hb.mono HBX5.out.size))
 clear hb HC5 HC6 HBX5 HJ5 HR5 HI5
 have HC7 : Hid (Calls Try.prog 14 #[.agg #[.int .i64 5, .slice none 0 0, .slice none 0 0, .slice (some ⟨w2.heap.size + 1, 0, none⟩) 1 1], .slice (some ⟨w2.heap.size + 1 + 1 + 1, 0, none⟩) 5 5, .int .i64 4] w6 (BegP l5 p12 4 w6)) := begins_any (HL.out.on HB6.out) (by simp [l5]) (HXB.out.on HB6.out) hp9.1 4
 obtain ⟨c0, c1, c2, c3⟩ := HK.out _ HB6.out
 go_wp2_with fail
 refine HC7.out.mono ?_
 rintro en w7 ⟨A7, n7, d7, pl, rfl, hb, hi, hf⟩
 obtain rfl := p12_begF hf
 have HI7 := Lib.hid hi
 have HB7 := Lib.hid (HB6.out.trans (hb.mono HB6.out.size))
 clear hb hi hf c0 c1 c2 c3
 have HR7 := Lib.hid (heap_alloc_new w7 (.cells #[.int .i64 0, .int .i64 2, .int .i64 4] 3))
 have HJ7 : Hid (Below w7.heap.size w7 (w7.alloc (.cells #[.int .i64 0, .int .i64 2, .int .i64 4] 3))) := kbelow_push _ _
 have HC8 : Hid (Calls Try.prog 27 #[.slice A7 n7 d7, .slice (some ⟨w7.heap.size, 0, none⟩) 3 3] (w7.alloc (.cells #[.int .i64 0, .int .i64 2, .int .i64 4] 3)) (BoolP true (w7.alloc (.cells #[.int .i64 0, .int .i64 2, .int .i64 4] 3)))) := (pints_b (HI7.out.on HJ7.out) (inAt_lit (S := fun _ => True) [0, 2, 4] HR7.out trivial (by simp [maxLen]))).mono fun e w9 h => by obtain ⟨h1, h2⟩ := h; exact ⟨by rw [h1]; rfl, h2⟩
 have HBX7 := Lib.hid (HB7.out.trans (HJ7.out.mono HB7.out.size))
 go_wp2_with fail
 refine HC8.out.mono ?_
 rintro en w8 ⟨rfl, hb⟩
 have HB8 := Lib.hid (HBX7.out.trans (hb.mono HBX7.out.size))
 clear hb HC7 HC8 HBX7 HJ7 HR7 HI7
 have HC9 : Hid (Calls Try.prog 15 #[.agg #[.int .i64 5, .slice none 0 0, .slice none 0 0, .slice (some ⟨w2.heap.size + 1, 0, none⟩) 1 1], .slice (some ⟨w2.heap.size + 1 + 1 + 1, 0, none⟩) 5 5, .int .i64 2, .int .i64 4] w8 (BoolP true w8)) := (matches_any (HL.out.on HB8.out) (by simp [l5]) (HXB.out.on HB8.out) hp9.1 2 4).mono fun _ _ h => h.yes ⟨2, 4, rfl, rfl, by decide, by decide, (p12_ends (.inr (.inl rfl))).2 ⟨by decide, by decide⟩⟩
 obtain ⟨c0, c1, c2, c3⟩ := HK.out _ HB8.out
 go_wp2_with fail
 refine HC9.out.mono ?_
 rintro en w9 ⟨rfl, hb⟩
 have HB9 := Lib.hid (HB8.out.trans (hb.mono HB8.out.size))
 clear hb c0 c1 c2 c3 HC9
 have HC10 : Hid (Calls Try.prog 15 #[.agg #[.int .i64 5, .slice none 0 0, .slice none 0 0, .slice (some ⟨w2.heap.size + 1, 0, none⟩) 1 1], .slice (some ⟨w2.heap.size + 1 + 1 + 1, 0, none⟩) 5 5, .int .i64 0, .int .i64 1] w9 (BoolP false w9)) := (matches_any (HL.out.on HB9.out) (by simp [l5]) (HXB.out.on HB9.out) hp9.1 0 1).mono fun _ _ h => h.not (fun ⟨a, b, e1, e2, _, _, hm⟩ => by have h9 := ((p12_ends (a := a) (.inl (by omega))).1 hm).2; omega)
 obtain ⟨c0, c1, c2, c3⟩ := HK.out _ HB9.out
 go_wp2_with fail
 refine HC10.out.mono ?_
 rintro en w10 ⟨rfl, hb⟩
 have HB10 := Lib.hid (HB9.out.trans (hb.mono HB9.out.size))
 clear hb c0 c1 c2 c3 HC10
 have HC11 : Hid (Calls Try.prog 17 #[.agg #[.int .i64 5, .slice none 0 0, .slice none 0 0, .slice (some ⟨w2.heap.size + 1, 0, none⟩) 1 1]] w10 (BoolP true w10)) := (null_any (HXB.out.on HB10.out) hp9.1).mono fun _ _ h => h.yes (Sq.many_nil _)
 obtain ⟨c0, c1, c2, c3⟩ := HK.out _ HB10.out
 go_wp2_with fail
 refine HC11.out.mono ?_
 rintro en w11 ⟨rfl, hb⟩
 have HB11 := Lib.hid (HB10.out.trans (hb.mono HB10.out.size))
 clear hb c0 c1 c2 c3 HC11
 go_wp2_with fail
 refine (one_form (w := w11) 1).mono ?_
 rintro en w12 ⟨g3, rfl, hp, hb⟩
 have HP12 := Lib.hid hp
 have HB12 := Lib.hid (HB11.out.trans (hb.mono HB11.out.size))
 clear hp hb
 have HC13 : Hid (Calls Try.prog 17 #[.agg #[.int .i64 2, .slice none 0 0, .slice (some ⟨g3, 0, none⟩) 1 1, .slice none 0 0]] w12 (BoolP false w12)) := (null_any (x := sg 1) (HP12.out.keep (fun b hb => hb.2.lt) (fun _ _ => rfl)) (by decide +kernel)).mono fun _ _ h => h.not sg_not
 go_wp2_with fail
 refine HC13.out.mono ?_
 rintro en w13 ⟨rfl, hb⟩
 have HB13 := Lib.hid (HB12.out.trans (hb.mono HB12.out.size))
 clear hb HC13
 have HC14 : Hid (Calls Try.prog 11 #[.agg #[.int .i64 5, .slice none 0 0, .slice none 0 0, .slice (some ⟨w2.heap.size + 1, 0, none⟩) 1 1]] w13 (TrnP p12 w13)) := turn_any (HXB.out.on HB13.out) ((TrnP.kid HX.out).on HB13.out) hp9.2.1
 obtain ⟨c0, c1, c2, c3⟩ := HK.out _ HB13.out
 go_wp2_with fail
 refine HC14.out.mono ?_
 rintro en w14 ⟨tA1, tn1, tc1, tA2, tn2, tc2, tA, tn, tc, rfl, hp, hb⟩
 have HP14 := Lib.hid hp
 have HB14 := Lib.hid (HB13.out.trans (hb.mono HB13.out.size))
 clear hp hb c0 c1 c2 c3
 have HR14 := Lib.hid (heap_alloc_new w14 (.cells #[.int .i64 2, .int .i64 1] 3))
 have HJ14 : Hid (Below w14.heap.size w14 (w14.alloc (.cells #[.int .i64 2, .int .i64 1] 3))) := kbelow_push _ _
 have hlt14 : w14.heap.size < (w14.alloc (.cells #[.int .i64 2, .int .i64 1] 3)).heap.size := by simp
 have HC15 : Hid (Calls Try.prog 15 #[.agg #[.int .i64 5, .slice tA1 tn1 tc1, .slice tA2 tn2 tc2, .slice tA tn tc], .slice (some ⟨w14.heap.size, 0, none⟩) 2 2, .int .i64 0, .int .i64 2] (w14.alloc (.cells #[.int .i64 2, .int .i64 1] 3)) (BoolP true (w14.alloc (.cells #[.int .i64 2, .int .i64 1] 3)))) := by
  have hm := matches_any (x := p12.turn) (inAt_lit (S := Bl (w14.alloc (.cells #[.int .i64 2, .int .i64 1] 3))) [2, 1] HR14.out hlt14 (by simp [maxLen])) (by simp) ((HP14.out.keep (S' := Bl w14) (fun b hb => hb.2.lt) (fun _ _ => rfl)).on HJ14.out) hp9.2.2 0 2
  rw [show p12.turn.kind = 5 from rfl] at hm
  exact hm.mono fun _ _ h => h.yes ⟨0, 2, rfl, rfl, by decide, by decide, p21_mt⟩
 have HBX14 := Lib.hid (HB14.out.trans (HJ14.out.mono HB14.out.size))
 go_wp2_with fail
 refine HC15.out.mono ?_
 rintro en w15 ⟨rfl, hb⟩
 have HRES : Hid (TrueP w (.returned (.bool true)) w15) := by
  have h1 := HBX14.out.trans (hb.mono HBX14.out.size)
  exact ⟨rfl, HBW.out.trans (h1.mono HBW.out.size)⟩
 go_wp2_with fail
 go_ret
 exact HRES.out
end Go.Proofs.Ytpllgfhocedgmaa
namespace Go.Proofs.Ytpllgfhocedgmaa
open Go.RowKit

section
variable {P : Program} {ops : Array Oper} {Q : Exit → Act → World → Prop} {md : Region.Mode} {S : World → Prop}
theorem K_take (i d : Nat) {oi : Oper} {v : Value} {fuel : Nat} {listed : Array Bool} {a : Act} {w : World} (hi : ops[i]? = some oi) (hd : oi.dst = some d)
  (hs : Region.noSelect ops = true) (hf : Region.free md ops listed i = true) (hr : (Region.ready md ops listed).contains i = true)
  (hQ : ∀ c a w, Q (.panic c) (a.put (some d) v) w → Q (.panic c) a w) (hg : Region.wanted oi (yielded ops a.tmps) = true) (hy : ∀ w, S w → (execOp a.eval oi).run P w = .ok (.value v) w) (hS : S w)
  (h : wpAnyH P md ops Q S fuel (listed.setIfInBounds i true) (a.put (some d) v) w) : wpAnyH P md ops Q S (fuel + 1) listed a w :=
 wpAnyH_take hi hs hf hr (by rw [hd]; exact hQ) (.inl ⟨hg, hy⟩) hS (by rw [hd]; exact h)
theorem K_pass (i d : Nat) {oi : Oper} {fuel : Nat} {listed : Array Bool} {a : Act} {w : World} (hi : ops[i]? = some oi) (hd : oi.dst = some d)
  (hs : Region.noSelect ops = true) (hf : Region.free md ops listed i = true) (hr : (Region.ready md ops listed).contains i = true)
  (hQ : ∀ c a w, Q (.panic c) (a.put (some d) undef) w → Q (.panic c) a w) (hg : Region.wanted oi (yielded ops a.tmps) = false) (hS : S w)
  (h : wpAnyH P md ops Q S fuel (listed.setIfInBounds i true) (a.put (some d) undef) w) : wpAnyH P md ops Q S (fuel + 1) listed a w :=
 wpAnyH_take hi hs hf hr (by rw [hd]; exact hQ) (.inr ⟨hg, rfl⟩) hS (by rw [hd]; exact h)
end
theorem BoP.iff {P : Prop} {w : World} {en : Ending} {w' : World} {r : Bool} (h : BoP P w en w') (hp : r = true ↔ P) : BoolP r w en w' := by
 obtain ⟨r', rfl, h1, h2⟩ := h
 have e : r' = r := by
  cases r' with
  | true => exact (hp.2 (h1.1 rfl)).symm
  | false =>
   cases r with
   | false => rfl
   | true => exact absurd (h1.2 (hp.1 rfl)) (by simp)
 exact ⟨by rw [e], h2⟩
theorem mtI_nat {l : List Int} {x : Pt} {f t : Nat} (hft : f ≤ t) (ht : t ≤ l.length) : MtI l x (f : Int) (t : Int) ↔ Mt l x f t := by
 constructor
 ·rintro ⟨a, b, e1, e2, _, _, hm⟩
  obtain rfl : f = a := by omega
  obtain rfl : t = b := by omega
  exact hm
 ·intro hm
  exact ⟨f, t, rfl, rfl, hft, ht, hm⟩
theorem InAt.to {w : World} {S : Nat → Prop} {A : Option Addr} {n c t : Nat} {L : List Int} (h : InAt w S A n c L) (ht : t ≤ n) : InAt w S A t c (L.take t) :=
 ⟨by rw [List.length_take, h.len]; omega, by have := h.cap; omega, h.capm, fun h0 => by
  obtain ⟨b, off, e, hb, hc⟩ := h.at_ (by omega)
  exact ⟨b, off, e, hb, fun j x hx => hc j x (by
   rw [List.getElem?_take] at hx
   split at hx
   ·exact hx
   ·cases hx)⟩⟩
theorem slice_to {w : World} {S : Nat → Prop} {A : Option Addr} {n c t : Nat} {L : List Int} (h : InAt w S A n c L) (ht : t ≤ n) (V : World) : Sem.run Try.prog (Instr.slice 23 (.slice A n c) none (some (.int .i64 (t : Int))) none) V = .ok (.slice A t c) V := by
 have h1 := h.cap
 have hz : (sizeOf 3).run Try.prog V = .ok 1 V := Try.sizeOf3 V
 have ha : (if c = 0 then A else A.map (·.add 0)) = A := by cases A <;> simp [Addr.add]
 simp [Instr.slice, Instr.sliceBounds, Instr.sliceBound, asIntOf, run_underlying Try.underlying23, hz, Result.andThen]
 rw [if_pos (by omega)]
 simp [ha]
theorem slice_in {w : World} {A : Option Addr} {n c f t : Nat} {L : List Int} (h : InAt w (Bl w) A n c L) (hf : f ≤ t) (ht : t ≤ n) :
  ∃ (A' : Option Addr) (c' : Nat), (∀ V, Sem.run Try.prog (Instr.slice 23 (.slice A n c) (some (.int .i64 (f : Int))) (some (.int .i64 (t : Int))) none) V = .ok (.slice A' (t - f) c') V) ∧ InAt w (Bl w) A' (t - f) c' ((L.drop f).take (t - f)) := by
 have h1 := h.cap
 refine ⟨if c = f then A else A.map (·.add (f * 1)), c - f, fun V => ?_, by rw [List.length_take, List.length_drop, h.len]; omega, by omega, by have := h.capm; omega, fun h0 => ?_⟩
 ·have hz : (sizeOf 3).run Try.prog V = .ok 1 V := Try.sizeOf3 V
  simp [Instr.slice, Instr.sliceBounds, Instr.sliceBound, asIntOf, run_underlying Try.underlying23, hz, Result.andThen]
  rw [if_pos (by omega)]
  simp [hf]
 ·obtain ⟨b, off, e, hb, hc⟩ := h.at_ (by omega)
  rw [if_neg (by omega), e]
  refine ⟨b, off + f, by simp [Addr.add], hb, fun j x hx => ?_⟩
  rw [List.getElem?_take] at hx
  split at hx
  ·rw [List.getElem?_drop] at hx
   have := hc _ x hx
   rwa [← Nat.add_assoc] at this
  ·cases hx
set_option maxHeartbeats 4000000 in
theorem parts_walk {w : World} {x : Pt} (hsm : x.small) {sA gA A : Option Addr} {sn sc gn gc n c : Nat} (hx : PtIn w (Bl w) sA sn sc gA gn gc A n c x) {lA : Option Addr} {ln lc : Nat} {l : List Int} (hl : InAt w (Bl w) lA ln lc l) {y z : Int} (hy : 0 ≤ y ∧ y ≤ 255) (hz : 0 ≤ z ∧ z ≤ 255) :
  Calls Try.prog 5 #[.agg #[.int .i64 x.kind, .slice sA sn sc, .slice gA gn gc, .slice A n c], .slice lA ln lc, .agg #[.int .u8 y, .int .u8 z]] w (TrueP w) := by
 have z1 : (w.alloc (.cells #[.int .i64 x.kind, .slice sA sn sc, .slice gA gn gc, .slice A n c] 26)).heap.size = w.heap.size + 1 := by simp
 have z2 : ((w.alloc (.cells #[.int .i64 x.kind, .slice sA sn sc, .slice gA gn gc, .slice A n c] 26)).alloc (.cells #[.int .u8 y, .int .u8 z] 37)).heap.size = w.heap.size + 2 := by simp
 have hb0 : Below w.heap.size w ((w.alloc (.cells #[.int .i64 x.kind, .slice sA sn sc, .slice gA gn gc, .slice A n c] 26)).alloc (.cells #[.int .u8 y, .int .u8 z] 37)) := (kbelow_push w _).trans ((kbelow_push _ _).mono (by omega))
 have HB0 := Lib.hid hb0
 have HX := Lib.hid (hx.on hb0)
 have HL := Lib.hid (hl.on hb0)
 have HR0 := Lib.hid (((kbelow_push (w.alloc (.cells #[.int .i64 x.kind, .slice sA sn sc, .slice gA gn gc, .slice A n c] 26)) (.cells #[.int .u8 y, .int .u8 z] 37)).block w.heap.size (by omega)).trans (heap_alloc_new w _))
 have r1 := heap_alloc_new (w.alloc (.cells #[.int .i64 x.kind, .slice sA sn sc, .slice gA gn gc, .slice A n c] 26)) (.cells #[.int .u8 y, .int .u8 z] 37)
 rw [z1] at r1
 have HR1 := Lib.hid r1
 have HSM := Lib.hid hsm
 have HZ := Lib.hid z2
 have HLN := Lib.hid hl.len
 clear z1 z2 hb0 hx hl r1 hsm
 go_enter Try.func5, Try.ntmps5
 go_upto_region 1 with fail
 generalize hW0 : ((w.alloc (.cells #[.int .i64 x.kind, .slice sA sn sc, .slice gA gn gc, .slice A n c] 26)).alloc (.cells #[.int .u8 y, .int .u8 z] 37)) = W at *
 clear hW0
 have HK : Hid (∀ V, Below W.heap.size W V → V.cell? ⟨w.heap.size, 0, none⟩ = some (.int .i64 x.kind) ∧ V.cell? ⟨w.heap.size, 1, none⟩ = some (.slice sA sn sc) ∧ V.cell? ⟨w.heap.size, 2, none⟩ = some (.slice gA gn gc) ∧ V.cell? ⟨w.heap.size, 3, none⟩ = some (.slice A n c)) := fun V hb => hcells4 ((hb.block _ (by have := HZ.out; omega)).trans HR0.out)
 have HK2 : Hid (∀ V, Below W.heap.size W V → V.cell? ⟨w.heap.size + 1, 0, none⟩ = some (.int .u8 y) ∧ V.cell? ⟨w.heap.size + 1, 1, none⟩ = some (.int .u8 z)) := fun V hb => pcells2 ((hb.block _ (by have := HZ.out; omega)).trans HR1.out)
 have HRES : Hid (∀ V, Below W.heap.size W V → TrueP w (.returned (.bool true)) V) := fun V hb => ⟨rfl, HB0.out.trans (hb.mono HB0.out.size)⟩
 clear HR0 HR1 HB0
 go_wp2_with fail
 refine (alive11_any).mono ?_
 rintro en w1 ⟨rfl, hb1⟩
 have HB1 := Lib.hid hb1
 obtain ⟨c0, c1, c2, c3⟩ := HK.out _ hb1
 have HCW := Lib.hid (pwg_any HSM.out (HX.out.on hb1))
 clear hb1
 go_wp2_with fail
 refine HCW.out.mono ?_
 rintro en w2 ⟨i, rfl, hi0, hi1, hi2, hb2⟩
 have HB2 := Lib.hid (HB1.out.trans (hb2.mono HB1.out.size))
 have HI2 : Hid (i ≤ 2000 → (x.wt : Int) ≤ i) := hi2
 clear hb2 hi2 c0 c1 c2 c3 HCW HB1
 by_cases h300 : 300 < i
 ·have HE := Lib.hid (HRES.out _ HB2.out)
  go_wp2_with fail
  go_ret
  exact HE.out
 by_cases h15 : (15 : Int) < (ln : Int)
 ·have HE := Lib.hid (HRES.out _ HB2.out)
  go_wp2_with fail
  go_ret
  exact HE.out
 have HWT : Hid (x.size ≤ 10000) := by
  have h1 := HI2.out (by omega)
  have h2 := Pt.size_wt x
  show _ ≤ _
  omega
 have HLT : Hid (ln ≤ 15) := by show _ ≤ _; omega
 clear HI2 hi0 hi1
 go_upto_region 5 with fail
 clear h300 h15
 obtain ⟨e0, e1⟩ := HK2.out _ HB2.out
 have HBD : Hid (Below W.heap.size W w2.drew) := kbelow_drewN HB2.out 1
 obtain ⟨f0, f1⟩ := HK2.out _ HBD.out
 have hln : ln ≤ 15 := HLT.out
 go_quiet (fail)
 have hya : ∃ a : Nat, y % ((ln : Int) + 1) = (a : Int) ∧ a ≤ ln := by
  obtain ⟨a, ha⟩ := Int.eq_ofNat_of_zero_le (Int.emod_nonneg y (show (ln : Int) + 1 ≠ 0 by omega))
  have := Int.emod_lt_of_pos y (show (0 : Int) < (ln : Int) + 1 by omega)
  exact ⟨a, ha, by omega⟩
 have hzb : ∃ a : Nat, z % ((ln : Int) + 1) = (a : Int) ∧ a ≤ ln := by
  obtain ⟨a, ha⟩ := Int.eq_ofNat_of_zero_le (Int.emod_nonneg z (show (ln : Int) + 1 ≠ 0 by omega))
  have := Int.emod_lt_of_pos z (show (0 : Int) < (ln : Int) + 1 by omega)
  exact ⟨a, ha, by omega⟩
 obtain ⟨a, ha, hal⟩ := hya
 obtain ⟨b, hb, hbl⟩ := hzb
 generalize y % ((ln : Int) + 1) = ya at *
 generalize z % ((ln : Int) + 1) = zb at *
 subst ha hb
 have HB3 : Hid (Below W.heap.size W (w2.drewN nq)) := kbelow_drewN HB2.out nq
 generalize w2.drewN nq = w3 at *
 obtain ⟨c0, c1, c2, c3⟩ := HK.out _ HB3.out
 clear e0 e1 f0 f1 HBD HB2 HK2
 obtain ⟨f, t, hf, ht, hft, htl⟩ : ∃ f t : Nat, min (a : Int) (b : Int) = (f : Int) ∧ max (a : Int) (b : Int) = (t : Int) ∧ f ≤ t ∧ t ≤ ln := ⟨min a b, max a b, by omega, by omega, by omega, by omega⟩
 have HCM := Lib.hid (matches_any (HL.out.on HB3.out) (by rw [HLN.out]; omega) (HX.out.on HB3.out) HWT.out (f : Int) (t : Int))
 go_wp2_with fail
 clear hf ht hal hbl
 refine HCM.out.mono ?_
 rintro en w4 ⟨r, rfl, hr, hb4⟩
 have HB4 := Lib.hid (HB3.out.trans (hb4.mono HB3.out.size))
 clear hb4 c0 c1 c2 c3 HB3 HCM
 have hllen : l.length = ln := HLN.out
 obtain ⟨sA9, sc9, hs1, HIS⟩ := slice_in (HL.out) hft htl
 have hs2 : ∀ V, Sem.run Try.prog (Instr.slice 23 (.slice lA ln lc) none (some (.int .i64 (t : Int))) none) V = .ok (.slice lA t lc) V := slice_to (HL.out) htl
 have HRM : Hid (r = true ↔ Mt l x f t) := by
  show _ ↔ _
  rw [hr]
  exact mtI_nat hft (by omega)
 clear hr
 have HIS2 := Lib.hid HIS
 have HC1 : Hid (∀ V, Below W.heap.size W V → Calls Try.prog 15 #[.agg #[.int .i64 x.kind, .slice sA sn sc, .slice gA gn gc, .slice A n c], .slice sA9 (t - f) sc9, .int .i64 0, .int .i64 ((t : Int) - (f : Int))] V (BoolP r V)) := fun V hV => by
  refine (matches_any (HIS2.out.on hV) (by rw [List.length_take, List.length_drop]; omega) (HX.out.on hV) HWT.out 0 ((t : Int) - (f : Int))).mono fun en w9 h => h.iff ?_
  have h1 : Mt ((l.drop f).take (t - f)) x 0 (t - f) ↔ Mt l x f t := by
   rw [Mt.take_iff (Nat.le_refl _), Mt.drop_iff, show f + (t - f) = t by omega]
  rw [HRM.out, ← h1, ← mtI_nat (Nat.zero_le _) (by rw [List.length_take, List.length_drop]; omega), show ((t - f : Nat) : Int) = (t : Int) - (f : Int) by omega]
  rfl
 have HC2 : Hid (∀ V, Below W.heap.size W V → Calls Try.prog 15 #[.agg #[.int .i64 x.kind, .slice sA sn sc, .slice gA gn gc, .slice A n c], .slice lA t lc, .int .i64 (f : Int), .int .i64 (t : Int)] V (BoolP r V)) := fun V hV => by
  refine (matches_any (l := l.take t) ((InAt.to HL.out htl).on hV) (by rw [List.length_take]; omega) (HX.out.on hV) HWT.out (f : Int) (t : Int)).mono fun en w9 h => h.iff ?_
  rw [HRM.out, MtI.take (by omega), mtI_nat hft (by omega)]
 have HC4 : Hid (∀ V, Below W.heap.size W V → Calls Try.prog 15 #[.agg #[.int .i64 x.kind, .slice sA sn sc, .slice gA gn gc, .slice A n c], .slice lA ln lc, .int .i64 (-1), .int .i64 (t : Int)] V (BoolP false V)) := fun V hV => (matches_any (HL.out.on hV) (by omega) (HX.out.on hV) HWT.out (-1) (t : Int)).mono fun en w9 h => h.not fun ⟨a1, b1, e1, _⟩ => by omega
 have HC5 : Hid (∀ V, Below W.heap.size W V → Calls Try.prog 15 #[.agg #[.int .i64 x.kind, .slice sA sn sc, .slice gA gn gc, .slice A n c], .slice lA ln lc, .int .i64 (f : Int), .int .i64 ((ln : Int) + 1)] V (BoolP false V)) := fun V hV => (matches_any (HL.out.on hV) (by omega) (HX.out.on hV) HWT.out (f : Int) ((ln : Int) + 1)).mono fun en w9 h => h.not fun ⟨a1, b1, e1, e2, _, h4, _⟩ => by omega
 have HBQ : Hid (Below W.heap.size W w4.drew) := kbelow_drewN HB4.out 1
 clear HIS HIS2 hllen HB4
 go_upto_region 8 with fail
 have w1 : IntKind.i64.wrap ((t : Int) - (f : Int)) = (t : Int) - (f : Int) := IntWalk.i64_in _ (by omega)
 have w2 : IntKind.i64.wrap ((ln : Int) + 1) = (ln : Int) + 1 := IntWalk.i64_in _ (by omega)
 by_cases hq : f = t
 ·subst hq
  have w0 : IntKind.i64.wrap 0 = 0 := rfl
  simp only [Nat.sub_self, Int.sub_self] at HC1 hs1 w1
  clear w1
  have HC3 : Hid (∀ V, Below W.heap.size W V → Calls Try.prog 17 #[.agg #[.int .i64 x.kind, .slice sA sn sc, .slice gA gn gc, .slice A n c]] V (BoolP r V)) := fun V hV => (null_any (HX.out.on hV) HWT.out).mono fun en w9 h => h.iff (by rw [HRM.out, Mt.null])
  have q1 : ((f : Int) != (f : Int)) = false := by simp
  clear HRM
  cases r with
  | false =>
   go_region_held_law (fun w' => w'.cell? ⟨w.heap.size, 0, none⟩ = some (.int .i64 x.kind) ∧ w'.cell? ⟨w.heap.size, 1, none⟩ = some (.slice sA sn sc) ∧ w'.cell? ⟨w.heap.size, 2, none⟩ = some (.slice gA gn gc) ∧ w'.cell? ⟨w.heap.size, 3, none⟩ = some (.slice A n c)) (first | exact HK.out _ HBQ.out | exact HK.out _ HV1.out | exact HK.out _ HV2.out | exact HK.out _ HV3.out | exact HK.out _ HV4.out | exact HK.out _ HV5.out | exact HK.out _ HBQ.out) (first
    | (go_at_call 15; (with_reducible refine (HC1.out _ HBQ.out).mono ?_); rintro en V1 ⟨rfl, hb⟩; have HV1 := Lib.hid (HBQ.out.trans (hb.mono HBQ.out.size)); clear hb)
    | (go_at_call 15; (with_reducible refine (HC2.out _ HV1.out).mono ?_); rintro en V2 ⟨rfl, hb⟩; have HV2 := Lib.hid (HV1.out.trans (hb.mono HV1.out.size)); clear hb)
    | (go_at_call 17; (with_reducible refine (HC3.out _ HV2.out).mono ?_); rintro en V3 ⟨rfl, hb⟩; have HV3 := Lib.hid (HV2.out.trans (hb.mono HV2.out.size)); clear hb)
    | (go_at_call 15; (with_reducible refine (HC4.out _ HV3.out).mono ?_); rintro en V4 ⟨rfl, hb⟩; have HV4 := Lib.hid (HV3.out.trans (hb.mono HV3.out.size)); clear hb)
    | (go_at_call 15; (with_reducible refine (HC5.out _ HV4.out).mono ?_); rintro en V5 ⟨rfl, hb⟩; have HV5 := Lib.hid (HV4.out.trans (hb.mono HV4.out.size)); clear hb))
   all_goals (
    have HE := Lib.hid (HRES.out _ HV5.out)
    go_wp2_with fail
    go_ret
    exact HE.out)
  | true =>
   go_region_held_law (fun w' => w'.cell? ⟨w.heap.size, 0, none⟩ = some (.int .i64 x.kind) ∧ w'.cell? ⟨w.heap.size, 1, none⟩ = some (.slice sA sn sc) ∧ w'.cell? ⟨w.heap.size, 2, none⟩ = some (.slice gA gn gc) ∧ w'.cell? ⟨w.heap.size, 3, none⟩ = some (.slice A n c)) (first | exact HK.out _ HBQ.out | exact HK.out _ HV1.out | exact HK.out _ HV2.out | exact HK.out _ HV3.out | exact HK.out _ HV4.out | exact HK.out _ HV5.out | exact HK.out _ HBQ.out) (first
    | (go_at_call 15; (with_reducible refine (HC1.out _ HBQ.out).mono ?_); rintro en V1 ⟨rfl, hb⟩; have HV1 := Lib.hid (HBQ.out.trans (hb.mono HBQ.out.size)); clear hb)
    | (go_at_call 15; (with_reducible refine (HC2.out _ HV1.out).mono ?_); rintro en V2 ⟨rfl, hb⟩; have HV2 := Lib.hid (HV1.out.trans (hb.mono HV1.out.size)); clear hb)
    | (go_at_call 17; (with_reducible refine (HC3.out _ HV2.out).mono ?_); rintro en V3 ⟨rfl, hb⟩; have HV3 := Lib.hid (HV2.out.trans (hb.mono HV2.out.size)); clear hb)
    | (go_at_call 15; (with_reducible refine (HC4.out _ HV3.out).mono ?_); rintro en V4 ⟨rfl, hb⟩; have HV4 := Lib.hid (HV3.out.trans (hb.mono HV3.out.size)); clear hb)
    | (go_at_call 15; (with_reducible refine (HC5.out _ HV4.out).mono ?_); rintro en V5 ⟨rfl, hb⟩; have HV5 := Lib.hid (HV4.out.trans (hb.mono HV4.out.size)); clear hb))
   all_goals (
    have HE := Lib.hid (HRES.out _ HV5.out)
    go_wp2_with fail
    go_ret
    exact HE.out)
 ·have q1 : ((f : Int) == (t : Int)) = false := by rw [beq_eq_false_iff_ne]; omega
  have q2 : ((f : Int) != (t : Int)) = true := by rw [bne_iff_ne]; omega
  clear HRM
  cases r with
  | false =>
   refine wp_region_held_drew (S := (fun w' => w'.cell? ⟨w.heap.size, 0, none⟩ = some (.int .i64 x.kind) ∧ w'.cell? ⟨w.heap.size, 1, none⟩ = some (.slice sA sn sc) ∧ w'.cell? ⟨w.heap.size, 2, none⟩ = some (.slice gA gn gc) ∧ w'.cell? ⟨w.heap.size, 3, none⟩ = some (.slice A n c))) (by kernel_rfl) ?_ (fun hHeld => ?_)
   ·exact HK.out _ HBQ.out
   refine K_take 0 47 (v := ?_) rfl rfl (by kernel_rfl) (by kernel_rfl) (by kernel_rfl) (fun _ _ _ h => h) ?_ ?_ (by assumption) ?_
   rotate_left
   ·with_unfolding_all rfl
   ·intro wz hSw
    try dsimp only at hSw
    go_simp
    all_goals with_reducible rfl
   try simp only [Act.put, List.setIfInBounds_toArray, List.set_cons_zero, List.set_cons_succ]
   refine K_take 1 48 (v := ?_) rfl rfl (by kernel_rfl) (by kernel_rfl) (by kernel_rfl) (fun _ _ _ h => h) ?_ ?_ (by assumption) ?_
   rotate_left
   ·with_unfolding_all rfl
   ·intro wz hSw
    try dsimp only at hSw
    go_simp
    all_goals with_reducible rfl
   try simp only [Act.put, List.setIfInBounds_toArray, List.set_cons_zero, List.set_cons_succ]
   refine K_take 2 49 (v := ?_) rfl rfl (by kernel_rfl) (by kernel_rfl) (by kernel_rfl) (fun _ _ _ h => h) ?_ ?_ (by assumption) ?_
   rotate_left
   ·with_unfolding_all rfl
   ·intro wz hSw
    try dsimp only at hSw
    go_simp
    all_goals with_reducible rfl
   try simp only [Act.put, List.setIfInBounds_toArray, List.set_cons_zero, List.set_cons_succ]
   refine K_take 3 50 (v := ?_) rfl rfl (by kernel_rfl) (by kernel_rfl) (by kernel_rfl) (fun _ _ _ h => h) ?_ ?_ (by assumption) ?_
   rotate_left
   ·with_unfolding_all rfl
   ·intro wz hSw
    try dsimp only at hSw
    go_simp
    all_goals with_reducible rfl
   try simp only [Act.put, List.setIfInBounds_toArray, List.set_cons_zero, List.set_cons_succ]
   refine K_take 4 51 (v := ?_) rfl rfl (by kernel_rfl) (by kernel_rfl) (by kernel_rfl) (fun _ _ _ h => h) ?_ ?_ (by assumption) ?_
   rotate_left
   ·with_unfolding_all rfl
   ·intro wz hSw
    try dsimp only at hSw
    go_simp
    all_goals with_reducible rfl
   try simp only [Act.put, List.setIfInBounds_toArray, List.set_cons_zero, List.set_cons_succ]
   refine K_take 5 52 (v := ?_) rfl rfl (by kernel_rfl) (by kernel_rfl) (by kernel_rfl) (fun _ _ _ h => h) ?_ ?_ (by assumption) ?_
   rotate_left
   ·with_unfolding_all rfl
   ·intro wz hSw
    try dsimp only at hSw
    go_simp
    all_goals with_reducible rfl
   try simp only [Act.put, List.setIfInBounds_toArray, List.set_cons_zero, List.set_cons_succ]
   refine K_take 6 53 (v := ?_) rfl rfl (by kernel_rfl) (by kernel_rfl) (by kernel_rfl) (fun _ _ _ h => h) ?_ ?_ (by assumption) ?_
   rotate_left
   ·with_unfolding_all rfl
   ·intro wz hSw
    try dsimp only at hSw
    go_simp
    all_goals with_reducible rfl
   try simp only [Act.put, List.setIfInBounds_toArray, List.set_cons_zero, List.set_cons_succ]
   refine K_take 7 54 (v := ?_) rfl rfl (by kernel_rfl) (by kernel_rfl) (by kernel_rfl) (fun _ _ _ h => h) ?_ ?_ (by assumption) ?_
   rotate_left
   ·with_unfolding_all rfl
   ·intro wz hSw
    try dsimp only at hSw
    go_simp
    all_goals with_reducible rfl
   try simp only [Act.put, List.setIfInBounds_toArray, List.set_cons_zero, List.set_cons_succ]
   refine K_take 8 55 (v := ?_) rfl rfl (by kernel_rfl) (by kernel_rfl) (by kernel_rfl) (fun _ _ _ h => h) ?_ ?_ (by assumption) ?_
   rotate_left
   ·with_unfolding_all rfl
   ·intro wz hSw
    try dsimp only at hSw
    go_simp
    all_goals with_reducible rfl
   try simp only [Act.put, List.setIfInBounds_toArray, List.set_cons_zero, List.set_cons_succ]
   refine wpAnyH_ready (rs := [9]) (by kernel_rfl) (by simp) ?_
   refine AllReadyH.cons rfl (fun K hK => ?_) AllReadyH.nil
   go_simp
   go_wp2_with fail
   refine (HC1.out _ HBQ.out).mono ?_
   rintro en V1 ⟨rfl, hb⟩
   have HV1 := Lib.hid (HBQ.out.trans (hb.mono HBQ.out.size))
   clear hb
   refine hK.out _ _ ?_ (fun hHeld => ?_)
   ·first | exact HK.out _ HV5.out | exact HK.out _ HV4.out | exact HK.out _ HV2.out | exact HK.out _ HV1.out | exact HK.out _ HBQ.out
   clear hK K
   refine K_take 10 57 (v := ?_) rfl rfl (by kernel_rfl) (by kernel_rfl) (by kernel_rfl) (fun _ _ _ h => h) ?_ ?_ (by assumption) ?_
   rotate_left
   ·with_unfolding_all rfl
   ·intro wz hSw
    try dsimp only at hSw
    go_simp
    all_goals with_reducible rfl
   try simp only [Act.put, List.setIfInBounds_toArray, List.set_cons_zero, List.set_cons_succ]
   refine K_take 11 58 (v := ?_) rfl rfl (by kernel_rfl) (by kernel_rfl) (by kernel_rfl) (fun _ _ _ h => h) ?_ ?_ (by assumption) ?_
   rotate_left
   ·with_unfolding_all rfl
   ·intro wz hSw
    try dsimp only at hSw
    go_simp
    all_goals with_reducible rfl
   try simp only [Act.put, List.setIfInBounds_toArray, List.set_cons_zero, List.set_cons_succ]
   refine K_take 12 59 (v := ?_) rfl rfl (by kernel_rfl) (by kernel_rfl) (by kernel_rfl) (fun _ _ _ h => h) ?_ ?_ (by assumption) ?_
   rotate_left
   ·with_unfolding_all rfl
   ·intro wz hSw
    try dsimp only at hSw
    go_simp
    all_goals with_reducible rfl
   try simp only [Act.put, List.setIfInBounds_toArray, List.set_cons_zero, List.set_cons_succ]
   refine K_take 13 60 (v := ?_) rfl rfl (by kernel_rfl) (by kernel_rfl) (by kernel_rfl) (fun _ _ _ h => h) ?_ ?_ (by assumption) ?_
   rotate_left
   ·with_unfolding_all rfl
   ·intro wz hSw
    try dsimp only at hSw
    go_simp
    all_goals with_reducible rfl
   try simp only [Act.put, List.setIfInBounds_toArray, List.set_cons_zero, List.set_cons_succ]
   refine K_take 14 61 (v := ?_) rfl rfl (by kernel_rfl) (by kernel_rfl) (by kernel_rfl) (fun _ _ _ h => h) ?_ ?_ (by assumption) ?_
   rotate_left
   ·with_unfolding_all rfl
   ·intro wz hSw
    try dsimp only at hSw
    go_simp
    all_goals with_reducible rfl
   try simp only [Act.put, List.setIfInBounds_toArray, List.set_cons_zero, List.set_cons_succ]
   refine K_take 15 62 (v := ?_) rfl rfl (by kernel_rfl) (by kernel_rfl) (by kernel_rfl) (fun _ _ _ h => h) ?_ ?_ (by assumption) ?_
   rotate_left
   ·with_unfolding_all rfl
   ·intro wz hSw
    try dsimp only at hSw
    go_simp
    all_goals with_reducible rfl
   try simp only [Act.put, List.setIfInBounds_toArray, List.set_cons_zero, List.set_cons_succ]
   refine K_take 16 63 (v := ?_) rfl rfl (by kernel_rfl) (by kernel_rfl) (by kernel_rfl) (fun _ _ _ h => h) ?_ ?_ (by assumption) ?_
   rotate_left
   ·with_unfolding_all rfl
   ·intro wz hSw
    try dsimp only at hSw
    go_simp
    all_goals with_reducible rfl
   try simp only [Act.put, List.setIfInBounds_toArray, List.set_cons_zero, List.set_cons_succ]
   refine K_take 17 64 (v := ?_) rfl rfl (by kernel_rfl) (by kernel_rfl) (by kernel_rfl) (fun _ _ _ h => h) ?_ ?_ (by assumption) ?_
   rotate_left
   ·with_unfolding_all rfl
   ·intro wz hSw
    try dsimp only at hSw
    go_simp
    all_goals with_reducible rfl
   try simp only [Act.put, List.setIfInBounds_toArray, List.set_cons_zero, List.set_cons_succ]
   refine K_take 18 65 (v := ?_) rfl rfl (by kernel_rfl) (by kernel_rfl) (by kernel_rfl) (fun _ _ _ h => h) ?_ ?_ (by assumption) ?_
   rotate_left
   ·with_unfolding_all rfl
   ·intro wz hSw
    try dsimp only at hSw
    go_simp
    all_goals with_reducible rfl
   try simp only [Act.put, List.setIfInBounds_toArray, List.set_cons_zero, List.set_cons_succ]
   refine wpAnyH_ready (rs := [19]) (by kernel_rfl) (by simp) ?_
   refine AllReadyH.cons rfl (fun K hK => ?_) AllReadyH.nil
   go_simp
   go_wp2_with fail
   refine (HC2.out _ HV1.out).mono ?_
   rintro en V2 ⟨rfl, hb⟩
   have HV2 := Lib.hid (HV1.out.trans (hb.mono HV1.out.size))
   clear hb
   refine hK.out _ _ ?_ (fun hHeld => ?_)
   ·first | exact HK.out _ HV5.out | exact HK.out _ HV4.out | exact HK.out _ HV2.out | exact HK.out _ HV1.out | exact HK.out _ HBQ.out
   clear hK K
   refine K_take 20 67 (v := ?_) rfl rfl (by kernel_rfl) (by kernel_rfl) (by kernel_rfl) (fun _ _ _ h => h) ?_ ?_ (by assumption) ?_
   rotate_left
   ·with_unfolding_all rfl
   ·intro wz hSw
    try dsimp only at hSw
    go_simp
    all_goals with_reducible rfl
   try simp only [Act.put, List.setIfInBounds_toArray, List.set_cons_zero, List.set_cons_succ]
   refine K_take 21 68 (v := ?_) rfl rfl (by kernel_rfl) (by kernel_rfl) (by kernel_rfl) (fun _ _ _ h => h) ?_ ?_ (by assumption) ?_
   rotate_left
   ·with_unfolding_all rfl
   ·intro wz hSw
    try dsimp only at hSw
    go_simp
    all_goals with_reducible rfl
   try simp only [Act.put, List.setIfInBounds_toArray, List.set_cons_zero, List.set_cons_succ]
   refine K_take 22 69 (v := ?_) rfl rfl (by kernel_rfl) (by kernel_rfl) (by kernel_rfl) (fun _ _ _ h => h) ?_ ?_ (by assumption) ?_
   rotate_left
   ·with_unfolding_all rfl
   ·intro wz hSw
    try dsimp only at hSw
    go_simp
    all_goals with_reducible rfl
   try simp only [Act.put, List.setIfInBounds_toArray, List.set_cons_zero, List.set_cons_succ]
   refine K_take 23 70 (v := ?_) rfl rfl (by kernel_rfl) (by kernel_rfl) (by kernel_rfl) (fun _ _ _ h => h) ?_ ?_ (by assumption) ?_
   rotate_left
   ·with_unfolding_all rfl
   ·intro wz hSw
    try dsimp only at hSw
    go_simp
    all_goals with_reducible rfl
   try simp only [Act.put, List.setIfInBounds_toArray, List.set_cons_zero, List.set_cons_succ]
   refine K_take 24 71 (v := ?_) rfl rfl (by kernel_rfl) (by kernel_rfl) (by kernel_rfl) (fun _ _ _ h => h) ?_ ?_ (by assumption) ?_
   rotate_left
   ·with_unfolding_all rfl
   ·intro wz hSw
    try dsimp only at hSw
    go_simp
    all_goals with_reducible rfl
   try simp only [Act.put, List.setIfInBounds_toArray, List.set_cons_zero, List.set_cons_succ]
   refine K_take 25 72 (v := ?_) rfl rfl (by kernel_rfl) (by kernel_rfl) (by kernel_rfl) (fun _ _ _ h => h) ?_ ?_ (by assumption) ?_
   rotate_left
   ·with_unfolding_all rfl
   ·intro wz hSw
    try dsimp only at hSw
    go_simp
    all_goals with_reducible rfl
   try simp only [Act.put, List.setIfInBounds_toArray, List.set_cons_zero, List.set_cons_succ]
   refine K_take 26 73 (v := ?_) rfl rfl (by kernel_rfl) (by kernel_rfl) (by kernel_rfl) (fun _ _ _ h => h) ?_ ?_ (by assumption) ?_
   rotate_left
   ·with_unfolding_all rfl
   ·intro wz hSw
    try dsimp only at hSw
    go_simp
    all_goals with_reducible rfl
   try simp only [Act.put, List.setIfInBounds_toArray, List.set_cons_zero, List.set_cons_succ]
   refine K_pass 27 74 rfl rfl (by kernel_rfl) (by kernel_rfl) (by kernel_rfl) (fun _ _ _ h => h) (by with_unfolding_all rfl) (by assumption) ?_
   try simp only [Act.put, List.setIfInBounds_toArray, List.set_cons_zero, List.set_cons_succ]
   refine K_pass 28 75 rfl rfl (by kernel_rfl) (by kernel_rfl) (by kernel_rfl) (fun _ _ _ h => h) (by with_unfolding_all rfl) (by assumption) ?_
   try simp only [Act.put, List.setIfInBounds_toArray, List.set_cons_zero, List.set_cons_succ]
   refine K_pass 29 76 rfl rfl (by kernel_rfl) (by kernel_rfl) (by kernel_rfl) (fun _ _ _ h => h) (by with_unfolding_all rfl) (by assumption) ?_
   try simp only [Act.put, List.setIfInBounds_toArray, List.set_cons_zero, List.set_cons_succ]
   refine K_pass 30 77 rfl rfl (by kernel_rfl) (by kernel_rfl) (by kernel_rfl) (fun _ _ _ h => h) (by with_unfolding_all rfl) (by assumption) ?_
   try simp only [Act.put, List.setIfInBounds_toArray, List.set_cons_zero, List.set_cons_succ]
   refine K_take 31 78 (v := ?_) rfl rfl (by kernel_rfl) (by kernel_rfl) (by kernel_rfl) (fun _ _ _ h => h) ?_ ?_ (by assumption) ?_
   rotate_left
   ·with_unfolding_all rfl
   ·intro wz hSw
    try dsimp only at hSw
    go_simp
    all_goals with_reducible rfl
   try simp only [Act.put, List.setIfInBounds_toArray, List.set_cons_zero, List.set_cons_succ]
   refine K_take 32 79 (v := ?_) rfl rfl (by kernel_rfl) (by kernel_rfl) (by kernel_rfl) (fun _ _ _ h => h) ?_ ?_ (by assumption) ?_
   rotate_left
   ·with_unfolding_all rfl
   ·intro wz hSw
    try dsimp only at hSw
    go_simp
    all_goals with_reducible rfl
   try simp only [Act.put, List.setIfInBounds_toArray, List.set_cons_zero, List.set_cons_succ]
   refine K_take 33 80 (v := ?_) rfl rfl (by kernel_rfl) (by kernel_rfl) (by kernel_rfl) (fun _ _ _ h => h) ?_ ?_ (by assumption) ?_
   rotate_left
   ·with_unfolding_all rfl
   ·intro wz hSw
    try dsimp only at hSw
    go_simp
    all_goals with_reducible rfl
   try simp only [Act.put, List.setIfInBounds_toArray, List.set_cons_zero, List.set_cons_succ]
   refine K_take 34 81 (v := ?_) rfl rfl (by kernel_rfl) (by kernel_rfl) (by kernel_rfl) (fun _ _ _ h => h) ?_ ?_ (by assumption) ?_
   rotate_left
   ·with_unfolding_all rfl
   ·intro wz hSw
    try dsimp only at hSw
    go_simp
    all_goals with_reducible rfl
   try simp only [Act.put, List.setIfInBounds_toArray, List.set_cons_zero, List.set_cons_succ]
   refine K_take 35 82 (v := ?_) rfl rfl (by kernel_rfl) (by kernel_rfl) (by kernel_rfl) (fun _ _ _ h => h) ?_ ?_ (by assumption) ?_
   rotate_left
   ·with_unfolding_all rfl
   ·intro wz hSw
    try dsimp only at hSw
    go_simp
    all_goals with_reducible rfl
   try simp only [Act.put, List.setIfInBounds_toArray, List.set_cons_zero, List.set_cons_succ]
   refine K_take 36 83 (v := ?_) rfl rfl (by kernel_rfl) (by kernel_rfl) (by kernel_rfl) (fun _ _ _ h => h) ?_ ?_ (by assumption) ?_
   rotate_left
   ·with_unfolding_all rfl
   ·intro wz hSw
    try dsimp only at hSw
    go_simp
    all_goals with_reducible rfl
   try simp only [Act.put, List.setIfInBounds_toArray, List.set_cons_zero, List.set_cons_succ]
   refine wpAnyH_ready (rs := [37]) (by kernel_rfl) (by simp) ?_
   refine AllReadyH.cons rfl (fun K hK => ?_) AllReadyH.nil
   go_simp
   go_wp2_with fail
   refine (HC4.out _ HV2.out).mono ?_
   rintro en V4 ⟨rfl, hb⟩
   have HV4 := Lib.hid (HV2.out.trans (hb.mono HV2.out.size))
   clear hb
   refine hK.out _ _ ?_ (fun hHeld => ?_)
   ·first | exact HK.out _ HV5.out | exact HK.out _ HV4.out | exact HK.out _ HV2.out | exact HK.out _ HV1.out | exact HK.out _ HBQ.out
   clear hK K
   refine K_take 38 85 (v := ?_) rfl rfl (by kernel_rfl) (by kernel_rfl) (by kernel_rfl) (fun _ _ _ h => h) ?_ ?_ (by assumption) ?_
   rotate_left
   ·with_unfolding_all rfl
   ·intro wz hSw
    try dsimp only at hSw
    go_simp
    all_goals with_reducible rfl
   try simp only [Act.put, List.setIfInBounds_toArray, List.set_cons_zero, List.set_cons_succ]
   refine K_take 39 86 (v := ?_) rfl rfl (by kernel_rfl) (by kernel_rfl) (by kernel_rfl) (fun _ _ _ h => h) ?_ ?_ (by assumption) ?_
   rotate_left
   ·with_unfolding_all rfl
   ·intro wz hSw
    try dsimp only at hSw
    go_simp
    all_goals with_reducible rfl
   try simp only [Act.put, List.setIfInBounds_toArray, List.set_cons_zero, List.set_cons_succ]
   refine K_take 40 87 (v := ?_) rfl rfl (by kernel_rfl) (by kernel_rfl) (by kernel_rfl) (fun _ _ _ h => h) ?_ ?_ (by assumption) ?_
   rotate_left
   ·with_unfolding_all rfl
   ·intro wz hSw
    try dsimp only at hSw
    go_simp
    all_goals with_reducible rfl
   try simp only [Act.put, List.setIfInBounds_toArray, List.set_cons_zero, List.set_cons_succ]
   refine K_take 41 88 (v := ?_) rfl rfl (by kernel_rfl) (by kernel_rfl) (by kernel_rfl) (fun _ _ _ h => h) ?_ ?_ (by assumption) ?_
   rotate_left
   ·with_unfolding_all rfl
   ·intro wz hSw
    try dsimp only at hSw
    go_simp
    all_goals with_reducible rfl
   try simp only [Act.put, List.setIfInBounds_toArray, List.set_cons_zero, List.set_cons_succ]
   refine K_take 42 89 (v := ?_) rfl rfl (by kernel_rfl) (by kernel_rfl) (by kernel_rfl) (fun _ _ _ h => h) ?_ ?_ (by assumption) ?_
   rotate_left
   ·with_unfolding_all rfl
   ·intro wz hSw
    try dsimp only at hSw
    go_simp
    all_goals with_reducible rfl
   try simp only [Act.put, List.setIfInBounds_toArray, List.set_cons_zero, List.set_cons_succ]
   refine K_take 43 90 (v := ?_) rfl rfl (by kernel_rfl) (by kernel_rfl) (by kernel_rfl) (fun _ _ _ h => h) ?_ ?_ (by assumption) ?_
   rotate_left
   ·with_unfolding_all rfl
   ·intro wz hSw
    try dsimp only at hSw
    go_simp
    all_goals with_reducible rfl
   try simp only [Act.put, List.setIfInBounds_toArray, List.set_cons_zero, List.set_cons_succ]
   refine K_take 44 91 (v := ?_) rfl rfl (by kernel_rfl) (by kernel_rfl) (by kernel_rfl) (fun _ _ _ h => h) ?_ ?_ (by assumption) ?_
   rotate_left
   ·with_unfolding_all rfl
   ·intro wz hSw
    try dsimp only at hSw
    go_simp
    all_goals with_reducible rfl
   try simp only [Act.put, List.setIfInBounds_toArray, List.set_cons_zero, List.set_cons_succ]
   refine K_take 45 92 (v := ?_) rfl rfl (by kernel_rfl) (by kernel_rfl) (by kernel_rfl) (fun _ _ _ h => h) ?_ ?_ (by assumption) ?_
   rotate_left
   ·with_unfolding_all rfl
   ·intro wz hSw
    try dsimp only at hSw
    go_simp
    all_goals with_reducible rfl
   try simp only [Act.put, List.setIfInBounds_toArray, List.set_cons_zero, List.set_cons_succ]
   refine K_take 46 93 (v := ?_) rfl rfl (by kernel_rfl) (by kernel_rfl) (by kernel_rfl) (fun _ _ _ h => h) ?_ ?_ (by assumption) ?_
   rotate_left
   ·with_unfolding_all rfl
   ·intro wz hSw
    try dsimp only at hSw
    go_simp
    all_goals with_reducible rfl
   try simp only [Act.put, List.setIfInBounds_toArray, List.set_cons_zero, List.set_cons_succ]
   refine wpAnyH_ready (rs := [47]) (by kernel_rfl) (by simp) ?_
   refine AllReadyH.cons rfl (fun K hK => ?_) AllReadyH.nil
   go_simp
   go_wp2_with fail
   refine (HC5.out _ HV4.out).mono ?_
   rintro en V5 ⟨rfl, hb⟩
   have HV5 := Lib.hid (HV4.out.trans (hb.mono HV4.out.size))
   clear hb
   refine hK.out _ _ ?_ (fun hHeld => ?_)
   ·first | exact HK.out _ HV5.out | exact HK.out _ HV4.out | exact HK.out _ HV2.out | exact HK.out _ HV1.out | exact HK.out _ HBQ.out
   clear hK K
   refine K_take 48 95 (v := ?_) rfl rfl (by kernel_rfl) (by kernel_rfl) (by kernel_rfl) (fun _ _ _ h => h) ?_ ?_ (by assumption) ?_
   rotate_left
   ·with_unfolding_all rfl
   ·intro wz hSw
    try dsimp only at hSw
    go_simp
    all_goals with_reducible rfl
   try simp only [Act.put, List.setIfInBounds_toArray, List.set_cons_zero, List.set_cons_succ]
   refine K_take 49 96 (v := ?_) rfl rfl (by kernel_rfl) (by kernel_rfl) (by kernel_rfl) (fun _ _ _ h => h) ?_ ?_ (by assumption) ?_
   rotate_left
   ·with_unfolding_all rfl
   ·intro wz hSw
    try dsimp only at hSw
    go_simp
    all_goals with_reducible rfl
   try simp only [Act.put, List.setIfInBounds_toArray, List.set_cons_zero, List.set_cons_succ]
   refine K_take 50 6 (v := ?_) rfl rfl (by kernel_rfl) (by kernel_rfl) (by kernel_rfl) (fun _ _ _ h => h) ?_ ?_ (by assumption) ?_
   rotate_left
   ·with_unfolding_all rfl
   ·intro wz hSw
    try dsimp only at hSw
    go_simp
    all_goals with_reducible rfl
   try simp only [Act.put, List.setIfInBounds_toArray, List.set_cons_zero, List.set_cons_succ]
   refine wpAnyH_done (by kernel_rfl) ?_ _
   have HE := Lib.hid (HRES.out _ HV5.out)
   go_wp2_with fail
   go_ret
   exact HE.out
  | true =>
   refine wp_region_held_drew (S := (fun w' => w'.cell? ⟨w.heap.size, 0, none⟩ = some (.int .i64 x.kind) ∧ w'.cell? ⟨w.heap.size, 1, none⟩ = some (.slice sA sn sc) ∧ w'.cell? ⟨w.heap.size, 2, none⟩ = some (.slice gA gn gc) ∧ w'.cell? ⟨w.heap.size, 3, none⟩ = some (.slice A n c))) (by kernel_rfl) ?_ (fun hHeld => ?_)
   ·exact HK.out _ HBQ.out
   refine K_take 0 47 (v := ?_) rfl rfl (by kernel_rfl) (by kernel_rfl) (by kernel_rfl) (fun _ _ _ h => h) ?_ ?_ (by assumption) ?_
   rotate_left
   ·with_unfolding_all rfl
   ·intro wz hSw
    try dsimp only at hSw
    go_simp
    all_goals with_reducible rfl
   try simp only [Act.put, List.setIfInBounds_toArray, List.set_cons_zero, List.set_cons_succ]
   refine K_take 1 48 (v := ?_) rfl rfl (by kernel_rfl) (by kernel_rfl) (by kernel_rfl) (fun _ _ _ h => h) ?_ ?_ (by assumption) ?_
   rotate_left
   ·with_unfolding_all rfl
   ·intro wz hSw
    try dsimp only at hSw
    go_simp
    all_goals with_reducible rfl
   try simp only [Act.put, List.setIfInBounds_toArray, List.set_cons_zero, List.set_cons_succ]
   refine K_take 2 49 (v := ?_) rfl rfl (by kernel_rfl) (by kernel_rfl) (by kernel_rfl) (fun _ _ _ h => h) ?_ ?_ (by assumption) ?_
   rotate_left
   ·with_unfolding_all rfl
   ·intro wz hSw
    try dsimp only at hSw
    go_simp
    all_goals with_reducible rfl
   try simp only [Act.put, List.setIfInBounds_toArray, List.set_cons_zero, List.set_cons_succ]
   refine K_take 3 50 (v := ?_) rfl rfl (by kernel_rfl) (by kernel_rfl) (by kernel_rfl) (fun _ _ _ h => h) ?_ ?_ (by assumption) ?_
   rotate_left
   ·with_unfolding_all rfl
   ·intro wz hSw
    try dsimp only at hSw
    go_simp
    all_goals with_reducible rfl
   try simp only [Act.put, List.setIfInBounds_toArray, List.set_cons_zero, List.set_cons_succ]
   refine K_take 4 51 (v := ?_) rfl rfl (by kernel_rfl) (by kernel_rfl) (by kernel_rfl) (fun _ _ _ h => h) ?_ ?_ (by assumption) ?_
   rotate_left
   ·with_unfolding_all rfl
   ·intro wz hSw
    try dsimp only at hSw
    go_simp
    all_goals with_reducible rfl
   try simp only [Act.put, List.setIfInBounds_toArray, List.set_cons_zero, List.set_cons_succ]
   refine K_take 5 52 (v := ?_) rfl rfl (by kernel_rfl) (by kernel_rfl) (by kernel_rfl) (fun _ _ _ h => h) ?_ ?_ (by assumption) ?_
   rotate_left
   ·with_unfolding_all rfl
   ·intro wz hSw
    try dsimp only at hSw
    go_simp
    all_goals with_reducible rfl
   try simp only [Act.put, List.setIfInBounds_toArray, List.set_cons_zero, List.set_cons_succ]
   refine K_take 6 53 (v := ?_) rfl rfl (by kernel_rfl) (by kernel_rfl) (by kernel_rfl) (fun _ _ _ h => h) ?_ ?_ (by assumption) ?_
   rotate_left
   ·with_unfolding_all rfl
   ·intro wz hSw
    try dsimp only at hSw
    go_simp
    all_goals with_reducible rfl
   try simp only [Act.put, List.setIfInBounds_toArray, List.set_cons_zero, List.set_cons_succ]
   refine K_take 7 54 (v := ?_) rfl rfl (by kernel_rfl) (by kernel_rfl) (by kernel_rfl) (fun _ _ _ h => h) ?_ ?_ (by assumption) ?_
   rotate_left
   ·with_unfolding_all rfl
   ·intro wz hSw
    try dsimp only at hSw
    go_simp
    all_goals with_reducible rfl
   try simp only [Act.put, List.setIfInBounds_toArray, List.set_cons_zero, List.set_cons_succ]
   refine K_take 8 55 (v := ?_) rfl rfl (by kernel_rfl) (by kernel_rfl) (by kernel_rfl) (fun _ _ _ h => h) ?_ ?_ (by assumption) ?_
   rotate_left
   ·with_unfolding_all rfl
   ·intro wz hSw
    try dsimp only at hSw
    go_simp
    all_goals with_reducible rfl
   try simp only [Act.put, List.setIfInBounds_toArray, List.set_cons_zero, List.set_cons_succ]
   refine wpAnyH_ready (rs := [9]) (by kernel_rfl) (by simp) ?_
   refine AllReadyH.cons rfl (fun K hK => ?_) AllReadyH.nil
   go_simp
   go_wp2_with fail
   refine (HC1.out _ HBQ.out).mono ?_
   rintro en V1 ⟨rfl, hb⟩
   have HV1 := Lib.hid (HBQ.out.trans (hb.mono HBQ.out.size))
   clear hb
   refine hK.out _ _ ?_ (fun hHeld => ?_)
   ·first | exact HK.out _ HV5.out | exact HK.out _ HV4.out | exact HK.out _ HV2.out | exact HK.out _ HV1.out | exact HK.out _ HBQ.out
   clear hK K
   refine K_take 10 57 (v := ?_) rfl rfl (by kernel_rfl) (by kernel_rfl) (by kernel_rfl) (fun _ _ _ h => h) ?_ ?_ (by assumption) ?_
   rotate_left
   ·with_unfolding_all rfl
   ·intro wz hSw
    try dsimp only at hSw
    go_simp
    all_goals with_reducible rfl
   try simp only [Act.put, List.setIfInBounds_toArray, List.set_cons_zero, List.set_cons_succ]
   refine K_take 11 58 (v := ?_) rfl rfl (by kernel_rfl) (by kernel_rfl) (by kernel_rfl) (fun _ _ _ h => h) ?_ ?_ (by assumption) ?_
   rotate_left
   ·with_unfolding_all rfl
   ·intro wz hSw
    try dsimp only at hSw
    go_simp
    all_goals with_reducible rfl
   try simp only [Act.put, List.setIfInBounds_toArray, List.set_cons_zero, List.set_cons_succ]
   refine K_take 12 59 (v := ?_) rfl rfl (by kernel_rfl) (by kernel_rfl) (by kernel_rfl) (fun _ _ _ h => h) ?_ ?_ (by assumption) ?_
   rotate_left
   ·with_unfolding_all rfl
   ·intro wz hSw
    try dsimp only at hSw
    go_simp
    all_goals with_reducible rfl
   try simp only [Act.put, List.setIfInBounds_toArray, List.set_cons_zero, List.set_cons_succ]
   refine K_take 13 60 (v := ?_) rfl rfl (by kernel_rfl) (by kernel_rfl) (by kernel_rfl) (fun _ _ _ h => h) ?_ ?_ (by assumption) ?_
   rotate_left
   ·with_unfolding_all rfl
   ·intro wz hSw
    try dsimp only at hSw
    go_simp
    all_goals with_reducible rfl
   try simp only [Act.put, List.setIfInBounds_toArray, List.set_cons_zero, List.set_cons_succ]
   refine K_take 14 61 (v := ?_) rfl rfl (by kernel_rfl) (by kernel_rfl) (by kernel_rfl) (fun _ _ _ h => h) ?_ ?_ (by assumption) ?_
   rotate_left
   ·with_unfolding_all rfl
   ·intro wz hSw
    try dsimp only at hSw
    go_simp
    all_goals with_reducible rfl
   try simp only [Act.put, List.setIfInBounds_toArray, List.set_cons_zero, List.set_cons_succ]
   refine K_take 15 62 (v := ?_) rfl rfl (by kernel_rfl) (by kernel_rfl) (by kernel_rfl) (fun _ _ _ h => h) ?_ ?_ (by assumption) ?_
   rotate_left
   ·with_unfolding_all rfl
   ·intro wz hSw
    try dsimp only at hSw
    go_simp
    all_goals with_reducible rfl
   try simp only [Act.put, List.setIfInBounds_toArray, List.set_cons_zero, List.set_cons_succ]
   refine K_take 16 63 (v := ?_) rfl rfl (by kernel_rfl) (by kernel_rfl) (by kernel_rfl) (fun _ _ _ h => h) ?_ ?_ (by assumption) ?_
   rotate_left
   ·with_unfolding_all rfl
   ·intro wz hSw
    try dsimp only at hSw
    go_simp
    all_goals with_reducible rfl
   try simp only [Act.put, List.setIfInBounds_toArray, List.set_cons_zero, List.set_cons_succ]
   refine K_take 17 64 (v := ?_) rfl rfl (by kernel_rfl) (by kernel_rfl) (by kernel_rfl) (fun _ _ _ h => h) ?_ ?_ (by assumption) ?_
   rotate_left
   ·with_unfolding_all rfl
   ·intro wz hSw
    try dsimp only at hSw
    go_simp
    all_goals with_reducible rfl
   try simp only [Act.put, List.setIfInBounds_toArray, List.set_cons_zero, List.set_cons_succ]
   refine K_take 18 65 (v := ?_) rfl rfl (by kernel_rfl) (by kernel_rfl) (by kernel_rfl) (fun _ _ _ h => h) ?_ ?_ (by assumption) ?_
   rotate_left
   ·with_unfolding_all rfl
   ·intro wz hSw
    try dsimp only at hSw
    go_simp
    all_goals with_reducible rfl
   try simp only [Act.put, List.setIfInBounds_toArray, List.set_cons_zero, List.set_cons_succ]
   refine wpAnyH_ready (rs := [19]) (by kernel_rfl) (by simp) ?_
   refine AllReadyH.cons rfl (fun K hK => ?_) AllReadyH.nil
   go_simp
   go_wp2_with fail
   refine (HC2.out _ HV1.out).mono ?_
   rintro en V2 ⟨rfl, hb⟩
   have HV2 := Lib.hid (HV1.out.trans (hb.mono HV1.out.size))
   clear hb
   refine hK.out _ _ ?_ (fun hHeld => ?_)
   ·first | exact HK.out _ HV5.out | exact HK.out _ HV4.out | exact HK.out _ HV2.out | exact HK.out _ HV1.out | exact HK.out _ HBQ.out
   clear hK K
   refine K_take 20 67 (v := ?_) rfl rfl (by kernel_rfl) (by kernel_rfl) (by kernel_rfl) (fun _ _ _ h => h) ?_ ?_ (by assumption) ?_
   rotate_left
   ·with_unfolding_all rfl
   ·intro wz hSw
    try dsimp only at hSw
    go_simp
    all_goals with_reducible rfl
   try simp only [Act.put, List.setIfInBounds_toArray, List.set_cons_zero, List.set_cons_succ]
   refine K_take 21 68 (v := ?_) rfl rfl (by kernel_rfl) (by kernel_rfl) (by kernel_rfl) (fun _ _ _ h => h) ?_ ?_ (by assumption) ?_
   rotate_left
   ·with_unfolding_all rfl
   ·intro wz hSw
    try dsimp only at hSw
    go_simp
    all_goals with_reducible rfl
   try simp only [Act.put, List.setIfInBounds_toArray, List.set_cons_zero, List.set_cons_succ]
   refine K_take 22 69 (v := ?_) rfl rfl (by kernel_rfl) (by kernel_rfl) (by kernel_rfl) (fun _ _ _ h => h) ?_ ?_ (by assumption) ?_
   rotate_left
   ·with_unfolding_all rfl
   ·intro wz hSw
    try dsimp only at hSw
    go_simp
    all_goals with_reducible rfl
   try simp only [Act.put, List.setIfInBounds_toArray, List.set_cons_zero, List.set_cons_succ]
   refine K_take 23 70 (v := ?_) rfl rfl (by kernel_rfl) (by kernel_rfl) (by kernel_rfl) (fun _ _ _ h => h) ?_ ?_ (by assumption) ?_
   rotate_left
   ·with_unfolding_all rfl
   ·intro wz hSw
    try dsimp only at hSw
    go_simp
    all_goals with_reducible rfl
   try simp only [Act.put, List.setIfInBounds_toArray, List.set_cons_zero, List.set_cons_succ]
   refine K_take 24 71 (v := ?_) rfl rfl (by kernel_rfl) (by kernel_rfl) (by kernel_rfl) (fun _ _ _ h => h) ?_ ?_ (by assumption) ?_
   rotate_left
   ·with_unfolding_all rfl
   ·intro wz hSw
    try dsimp only at hSw
    go_simp
    all_goals with_reducible rfl
   try simp only [Act.put, List.setIfInBounds_toArray, List.set_cons_zero, List.set_cons_succ]
   refine K_take 25 72 (v := ?_) rfl rfl (by kernel_rfl) (by kernel_rfl) (by kernel_rfl) (fun _ _ _ h => h) ?_ ?_ (by assumption) ?_
   rotate_left
   ·with_unfolding_all rfl
   ·intro wz hSw
    try dsimp only at hSw
    go_simp
    all_goals with_reducible rfl
   try simp only [Act.put, List.setIfInBounds_toArray, List.set_cons_zero, List.set_cons_succ]
   refine K_take 26 73 (v := ?_) rfl rfl (by kernel_rfl) (by kernel_rfl) (by kernel_rfl) (fun _ _ _ h => h) ?_ ?_ (by assumption) ?_
   rotate_left
   ·with_unfolding_all rfl
   ·intro wz hSw
    try dsimp only at hSw
    go_simp
    all_goals with_reducible rfl
   try simp only [Act.put, List.setIfInBounds_toArray, List.set_cons_zero, List.set_cons_succ]
   refine K_pass 27 74 rfl rfl (by kernel_rfl) (by kernel_rfl) (by kernel_rfl) (fun _ _ _ h => h) (by with_unfolding_all rfl) (by assumption) ?_
   try simp only [Act.put, List.setIfInBounds_toArray, List.set_cons_zero, List.set_cons_succ]
   refine K_pass 28 75 rfl rfl (by kernel_rfl) (by kernel_rfl) (by kernel_rfl) (fun _ _ _ h => h) (by with_unfolding_all rfl) (by assumption) ?_
   try simp only [Act.put, List.setIfInBounds_toArray, List.set_cons_zero, List.set_cons_succ]
   refine K_pass 29 76 rfl rfl (by kernel_rfl) (by kernel_rfl) (by kernel_rfl) (fun _ _ _ h => h) (by with_unfolding_all rfl) (by assumption) ?_
   try simp only [Act.put, List.setIfInBounds_toArray, List.set_cons_zero, List.set_cons_succ]
   refine K_pass 30 77 rfl rfl (by kernel_rfl) (by kernel_rfl) (by kernel_rfl) (fun _ _ _ h => h) (by with_unfolding_all rfl) (by assumption) ?_
   try simp only [Act.put, List.setIfInBounds_toArray, List.set_cons_zero, List.set_cons_succ]
   refine K_take 31 78 (v := ?_) rfl rfl (by kernel_rfl) (by kernel_rfl) (by kernel_rfl) (fun _ _ _ h => h) ?_ ?_ (by assumption) ?_
   rotate_left
   ·with_unfolding_all rfl
   ·intro wz hSw
    try dsimp only at hSw
    go_simp
    all_goals with_reducible rfl
   try simp only [Act.put, List.setIfInBounds_toArray, List.set_cons_zero, List.set_cons_succ]
   refine K_take 32 79 (v := ?_) rfl rfl (by kernel_rfl) (by kernel_rfl) (by kernel_rfl) (fun _ _ _ h => h) ?_ ?_ (by assumption) ?_
   rotate_left
   ·with_unfolding_all rfl
   ·intro wz hSw
    try dsimp only at hSw
    go_simp
    all_goals with_reducible rfl
   try simp only [Act.put, List.setIfInBounds_toArray, List.set_cons_zero, List.set_cons_succ]
   refine K_take 33 80 (v := ?_) rfl rfl (by kernel_rfl) (by kernel_rfl) (by kernel_rfl) (fun _ _ _ h => h) ?_ ?_ (by assumption) ?_
   rotate_left
   ·with_unfolding_all rfl
   ·intro wz hSw
    try dsimp only at hSw
    go_simp
    all_goals with_reducible rfl
   try simp only [Act.put, List.setIfInBounds_toArray, List.set_cons_zero, List.set_cons_succ]
   refine K_take 34 81 (v := ?_) rfl rfl (by kernel_rfl) (by kernel_rfl) (by kernel_rfl) (fun _ _ _ h => h) ?_ ?_ (by assumption) ?_
   rotate_left
   ·with_unfolding_all rfl
   ·intro wz hSw
    try dsimp only at hSw
    go_simp
    all_goals with_reducible rfl
   try simp only [Act.put, List.setIfInBounds_toArray, List.set_cons_zero, List.set_cons_succ]
   refine K_take 35 82 (v := ?_) rfl rfl (by kernel_rfl) (by kernel_rfl) (by kernel_rfl) (fun _ _ _ h => h) ?_ ?_ (by assumption) ?_
   rotate_left
   ·with_unfolding_all rfl
   ·intro wz hSw
    try dsimp only at hSw
    go_simp
    all_goals with_reducible rfl
   try simp only [Act.put, List.setIfInBounds_toArray, List.set_cons_zero, List.set_cons_succ]
   refine K_take 36 83 (v := ?_) rfl rfl (by kernel_rfl) (by kernel_rfl) (by kernel_rfl) (fun _ _ _ h => h) ?_ ?_ (by assumption) ?_
   rotate_left
   ·with_unfolding_all rfl
   ·intro wz hSw
    try dsimp only at hSw
    go_simp
    all_goals with_reducible rfl
   try simp only [Act.put, List.setIfInBounds_toArray, List.set_cons_zero, List.set_cons_succ]
   refine wpAnyH_ready (rs := [37]) (by kernel_rfl) (by simp) ?_
   refine AllReadyH.cons rfl (fun K hK => ?_) AllReadyH.nil
   go_simp
   go_wp2_with fail
   refine (HC4.out _ HV2.out).mono ?_
   rintro en V4 ⟨rfl, hb⟩
   have HV4 := Lib.hid (HV2.out.trans (hb.mono HV2.out.size))
   clear hb
   refine hK.out _ _ ?_ (fun hHeld => ?_)
   ·first | exact HK.out _ HV5.out | exact HK.out _ HV4.out | exact HK.out _ HV2.out | exact HK.out _ HV1.out | exact HK.out _ HBQ.out
   clear hK K
   refine K_take 38 85 (v := ?_) rfl rfl (by kernel_rfl) (by kernel_rfl) (by kernel_rfl) (fun _ _ _ h => h) ?_ ?_ (by assumption) ?_
   rotate_left
   ·with_unfolding_all rfl
   ·intro wz hSw
    try dsimp only at hSw
    go_simp
    all_goals with_reducible rfl
   try simp only [Act.put, List.setIfInBounds_toArray, List.set_cons_zero, List.set_cons_succ]
   refine K_take 39 86 (v := ?_) rfl rfl (by kernel_rfl) (by kernel_rfl) (by kernel_rfl) (fun _ _ _ h => h) ?_ ?_ (by assumption) ?_
   rotate_left
   ·with_unfolding_all rfl
   ·intro wz hSw
    try dsimp only at hSw
    go_simp
    all_goals with_reducible rfl
   try simp only [Act.put, List.setIfInBounds_toArray, List.set_cons_zero, List.set_cons_succ]
   refine K_take 40 87 (v := ?_) rfl rfl (by kernel_rfl) (by kernel_rfl) (by kernel_rfl) (fun _ _ _ h => h) ?_ ?_ (by assumption) ?_
   rotate_left
   ·with_unfolding_all rfl
   ·intro wz hSw
    try dsimp only at hSw
    go_simp
    all_goals with_reducible rfl
   try simp only [Act.put, List.setIfInBounds_toArray, List.set_cons_zero, List.set_cons_succ]
   refine K_take 41 88 (v := ?_) rfl rfl (by kernel_rfl) (by kernel_rfl) (by kernel_rfl) (fun _ _ _ h => h) ?_ ?_ (by assumption) ?_
   rotate_left
   ·with_unfolding_all rfl
   ·intro wz hSw
    try dsimp only at hSw
    go_simp
    all_goals with_reducible rfl
   try simp only [Act.put, List.setIfInBounds_toArray, List.set_cons_zero, List.set_cons_succ]
   refine K_take 42 89 (v := ?_) rfl rfl (by kernel_rfl) (by kernel_rfl) (by kernel_rfl) (fun _ _ _ h => h) ?_ ?_ (by assumption) ?_
   rotate_left
   ·with_unfolding_all rfl
   ·intro wz hSw
    try dsimp only at hSw
    go_simp
    all_goals with_reducible rfl
   try simp only [Act.put, List.setIfInBounds_toArray, List.set_cons_zero, List.set_cons_succ]
   refine K_take 43 90 (v := ?_) rfl rfl (by kernel_rfl) (by kernel_rfl) (by kernel_rfl) (fun _ _ _ h => h) ?_ ?_ (by assumption) ?_
   rotate_left
   ·with_unfolding_all rfl
   ·intro wz hSw
    try dsimp only at hSw
    go_simp
    all_goals with_reducible rfl
   try simp only [Act.put, List.setIfInBounds_toArray, List.set_cons_zero, List.set_cons_succ]
   refine K_take 44 91 (v := ?_) rfl rfl (by kernel_rfl) (by kernel_rfl) (by kernel_rfl) (fun _ _ _ h => h) ?_ ?_ (by assumption) ?_
   rotate_left
   ·with_unfolding_all rfl
   ·intro wz hSw
    try dsimp only at hSw
    go_simp
    all_goals with_reducible rfl
   try simp only [Act.put, List.setIfInBounds_toArray, List.set_cons_zero, List.set_cons_succ]
   refine K_take 45 92 (v := ?_) rfl rfl (by kernel_rfl) (by kernel_rfl) (by kernel_rfl) (fun _ _ _ h => h) ?_ ?_ (by assumption) ?_
   rotate_left
   ·with_unfolding_all rfl
   ·intro wz hSw
    try dsimp only at hSw
    go_simp
    all_goals with_reducible rfl
   try simp only [Act.put, List.setIfInBounds_toArray, List.set_cons_zero, List.set_cons_succ]
   refine K_take 46 93 (v := ?_) rfl rfl (by kernel_rfl) (by kernel_rfl) (by kernel_rfl) (fun _ _ _ h => h) ?_ ?_ (by assumption) ?_
   rotate_left
   ·with_unfolding_all rfl
   ·intro wz hSw
    try dsimp only at hSw
    go_simp
    all_goals with_reducible rfl
   try simp only [Act.put, List.setIfInBounds_toArray, List.set_cons_zero, List.set_cons_succ]
   refine wpAnyH_ready (rs := [47]) (by kernel_rfl) (by simp) ?_
   refine AllReadyH.cons rfl (fun K hK => ?_) AllReadyH.nil
   go_simp
   go_wp2_with fail
   refine (HC5.out _ HV4.out).mono ?_
   rintro en V5 ⟨rfl, hb⟩
   have HV5 := Lib.hid (HV4.out.trans (hb.mono HV4.out.size))
   clear hb
   refine hK.out _ _ ?_ (fun hHeld => ?_)
   ·first | exact HK.out _ HV5.out | exact HK.out _ HV4.out | exact HK.out _ HV2.out | exact HK.out _ HV1.out | exact HK.out _ HBQ.out
   clear hK K
   refine K_take 48 95 (v := ?_) rfl rfl (by kernel_rfl) (by kernel_rfl) (by kernel_rfl) (fun _ _ _ h => h) ?_ ?_ (by assumption) ?_
   rotate_left
   ·with_unfolding_all rfl
   ·intro wz hSw
    try dsimp only at hSw
    go_simp
    all_goals with_reducible rfl
   try simp only [Act.put, List.setIfInBounds_toArray, List.set_cons_zero, List.set_cons_succ]
   refine K_take 49 96 (v := ?_) rfl rfl (by kernel_rfl) (by kernel_rfl) (by kernel_rfl) (fun _ _ _ h => h) ?_ ?_ (by assumption) ?_
   rotate_left
   ·with_unfolding_all rfl
   ·intro wz hSw
    try dsimp only at hSw
    go_simp
    all_goals with_reducible rfl
   try simp only [Act.put, List.setIfInBounds_toArray, List.set_cons_zero, List.set_cons_succ]
   refine K_take 50 6 (v := ?_) rfl rfl (by kernel_rfl) (by kernel_rfl) (by kernel_rfl) (fun _ _ _ h => h) ?_ ?_ (by assumption) ?_
   rotate_left
   ·with_unfolding_all rfl
   ·intro wz hSw
    try dsimp only at hSw
    go_simp
    all_goals with_reducible rfl
   try simp only [Act.put, List.setIfInBounds_toArray, List.set_cons_zero, List.set_cons_succ]
   refine wpAnyH_done (by kernel_rfl) ?_ _
   have HE := Lib.hid (HRES.out _ HV5.out)
   go_wp2_with fail
   go_ret
   exact HE.out
end Go.Proofs.Ytpllgfhocedgmaa
