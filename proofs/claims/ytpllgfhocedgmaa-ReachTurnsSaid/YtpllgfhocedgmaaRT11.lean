/- The fixed fact of layer 11's laws. ReachParts' walk. -/
import Derived.Test.YtpllgfhocedgmaaRT08
import Derived.Test.YtpllgfhocedgmaaRT10
import Derived.Test.YtpllgfhocedgmaaRT02
import Derived.BigQuiet
import Derived.Deep.RegionHeldLaw
set_option maxRecDepth 100000
namespace Go.Proofs.Ytpllgfhocedgmaa
open Go.RowKit

def TrueP (w : World) (en : Ending) (w' : World) : Prop := en = .returned (.bool true) ∧ Below w.heap.size w w'
def BoolP (r : Bool) (w : World) (en : Ending) (w' : World) : Prop := en = .returned (.bool r) ∧ Below w.heap.size w w'
theorem BoP.yes {P : Prop} {w : World} {en : Ending} {w' : World} (h : BoP P w en w') (hp : P) : BoolP true w en w' := by
 obtain ⟨r, rfl, h1, h2⟩ := h
 exact ⟨by rw [h1.2 hp], h2⟩
theorem BoP.not {P : Prop} {w : World} {en : Ending} {w' : World} (h : BoP P w en w') (hp : ¬ P) : BoolP false w en w' := by
 obtain ⟨r, rfl, h1, h2⟩ := h
 cases r with
 | false => exact ⟨rfl, h2⟩
 | true => exact absurd (h1.1 rfl) hp
theorem p12_endF {pl : List Int} (h : EndF l5 p12 0 pl) : pl = [0, 2, 4] := by
 refine pw_ext h.ord (by simp) fun z => (h.mem z).trans ⟨?_, ?_⟩
 ·rintro ⟨a, b, e1, rfl, _, _, hm⟩
  obtain rfl : a = 0 := by omega
  have := (p12_ends (.inl rfl)).1 hm
  simp
  omega
 ·intro hz
  have hz : z = 0 ∨ z = 2 ∨ z = 4 := by simpa using hz
  obtain ⟨b, rfl⟩ := Int.eq_ofNat_of_zero_le (show 0 ≤ z by omega)
  exact ⟨0, b, rfl, rfl, Nat.zero_le _, by show b ≤ 5; omega, (p12_ends (.inl rfl)).2 ⟨by omega, by omega⟩⟩
theorem p12_begF {pl : List Int} (h : BegF l5 p12 4 pl) : pl = [0, 2, 4] := by
 refine pw_ext h.ord (by simp) fun z => (h.mem z).trans ⟨?_, ?_⟩
 ·rintro ⟨a, b, e1, rfl, _, hm⟩
  obtain rfl : a = 4 := by omega
  have := p12_begs.1 hm
  simp
  omega
 ·intro hz
  have hz : z = 0 ∨ z = 2 ∨ z = 4 := by simpa using hz
  obtain ⟨b, rfl⟩ := Int.eq_ofNat_of_zero_le (show 0 ≤ z by omega)
  exact ⟨4, b, rfl, rfl, by show 4 ≤ 5; omega, p12_begs.2 (by omega)⟩
theorem p12_size : p12.size ≤ 10000 ∧ p12.wt ≤ 90000 ∧ p12.turn.size ≤ 10000 := by
 rw [p12_turn]
 decide +kernel
set_option maxHeartbeats 4000000 in
theorem alive11_any {w : World} : Calls Try.prog 9 #[] w (TrueP w) := by
 have hp9 := p12_size
 go_enter Try.func9, Try.ntmps9
 go_wp2_with fail
 refine (one_form (w := w) 1).mono ?_
 rintro en w1 ⟨g1, rfl, hp1, hb1⟩
 have HP1 := Lib.hid hp1
 have HB1 := Lib.hid hb1
 clear hp1 hb1
 go_wp2_with fail
 refine (one_form (w := w1) 2).mono ?_
 rintro en w2 ⟨g2, rfl, hp2, hb2⟩
 have hs1 := HB1.out.size
 have hs2 := hb2.size
 have z1 : (w2.alloc (.cells #[.int .i64 2, .slice none 0 0, .slice (some ⟨g1, 0, none⟩) 1 1, .slice none 0 0, .int .i64 2, .slice none 0 0, .slice (some ⟨g2, 0, none⟩) 1 1, .slice none 0 0] 26)).heap.size = w2.heap.size + 1 := by simp
 have z2 : ((w2.alloc (.cells #[.int .i64 2, .slice none 0 0, .slice (some ⟨g1, 0, none⟩) 1 1, .slice none 0 0, .int .i64 2, .slice none 0 0, .slice (some ⟨g2, 0, none⟩) 1 1, .slice none 0 0] 26)).alloc (.cells #[.int .i64 3, .slice none 0 0, .slice none 0 0, .slice (some ⟨w2.heap.size, 0, none⟩) 2 2] 26)).heap.size = w2.heap.size + 2 := by simp
 have z3 : (((w2.alloc (.cells #[.int .i64 2, .slice none 0 0, .slice (some ⟨g1, 0, none⟩) 1 1, .slice none 0 0, .int .i64 2, .slice none 0 0, .slice (some ⟨g2, 0, none⟩) 1 1, .slice none 0 0] 26)).alloc (.cells #[.int .i64 3, .slice none 0 0, .slice none 0 0, .slice (some ⟨w2.heap.size, 0, none⟩) 2 2] 26)).alloc (.cells #[.int .i64 5, .slice none 0 0, .slice none 0 0, .slice (some ⟨w2.heap.size + 1, 0, none⟩) 1 1] 26)).heap.size = w2.heap.size + 3 := by simp
 have z4 : ((((w2.alloc (.cells #[.int .i64 2, .slice none 0 0, .slice (some ⟨g1, 0, none⟩) 1 1, .slice none 0 0, .int .i64 2, .slice none 0 0, .slice (some ⟨g2, 0, none⟩) 1 1, .slice none 0 0] 26)).alloc (.cells #[.int .i64 3, .slice none 0 0, .slice none 0 0, .slice (some ⟨w2.heap.size, 0, none⟩) 2 2] 26)).alloc (.cells #[.int .i64 5, .slice none 0 0, .slice none 0 0, .slice (some ⟨w2.heap.size + 1, 0, none⟩) 1 1] 26)).alloc (.cells #[.int .i64 1, .int .i64 2, .int .i64 1, .int .i64 2, .int .i64 1] 3)).heap.size = w2.heap.size + 4 := by simp
 have b1 : Below w2.heap.size w2 (w2.alloc (.cells #[.int .i64 2, .slice none 0 0, .slice (some ⟨g1, 0, none⟩) 1 1, .slice none 0 0, .int .i64 2, .slice none 0 0, .slice (some ⟨g2, 0, none⟩) 1 1, .slice none 0 0] 26)) := kbelow_push _ _
 have b2 : Below w2.heap.size w2 ((w2.alloc (.cells #[.int .i64 2, .slice none 0 0, .slice (some ⟨g1, 0, none⟩) 1 1, .slice none 0 0, .int .i64 2, .slice none 0 0, .slice (some ⟨g2, 0, none⟩) 1 1, .slice none 0 0] 26)).alloc (.cells #[.int .i64 3, .slice none 0 0, .slice none 0 0, .slice (some ⟨w2.heap.size, 0, none⟩) 2 2] 26)) := b1.trans ((kbelow_push _ _).mono (by omega))
 have b3 : Below w2.heap.size w2 (((w2.alloc (.cells #[.int .i64 2, .slice none 0 0, .slice (some ⟨g1, 0, none⟩) 1 1, .slice none 0 0, .int .i64 2, .slice none 0 0, .slice (some ⟨g2, 0, none⟩) 1 1, .slice none 0 0] 26)).alloc (.cells #[.int .i64 3, .slice none 0 0, .slice none 0 0, .slice (some ⟨w2.heap.size, 0, none⟩) 2 2] 26)).alloc (.cells #[.int .i64 5, .slice none 0 0, .slice none 0 0, .slice (some ⟨w2.heap.size + 1, 0, none⟩) 1 1] 26)) := b2.trans ((kbelow_push _ _).mono (by omega))
 have b4 : Below w2.heap.size w2 ((((w2.alloc (.cells #[.int .i64 2, .slice none 0 0, .slice (some ⟨g1, 0, none⟩) 1 1, .slice none 0 0, .int .i64 2, .slice none 0 0, .slice (some ⟨g2, 0, none⟩) 1 1, .slice none 0 0] 26)).alloc (.cells #[.int .i64 3, .slice none 0 0, .slice none 0 0, .slice (some ⟨w2.heap.size, 0, none⟩) 2 2] 26)).alloc (.cells #[.int .i64 5, .slice none 0 0, .slice none 0 0, .slice (some ⟨w2.heap.size + 1, 0, none⟩) 1 1] 26)).alloc (.cells #[.int .i64 1, .int .i64 2, .int .i64 1, .int .i64 2, .int .i64 1] 3)) := b3.trans ((kbelow_push _ _).mono (by omega))
 have r8 : ((((w2.alloc (.cells #[.int .i64 2, .slice none 0 0, .slice (some ⟨g1, 0, none⟩) 1 1, .slice none 0 0, .int .i64 2, .slice none 0 0, .slice (some ⟨g2, 0, none⟩) 1 1, .slice none 0 0] 26)).alloc (.cells #[.int .i64 3, .slice none 0 0, .slice none 0 0, .slice (some ⟨w2.heap.size, 0, none⟩) 2 2] 26)).alloc (.cells #[.int .i64 5, .slice none 0 0, .slice none 0 0, .slice (some ⟨w2.heap.size + 1, 0, none⟩) 1 1] 26)).alloc (.cells #[.int .i64 1, .int .i64 2, .int .i64 1, .int .i64 2, .int .i64 1] 3)).heap[w2.heap.size]? = some (.cells #[.int .i64 2, .slice none 0 0, .slice (some ⟨g1, 0, none⟩) 1 1, .slice none 0 0, .int .i64 2, .slice none 0 0, .slice (some ⟨g2, 0, none⟩) 1 1, .slice none 0 0] 26 (0, 0)) := ((kbelow_push _ _).block _ (by rw [z3]; omega)).trans (((kbelow_push _ _).block _ (by rw [z2]; omega)).trans (((kbelow_push _ _).block _ (by rw [z1]; omega)).trans (heap_alloc_new w2 _)))
 have r4 : ((((w2.alloc (.cells #[.int .i64 2, .slice none 0 0, .slice (some ⟨g1, 0, none⟩) 1 1, .slice none 0 0, .int .i64 2, .slice none 0 0, .slice (some ⟨g2, 0, none⟩) 1 1, .slice none 0 0] 26)).alloc (.cells #[.int .i64 3, .slice none 0 0, .slice none 0 0, .slice (some ⟨w2.heap.size, 0, none⟩) 2 2] 26)).alloc (.cells #[.int .i64 5, .slice none 0 0, .slice none 0 0, .slice (some ⟨w2.heap.size + 1, 0, none⟩) 1 1] 26)).alloc (.cells #[.int .i64 1, .int .i64 2, .int .i64 1, .int .i64 2, .int .i64 1] 3)).heap[w2.heap.size + 1]? = some (.cells #[.int .i64 3, .slice none 0 0, .slice none 0 0, .slice (some ⟨w2.heap.size, 0, none⟩) 2 2] 26 (0, 0)) := by
  have h := heap_alloc_new (w2.alloc (.cells #[.int .i64 2, .slice none 0 0, .slice (some ⟨g1, 0, none⟩) 1 1, .slice none 0 0, .int .i64 2, .slice none 0 0, .slice (some ⟨g2, 0, none⟩) 1 1, .slice none 0 0] 26)) (.cells #[.int .i64 3, .slice none 0 0, .slice none 0 0, .slice (some ⟨w2.heap.size, 0, none⟩) 2 2] 26)
  rw [z1] at h
  exact ((kbelow_push _ _).block _ (by rw [z3]; omega)).trans (((kbelow_push _ _).block _ (by rw [z2]; omega)).trans h)
 have rp : ((((w2.alloc (.cells #[.int .i64 2, .slice none 0 0, .slice (some ⟨g1, 0, none⟩) 1 1, .slice none 0 0, .int .i64 2, .slice none 0 0, .slice (some ⟨g2, 0, none⟩) 1 1, .slice none 0 0] 26)).alloc (.cells #[.int .i64 3, .slice none 0 0, .slice none 0 0, .slice (some ⟨w2.heap.size, 0, none⟩) 2 2] 26)).alloc (.cells #[.int .i64 5, .slice none 0 0, .slice none 0 0, .slice (some ⟨w2.heap.size + 1, 0, none⟩) 1 1] 26)).alloc (.cells #[.int .i64 1, .int .i64 2, .int .i64 1, .int .i64 2, .int .i64 1] 3)).heap[w2.heap.size + 1 + 1]? = some (.cells #[.int .i64 5, .slice none 0 0, .slice none 0 0, .slice (some ⟨w2.heap.size + 1, 0, none⟩) 1 1] 26 (0, 0)) := by
  have h := heap_alloc_new ((w2.alloc (.cells #[.int .i64 2, .slice none 0 0, .slice (some ⟨g1, 0, none⟩) 1 1, .slice none 0 0, .int .i64 2, .slice none 0 0, .slice (some ⟨g2, 0, none⟩) 1 1, .slice none 0 0] 26)).alloc (.cells #[.int .i64 3, .slice none 0 0, .slice none 0 0, .slice (some ⟨w2.heap.size, 0, none⟩) 2 2] 26)) (.cells #[.int .i64 5, .slice none 0 0, .slice none 0 0, .slice (some ⟨w2.heap.size + 1, 0, none⟩) 1 1] 26)
  rw [z2] at h
  exact ((kbelow_push _ _).block _ (by rw [z3]; omega)).trans h
 have ri : ((((w2.alloc (.cells #[.int .i64 2, .slice none 0 0, .slice (some ⟨g1, 0, none⟩) 1 1, .slice none 0 0, .int .i64 2, .slice none 0 0, .slice (some ⟨g2, 0, none⟩) 1 1, .slice none 0 0] 26)).alloc (.cells #[.int .i64 3, .slice none 0 0, .slice none 0 0, .slice (some ⟨w2.heap.size, 0, none⟩) 2 2] 26)).alloc (.cells #[.int .i64 5, .slice none 0 0, .slice none 0 0, .slice (some ⟨w2.heap.size + 1, 0, none⟩) 1 1] 26)).alloc (.cells #[.int .i64 1, .int .i64 2, .int .i64 1, .int .i64 2, .int .i64 1] 3)).heap[w2.heap.size + 1 + 1 + 1]? = some (.cells #[.int .i64 1, .int .i64 2, .int .i64 1, .int .i64 2, .int .i64 1] 3 (0, 0)) := by
  have h := heap_alloc_new (((w2.alloc (.cells #[.int .i64 2, .slice none 0 0, .slice (some ⟨g1, 0, none⟩) 1 1, .slice none 0 0, .int .i64 2, .slice none 0 0, .slice (some ⟨g2, 0, none⟩) 1 1, .slice none 0 0] 26)).alloc (.cells #[.int .i64 3, .slice none 0 0, .slice none 0 0, .slice (some ⟨w2.heap.size, 0, none⟩) 2 2] 26)).alloc (.cells #[.int .i64 5, .slice none 0 0, .slice none 0 0, .slice (some ⟨w2.heap.size + 1, 0, none⟩) 1 1] 26)) (.cells #[.int .i64 1, .int .i64 2, .int .i64 1, .int .i64 2, .int .i64 1] 3)
  rw [z3] at h
  exact h
 have HX : Hid (PtIn ((((w2.alloc (.cells #[.int .i64 2, .slice none 0 0, .slice (some ⟨g1, 0, none⟩) 1 1, .slice none 0 0, .int .i64 2, .slice none 0 0, .slice (some ⟨g2, 0, none⟩) 1 1, .slice none 0 0] 26)).alloc (.cells #[.int .i64 3, .slice none 0 0, .slice none 0 0, .slice (some ⟨w2.heap.size, 0, none⟩) 2 2] 26)).alloc (.cells #[.int .i64 5, .slice none 0 0, .slice none 0 0, .slice (some ⟨w2.heap.size + 1, 0, none⟩) 1 1] 26)).alloc (.cells #[.int .i64 1, .int .i64 2, .int .i64 1, .int .i64 2, .int .i64 1] 3)) (Ub ((((w2.alloc (.cells #[.int .i64 2, .slice none 0 0, .slice (some ⟨g1, 0, none⟩) 1 1, .slice none 0 0, .int .i64 2, .slice none 0 0, .slice (some ⟨g2, 0, none⟩) 1 1, .slice none 0 0] 26)).alloc (.cells #[.int .i64 3, .slice none 0 0, .slice none 0 0, .slice (some ⟨w2.heap.size, 0, none⟩) 2 2] 26)).alloc (.cells #[.int .i64 5, .slice none 0 0, .slice none 0 0, .slice (some ⟨w2.heap.size + 1, 0, none⟩) 1 1] 26)).alloc (.cells #[.int .i64 1, .int .i64 2, .int .i64 1, .int .i64 2, .int .i64 1] 3)) w.heap.size) none 0 0 none 0 0 (some ⟨w2.heap.size + 1, 0, none⟩) 1 1 p12) := by
  have hq1 := HP1.out.keep (w' := ((((w2.alloc (.cells #[.int .i64 2, .slice none 0 0, .slice (some ⟨g1, 0, none⟩) 1 1, .slice none 0 0, .int .i64 2, .slice none 0 0, .slice (some ⟨g2, 0, none⟩) 1 1, .slice none 0 0] 26)).alloc (.cells #[.int .i64 3, .slice none 0 0, .slice none 0 0, .slice (some ⟨w2.heap.size, 0, none⟩) 2 2] 26)).alloc (.cells #[.int .i64 5, .slice none 0 0, .slice none 0 0, .slice (some ⟨w2.heap.size + 1, 0, none⟩) 1 1] 26)).alloc (.cells #[.int .i64 1, .int .i64 2, .int .i64 1, .int .i64 2, .int .i64 1] 3))) (S' := Ub ((((w2.alloc (.cells #[.int .i64 2, .slice none 0 0, .slice (some ⟨g1, 0, none⟩) 1 1, .slice none 0 0, .int .i64 2, .slice none 0 0, .slice (some ⟨g2, 0, none⟩) 1 1, .slice none 0 0] 26)).alloc (.cells #[.int .i64 3, .slice none 0 0, .slice none 0 0, .slice (some ⟨w2.heap.size, 0, none⟩) 2 2] 26)).alloc (.cells #[.int .i64 5, .slice none 0 0, .slice none 0 0, .slice (some ⟨w2.heap.size + 1, 0, none⟩) 1 1] 26)).alloc (.cells #[.int .i64 1, .int .i64 2, .int .i64 1, .int .i64 2, .int .i64 1] 3)) w.heap.size) (fun b hb => ⟨hb.1, hb.2.same ((b4.block b (Nat.lt_of_lt_of_le hb.2.lt hs2)).trans (hb2.block b hb.2.lt))⟩) (fun p hp => (b4.cell (p := p) (Nat.lt_of_lt_of_le hp.2.lt hs2)).trans (hb2.cell hp.2.lt))
  have hq2 := hp2.keep (w' := ((((w2.alloc (.cells #[.int .i64 2, .slice none 0 0, .slice (some ⟨g1, 0, none⟩) 1 1, .slice none 0 0, .int .i64 2, .slice none 0 0, .slice (some ⟨g2, 0, none⟩) 1 1, .slice none 0 0] 26)).alloc (.cells #[.int .i64 3, .slice none 0 0, .slice none 0 0, .slice (some ⟨w2.heap.size, 0, none⟩) 2 2] 26)).alloc (.cells #[.int .i64 5, .slice none 0 0, .slice none 0 0, .slice (some ⟨w2.heap.size + 1, 0, none⟩) 1 1] 26)).alloc (.cells #[.int .i64 1, .int .i64 2, .int .i64 1, .int .i64 2, .int .i64 1] 3))) (S' := Ub ((((w2.alloc (.cells #[.int .i64 2, .slice none 0 0, .slice (some ⟨g1, 0, none⟩) 1 1, .slice none 0 0, .int .i64 2, .slice none 0 0, .slice (some ⟨g2, 0, none⟩) 1 1, .slice none 0 0] 26)).alloc (.cells #[.int .i64 3, .slice none 0 0, .slice none 0 0, .slice (some ⟨w2.heap.size, 0, none⟩) 2 2] 26)).alloc (.cells #[.int .i64 5, .slice none 0 0, .slice none 0 0, .slice (some ⟨w2.heap.size + 1, 0, none⟩) 1 1] 26)).alloc (.cells #[.int .i64 1, .int .i64 2, .int .i64 1, .int .i64 2, .int .i64 1] 3)) w.heap.size) (fun b hb => ⟨Nat.le_trans hs1 hb.1, hb.2.same (b4.block b hb.2.lt)⟩) (fun p hp => b4.cell hp.2.lt)
  have hj : RdP ((((w2.alloc (.cells #[.int .i64 2, .slice none 0 0, .slice (some ⟨g1, 0, none⟩) 1 1, .slice none 0 0, .int .i64 2, .slice none 0 0, .slice (some ⟨g2, 0, none⟩) 1 1, .slice none 0 0] 26)).alloc (.cells #[.int .i64 3, .slice none 0 0, .slice none 0 0, .slice (some ⟨w2.heap.size, 0, none⟩) 2 2] 26)).alloc (.cells #[.int .i64 5, .slice none 0 0, .slice none 0 0, .slice (some ⟨w2.heap.size + 1, 0, none⟩) 1 1] 26)).alloc (.cells #[.int .i64 1, .int .i64 2, .int .i64 1, .int .i64 2, .int .i64 1] 3)) (Ub ((((w2.alloc (.cells #[.int .i64 2, .slice none 0 0, .slice (some ⟨g1, 0, none⟩) 1 1, .slice none 0 0, .int .i64 2, .slice none 0 0, .slice (some ⟨g2, 0, none⟩) 1 1, .slice none 0 0] 26)).alloc (.cells #[.int .i64 3, .slice none 0 0, .slice none 0 0, .slice (some ⟨w2.heap.size, 0, none⟩) 2 2] 26)).alloc (.cells #[.int .i64 5, .slice none 0 0, .slice none 0 0, .slice (some ⟨w2.heap.size + 1, 0, none⟩) 1 1] 26)).alloc (.cells #[.int .i64 1, .int .i64 2, .int .i64 1, .int .i64 2, .int .i64 1] 3)) w.heap.size) (some ⟨w2.heap.size, 0, none⟩) 2 2 [sg 1, sg 2] := rdP_2 r8 ⟨by omega, _, _, r8⟩ (PtAt.of hq1) (PtAt.of hq2)
  have hk : RdP ((((w2.alloc (.cells #[.int .i64 2, .slice none 0 0, .slice (some ⟨g1, 0, none⟩) 1 1, .slice none 0 0, .int .i64 2, .slice none 0 0, .slice (some ⟨g2, 0, none⟩) 1 1, .slice none 0 0] 26)).alloc (.cells #[.int .i64 3, .slice none 0 0, .slice none 0 0, .slice (some ⟨w2.heap.size, 0, none⟩) 2 2] 26)).alloc (.cells #[.int .i64 5, .slice none 0 0, .slice none 0 0, .slice (some ⟨w2.heap.size + 1, 0, none⟩) 1 1] 26)).alloc (.cells #[.int .i64 1, .int .i64 2, .int .i64 1, .int .i64 2, .int .i64 1] 3)) (Ub ((((w2.alloc (.cells #[.int .i64 2, .slice none 0 0, .slice (some ⟨g1, 0, none⟩) 1 1, .slice none 0 0, .int .i64 2, .slice none 0 0, .slice (some ⟨g2, 0, none⟩) 1 1, .slice none 0 0] 26)).alloc (.cells #[.int .i64 3, .slice none 0 0, .slice none 0 0, .slice (some ⟨w2.heap.size, 0, none⟩) 2 2] 26)).alloc (.cells #[.int .i64 5, .slice none 0 0, .slice none 0 0, .slice (some ⟨w2.heap.size + 1, 0, none⟩) 1 1] 26)).alloc (.cells #[.int .i64 1, .int .i64 2, .int .i64 1, .int .i64 2, .int .i64 1] 3)) w.heap.size) (some ⟨w2.heap.size + 1, 0, none⟩) 1 1 [jn [sg 1, sg 2]] := rdP_1 r4 ⟨by omega, _, _, r4⟩ (PtAt.of (x := jn [sg 1, sg 2]) ⟨RgAt.nil _ _, InAt.nil _ _, hj⟩)
  exact ⟨RgAt.nil _ _, InAt.nil _ _, hk⟩
 have HL : Hid (InAt ((((w2.alloc (.cells #[.int .i64 2, .slice none 0 0, .slice (some ⟨g1, 0, none⟩) 1 1, .slice none 0 0, .int .i64 2, .slice none 0 0, .slice (some ⟨g2, 0, none⟩) 1 1, .slice none 0 0] 26)).alloc (.cells #[.int .i64 3, .slice none 0 0, .slice none 0 0, .slice (some ⟨w2.heap.size, 0, none⟩) 2 2] 26)).alloc (.cells #[.int .i64 5, .slice none 0 0, .slice none 0 0, .slice (some ⟨w2.heap.size + 1, 0, none⟩) 1 1] 26)).alloc (.cells #[.int .i64 1, .int .i64 2, .int .i64 1, .int .i64 2, .int .i64 1] 3)) (Bl ((((w2.alloc (.cells #[.int .i64 2, .slice none 0 0, .slice (some ⟨g1, 0, none⟩) 1 1, .slice none 0 0, .int .i64 2, .slice none 0 0, .slice (some ⟨g2, 0, none⟩) 1 1, .slice none 0 0] 26)).alloc (.cells #[.int .i64 3, .slice none 0 0, .slice none 0 0, .slice (some ⟨w2.heap.size, 0, none⟩) 2 2] 26)).alloc (.cells #[.int .i64 5, .slice none 0 0, .slice none 0 0, .slice (some ⟨w2.heap.size + 1, 0, none⟩) 1 1] 26)).alloc (.cells #[.int .i64 1, .int .i64 2, .int .i64 1, .int .i64 2, .int .i64 1] 3))) (some ⟨w2.heap.size + 1 + 1 + 1, 0, none⟩) 5 5 l5) := inAt_lit l5 ri (by show _ < _; rw [z4]; omega) (by simp [l5, maxLen])
 have HRP := Lib.hid rp
 have HZ := Lib.hid z4
 have HBW : Hid (Below w.heap.size w ((((w2.alloc (.cells #[.int .i64 2, .slice none 0 0, .slice (some ⟨g1, 0, none⟩) 1 1, .slice none 0 0, .int .i64 2, .slice none 0 0, .slice (some ⟨g2, 0, none⟩) 1 1, .slice none 0 0] 26)).alloc (.cells #[.int .i64 3, .slice none 0 0, .slice none 0 0, .slice (some ⟨w2.heap.size, 0, none⟩) 2 2] 26)).alloc (.cells #[.int .i64 5, .slice none 0 0, .slice none 0 0, .slice (some ⟨w2.heap.size + 1, 0, none⟩) 1 1] 26)).alloc (.cells #[.int .i64 1, .int .i64 2, .int .i64 1, .int .i64 2, .int .i64 1] 3))) := (HB1.out.trans (hb2.mono hs1)).trans (b4.mono (Nat.le_trans hs1 hs2))
 clear hp2 hb2 z1 z2 z3 z4 b1 b2 b3 b4 r8 r4 rp ri HP1 HB1 hs1 hs2
 go_upto_region 3 with fail
 generalize hW4 : ((((w2.alloc (.cells #[.int .i64 2, .slice none 0 0, .slice (some ⟨g1, 0, none⟩) 1 1, .slice none 0 0, .int .i64 2, .slice none 0 0, .slice (some ⟨g2, 0, none⟩) 1 1, .slice none 0 0] 26)).alloc (.cells #[.int .i64 3, .slice none 0 0, .slice none 0 0, .slice (some ⟨w2.heap.size, 0, none⟩) 2 2] 26)).alloc (.cells #[.int .i64 5, .slice none 0 0, .slice none 0 0, .slice (some ⟨w2.heap.size + 1, 0, none⟩) 1 1] 26)).alloc (.cells #[.int .i64 1, .int .i64 2, .int .i64 1, .int .i64 2, .int .i64 1] 3)) = W at *
 clear hW4
 have HXB : Hid (PtIn W (Bl W) none 0 0 none 0 0 (some ⟨w2.heap.size + 1, 0, none⟩) 1 1 p12) := HX.out.keep (fun b hb => hb.2.lt) (fun _ _ => rfl)
 have HK : Hid (∀ V, Below W.heap.size W V → V.cell? ⟨w2.heap.size + 1 + 1, 0, none⟩ = some (.int .i64 5) ∧ V.cell? ⟨w2.heap.size + 1 + 1, 1, none⟩ = some (.slice none 0 0) ∧ V.cell? ⟨w2.heap.size + 1 + 1, 2, none⟩ = some (.slice none 0 0) ∧ V.cell? ⟨w2.heap.size + 1 + 1, 3, none⟩ = some (.slice (some ⟨w2.heap.size + 1, 0, none⟩) 1 1)) := fun V hb => hcells4 ((hb.block _ (by have := HZ.out; omega)).trans HRP.out)
 have HB4 : Hid (Below W.heap.size W W) := Below.refl _ _
 have HC5 : Hid (Calls Try.prog 13 #[.agg #[.int .i64 5, .slice none 0 0, .slice none 0 0, .slice (some ⟨w2.heap.size + 1, 0, none⟩) 1 1], .slice (some ⟨w2.heap.size + 1 + 1 + 1, 0, none⟩) 5 5, .int .i64 0] W (EndP l5 p12 0 W)) := ends_any (HL.out.on HB4.out) (by simp [l5]) (HXB.out.on HB4.out) hp9.1 0
 obtain ⟨c0, c1, c2, c3⟩ := HK.out _ HB4.out
 go_wp2_with fail
 refine HC5.out.mono ?_
 rintro en w5 ⟨A5, n5, d5, pl, rfl, hb, hi, hf⟩
 obtain rfl := p12_endF hf
 have HI5 := Lib.hid hi
 have HB5 := Lib.hid (HB4.out.trans (hb.mono HB4.out.size))
 clear hb hi hf c0 c1 c2 c3
 have HR5 := Lib.hid (heap_alloc_new w5 (.cells #[.int .i64 0, .int .i64 2, .int .i64 4] 3))
 have HJ5 : Hid (Below w5.heap.size w5 (w5.alloc (.cells #[.int .i64 0, .int .i64 2, .int .i64 4] 3))) := kbelow_push _ _
 have HC6 : Hid (Calls Try.prog 27 #[.slice A5 n5 d5, .slice (some ⟨w5.heap.size, 0, none⟩) 3 3] (w5.alloc (.cells #[.int .i64 0, .int .i64 2, .int .i64 4] 3)) (BoolP true (w5.alloc (.cells #[.int .i64 0, .int .i64 2, .int .i64 4] 3)))) := (pints_b (HI5.out.on HJ5.out) (inAt_lit (S := fun _ => True) [0, 2, 4] HR5.out trivial (by simp [maxLen]))).mono fun e w9 h => by obtain ⟨h1, h2⟩ := h; exact ⟨by rw [h1]; rfl, h2⟩
 have HBX5 := Lib.hid (HB5.out.trans (HJ5.out.mono HB5.out.size))
 go_wp2_with fail
 refine HC6.out.mono ?_
 rintro en w6 ⟨rfl, hb⟩
 have HB6 := Lib.hid (HBX5.out.trans (hb.mono HBX5.out.size))
 clear hb HC5 HC6 HBX5 HJ5 HR5 HI5
 have HC7 : Hid (Calls Try.prog 14 #[.agg #[.int .i64 5, .slice none 0 0, .slice none 0 0, .slice (some ⟨w2.heap.size + 1, 0, none⟩) 1 1], .slice (some ⟨w2.heap.size + 1 + 1 + 1, 0, none⟩) 5 5, .int .i64 4] w6 (BegP l5 p12 4 w6)) := begins_any (HL.out.on HB6.out) (by simp [l5]) (HXB.out.on HB6.out) hp9.1 4
 obtain ⟨c0, c1, c2, c3⟩ := HK.out _ HB6.out
 go_wp2_with fail
 refine HC7.out.mono ?_
 rintro en w7 ⟨A7, n7, d7, pl, rfl, hb, hi, hf⟩
 obtain rfl := p12_begF hf
 have HI7 := Lib.hid hi
 have HB7 := Lib.hid (HB6.out.trans (hb.mono HB6.out.size))
 clear hb hi hf c0 c1 c2 c3
 have HR7 := Lib.hid (heap_alloc_new w7 (.cells #[.int .i64 0, .int .i64 2, .int .i64 4] 3))
 have HJ7 : Hid (Below w7.heap.size w7 (w7.alloc (.cells #[.int .i64 0, .int .i64 2, .int .i64 4] 3))) := kbelow_push _ _
 have HC8 : Hid (Calls Try.prog 27 #[.slice A7 n7 d7, .slice (some ⟨w7.heap.size, 0, none⟩) 3 3] (w7.alloc (.cells #[.int .i64 0, .int .i64 2, .int .i64 4] 3)) (BoolP true (w7.alloc (.cells #[.int .i64 0, .int .i64 2, .int .i64 4] 3)))) := (pints_b (HI7.out.on HJ7.out) (inAt_lit (S := fun _ => True) [0, 2, 4] HR7.out trivial (by simp [maxLen]))).mono fun e w9 h => by obtain ⟨h1, h2⟩ := h; exact ⟨by rw [h1]; rfl, h2⟩
 have HBX7 := Lib.hid (HB7.out.trans (HJ7.out.mono HB7.out.size))
 go_wp2_with fail
 refine HC8.out.mono ?_
 rintro en w8 ⟨rfl, hb⟩
 have HB8 := Lib.hid (HBX7.out.trans (hb.mono HBX7.out.size))
 clear hb HC7 HC8 HBX7 HJ7 HR7 HI7
 have HC9 : Hid (Calls Try.prog 15 #[.agg #[.int .i64 5, .slice none 0 0, .slice none 0 0, .slice (some ⟨w2.heap.size + 1, 0, none⟩) 1 1], .slice (some ⟨w2.heap.size + 1 + 1 + 1, 0, none⟩) 5 5, .int .i64 2, .int .i64 4] w8 (BoolP true w8)) := (matches_any (HL.out.on HB8.out) (by simp [l5]) (HXB.out.on HB8.out) hp9.1 2 4).mono fun _ _ h => h.yes ⟨2, 4, rfl, rfl, by decide, by decide, (p12_ends (.inr (.inl rfl))).2 ⟨by decide, by decide⟩⟩
 obtain ⟨c0, c1, c2, c3⟩ := HK.out _ HB8.out
 go_wp2_with fail
 refine HC9.out.mono ?_
 rintro en w9 ⟨rfl, hb⟩
 have HB9 := Lib.hid (HB8.out.trans (hb.mono HB8.out.size))
 clear hb c0 c1 c2 c3 HC9
 have HC10 : Hid (Calls Try.prog 15 #[.agg #[.int .i64 5, .slice none 0 0, .slice none 0 0, .slice (some ⟨w2.heap.size + 1, 0, none⟩) 1 1], .slice (some ⟨w2.heap.size + 1 + 1 + 1, 0, none⟩) 5 5, .int .i64 0, .int .i64 1] w9 (BoolP false w9)) := (matches_any (HL.out.on HB9.out) (by simp [l5]) (HXB.out.on HB9.out) hp9.1 0 1).mono fun _ _ h => h.not (fun ⟨a, b, e1, e2, _, _, hm⟩ => by have h9 := ((p12_ends (a := a) (.inl (by omega))).1 hm).2; omega)
 obtain ⟨c0, c1, c2, c3⟩ := HK.out _ HB9.out
 go_wp2_with fail
 refine HC10.out.mono ?_
 rintro en w10 ⟨rfl, hb⟩
 have HB10 := Lib.hid (HB9.out.trans (hb.mono HB9.out.size))
 clear hb c0 c1 c2 c3 HC10
 have HC11 : Hid (Calls Try.prog 17 #[.agg #[.int .i64 5, .slice none 0 0, .slice none 0 0, .slice (some ⟨w2.heap.size + 1, 0, none⟩) 1 1]] w10 (BoolP true w10)) := (null_any (HXB.out.on HB10.out) hp9.1).mono fun _ _ h => h.yes (Sq.many_nil _)
 obtain ⟨c0, c1, c2, c3⟩ := HK.out _ HB10.out
 go_wp2_with fail
 refine HC11.out.mono ?_
 rintro en w11 ⟨rfl, hb⟩
 have HB11 := Lib.hid (HB10.out.trans (hb.mono HB10.out.size))
 clear hb c0 c1 c2 c3 HC11
 go_wp2_with fail
 refine (one_form (w := w11) 1).mono ?_
 rintro en w12 ⟨g3, rfl, hp, hb⟩
 have HP12 := Lib.hid hp
 have HB12 := Lib.hid (HB11.out.trans (hb.mono HB11.out.size))
 clear hp hb
 have HC13 : Hid (Calls Try.prog 17 #[.agg #[.int .i64 2, .slice none 0 0, .slice (some ⟨g3, 0, none⟩) 1 1, .slice none 0 0]] w12 (BoolP false w12)) := (null_any (x := sg 1) (HP12.out.keep (fun b hb => hb.2.lt) (fun _ _ => rfl)) (by decide +kernel)).mono fun _ _ h => h.not sg_not
 go_wp2_with fail
 refine HC13.out.mono ?_
 rintro en w13 ⟨rfl, hb⟩
 have HB13 := Lib.hid (HB12.out.trans (hb.mono HB12.out.size))
 clear hb HC13
 have HC14 : Hid (Calls Try.prog 11 #[.agg #[.int .i64 5, .slice none 0 0, .slice none 0 0, .slice (some ⟨w2.heap.size + 1, 0, none⟩) 1 1]] w13 (TrnP p12 w13)) := turn_any (HXB.out.on HB13.out) ((TrnP.kid HX.out).on HB13.out) hp9.2.1
 obtain ⟨c0, c1, c2, c3⟩ := HK.out _ HB13.out
 go_wp2_with fail
 refine HC14.out.mono ?_
 rintro en w14 ⟨tA1, tn1, tc1, tA2, tn2, tc2, tA, tn, tc, rfl, hp, hb⟩
 have HP14 := Lib.hid hp
 have HB14 := Lib.hid (HB13.out.trans (hb.mono HB13.out.size))
 clear hp hb c0 c1 c2 c3
 have HR14 := Lib.hid (heap_alloc_new w14 (.cells #[.int .i64 2, .int .i64 1] 3))
 have HJ14 : Hid (Below w14.heap.size w14 (w14.alloc (.cells #[.int .i64 2, .int .i64 1] 3))) := kbelow_push _ _
 have hlt14 : w14.heap.size < (w14.alloc (.cells #[.int .i64 2, .int .i64 1] 3)).heap.size := by simp
 have HC15 : Hid (Calls Try.prog 15 #[.agg #[.int .i64 5, .slice tA1 tn1 tc1, .slice tA2 tn2 tc2, .slice tA tn tc], .slice (some ⟨w14.heap.size, 0, none⟩) 2 2, .int .i64 0, .int .i64 2] (w14.alloc (.cells #[.int .i64 2, .int .i64 1] 3)) (BoolP true (w14.alloc (.cells #[.int .i64 2, .int .i64 1] 3)))) := by
  have hm := matches_any (x := p12.turn) (inAt_lit (S := Bl (w14.alloc (.cells #[.int .i64 2, .int .i64 1] 3))) [2, 1] HR14.out hlt14 (by simp [maxLen])) (by simp) ((HP14.out.keep (S' := Bl w14) (fun b hb => hb.2.lt) (fun _ _ => rfl)).on HJ14.out) hp9.2.2 0 2
  rw [show p12.turn.kind = 5 from rfl] at hm
  exact hm.mono fun _ _ h => h.yes ⟨0, 2, rfl, rfl, by decide, by decide, p21_mt⟩
 have HBX14 := Lib.hid (HB14.out.trans (HJ14.out.mono HB14.out.size))
 go_wp2_with fail
 refine HC15.out.mono ?_
 rintro en w15 ⟨rfl, hb⟩
 have HRES : Hid (TrueP w (.returned (.bool true)) w15) := by
  have h1 := HBX14.out.trans (hb.mono HBX14.out.size)
  exact ⟨rfl, HBW.out.trans (h1.mono HBW.out.size)⟩
 go_wp2_with fail
 go_ret
 exact HRES.out
end Go.Proofs.Ytpllgfhocedgmaa
namespace Go.Proofs.Ytpllgfhocedgmaa
open Go.RowKit

section
variable {P : Program} {ops : Array Oper} {Q : Exit → Act → World → Prop} {md : Region.Mode} {S : World → Prop}
theorem K_take (i d : Nat) {oi : Oper} {v : Value} {fuel : Nat} {listed : Array Bool} {a : Act} {w : World} (hi : ops[i]? = some oi) (hd : oi.dst = some d)
  (hs : Region.noSelect ops = true) (hf : Region.free md ops listed i = true) (hr : (Region.ready md ops listed).contains i = true)
  (hQ : ∀ c a w, Q (.panic c) (a.put (some d) v) w → Q (.panic c) a w) (hg : Region.wanted oi (yielded ops a.tmps) = true) (hy : ∀ w, S w → (execOp a.eval oi).run P w = .ok (.value v) w) (hS : S w)
  (h : wpAnyH P md ops Q S fuel (listed.setIfInBounds i true) (a.put (some d) v) w) : wpAnyH P md ops Q S (fuel + 1) listed a w :=
 wpAnyH_take hi hs hf hr (by rw [hd]; exact hQ) (.inl ⟨hg, hy⟩) hS (by rw [hd]; exact h)
theorem K_pass (i d : Nat) {oi : Oper} {fuel : Nat} {listed : Array Bool} {a : Act} {w : World} (hi : ops[i]? = some oi) (hd : oi.dst = some d)
  (hs : Region.noSelect ops = true) (hf : Region.free md ops listed i = true) (hr : (Region.ready md ops listed).contains i = true)
  (hQ : ∀ c a w, Q (.panic c) (a.put (some d) undef) w → Q (.panic c) a w) (hg : Region.wanted oi (yielded ops a.tmps) = false) (hS : S w)
  (h : wpAnyH P md ops Q S fuel (listed.setIfInBounds i true) (a.put (some d) undef) w) : wpAnyH P md ops Q S (fuel + 1) listed a w :=
 wpAnyH_take hi hs hf hr (by rw [hd]; exact hQ) (.inr ⟨hg, rfl⟩) hS (by rw [hd]; exact h)
end
theorem BoP.iff {P : Prop} {w : World} {en : Ending} {w' : World} {r : Bool} (h : BoP P w en w') (hp : r = true ↔ P) : BoolP r w en w' := by
 obtain ⟨r', rfl, h1, h2⟩ := h
 have e : r' = r := by
  cases r' with
  | true => exact (hp.2 (h1.1 rfl)).symm
  | false =>
   cases r with
   | false => rfl
   | true => exact absurd (h1.2 (hp.1 rfl)) (by simp)
 exact ⟨by rw [e], h2⟩
theorem InAt.to {w : World} {S : Nat → Prop} {A : Option Addr} {n c t : Nat} {L : List Int} (h : InAt w S A n c L) (ht : t ≤ n) : InAt w S A t c (L.take t) :=
 ⟨by rw [List.length_take, h.len]; omega, by have := h.cap; omega, h.capm, fun h0 => by
  obtain ⟨b, off, e, hb, hc⟩ := h.at_ (by omega)
  exact ⟨b, off, e, hb, fun j x hx => hc j x (by
   rw [List.getElem?_take] at hx
   split at hx
   ·exact hx
   ·cases hx)⟩⟩
end Go.Proofs.Ytpllgfhocedgmaa
