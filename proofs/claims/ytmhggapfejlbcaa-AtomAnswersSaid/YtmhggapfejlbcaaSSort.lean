/- What sorting the ranges of one's own by their lows does: they are put in order, and nothing that lay there before is changed. -/
import Derived.Test.YtmhggapfejlbcaaMem2
import Derived.Test.YtmhggapfejlbcaaShelf
namespace Go.Proofs.Ytmhggapfejlbcaa
open Go.RowKit Go.Shelf Go.Lib Go.Sort
open M (Rg)

set_option maxHeartbeats 1000000 in
theorem cmp_closure (x y : Rg) (W : World) : Calls Try.prog 52 #[.agg #[.int .i64 x.1, .int .i64 x.2], .agg #[.int .i64 y.1, .int .i64 y.2]] W fun e w' => e = .returned (.int .i64 (Lib.compareInt x.1 y.1)) ∧ ∃ q os', w' = grow (W.drewN q) os' := by
  have hcon := fun W' => AnyG.cmp_Compare_int Try.layCmpInt x.1 y.1 W'
  change ∀ W', Calls Try.prog 47 _ _ _ at hcon
  generalize Lib.compareInt x.1 y.1 = r at hcon ⊢
  go_enter Try.func52, Try.ntmps52
  go_wp2_with (go_at_call 47; refine (hcon _).mono ?_; rintro e w' ⟨rfl, rfl⟩)
  go_ret
  exact ⟨rfl, 0, _, by rw [alloc_eq_grow, alloc_eq_grow, grow_grow]; rfl⟩
theorem cmp_lays (blk off size : Nat) (w : World) : CmpLays Try.prog 52 #[] encR 2 (fun x y => Lib.compareInt x.1 y.1) blk off size w :=
  fun _ _ _ _ x y => cmp_closure x y _
theorem ltLow (x y : Rg) : ltOf (fun x y : Rg => Lib.compareInt x.1 y.1) x y = decide (x.1 < y.1) := by
  unfold ltOf Lib.compareInt
  by_cases h1 : x.1 < y.1
  · simp [h1]
  · by_cases h2 : y.1 < x.1 <;> simp [h1, h2]
theorem swoLow : SWO (ltOf fun x y : Rg => Lib.compareInt x.1 y.1) where
  irrefl x := by rw [ltLow]; simp
  trans x y z h1 h2 := by rw [ltLow] at *; simp at *; omega
  ntrans x y z h1 h2 := by rw [ltLow] at *; simp at *; omega
theorem below_sorted {B : Nat} {w : World} {g off n : Nat} {d : Array Rg} {os : Array Obj} (hB : B ≤ g) (hs : B ≤ w.heap.size) : RowKit.Below B w (sortWorldK encR 2 w g off n d os) := by
  refine ⟨rfl, rfl, rfl, size_sortWorldK_c _ _ _ _ _ _ _ _, fun k hk => ?_⟩
  unfold sortWorldK grow putRowK putRow mapBlock Sort.ahead
  simp only []
  rw [Array.getElem?_append_left (by simp; omega), Array.getElem?_modify, if_neg (by omega)]
theorem cells_flat (L : List Rg) (t : Nat) (h : t < L.length * 2) : (cellsR L)[t]? = some ((encR L.toArray[t / 2]!)[t % 2]!) := by
  have ht : t / 2 < L.length := by omega
  have e : L.toArray[t / 2]! = L[t / 2] := by simp [ht]
  rw [e]
  rcases (show t % 2 = 0 ∨ t % 2 = 1 by omega) with h2 | h2
  · have : t = t / 2 * 2 := by omega
    rw [h2]
    conv => lhs; rw [this]
    rw [cellsR_lo L _ ht]; rfl
  · have : t = t / 2 * 2 + 1 := by omega
    rw [h2]
    conv => lhs; rw [this]
    rw [cellsR_hi L _ ht]; rfl
theorem holds_own {w : World} {B g n c : Nat} {L : List Rg} (h : Own w B (some ⟨g, 0, none⟩) n c L) : HoldsK encR 2 w g 0 L.toArray := by
  have hl := h.len
  intro j hj
  rw [size_flatK] at hj
  have hj' : j < L.length * 2 := by simpa using hj
  rw [get_flatK _ _ _ _ hj, Nat.zero_add]
  refine ⟨?_, World.ownsRow.frozenAt h j⟩
  rw [World.ownsRow.cellAt h j (by omega), cells_flat L j hj']; rfl
theorem rd_holds {w : World} {g c : Nat} {d : Array Rg} (h : HoldsK encR 2 w g 0 d) (hg : g < w.heap.size) (hc : d.size ≤ c) (hm : c ≤ maxLen) : Rd w w.heap.size (some ⟨g, 0, none⟩) d.size c d.toList := by
  refine ⟨by simp, hc, hm, fun _ => ⟨g, 0, rfl, hg, fun j u hu => ?_⟩⟩
  have hj : j < d.toList.length * 2 := by
    have := (List.getElem?_eq_some_iff.1 hu).1; rw [cellsR_len] at this; exact this
  have hj2 : j < d.size * 2 := by simpa using hj
  have := (h j (by rw [size_flatK]; exact hj2)).1
  rw [get_flatK _ _ _ _ hj2] at this
  rw [this, ← hu, cells_flat _ j hj]; rfl
/-- What sorting leaves. -/
def Sorted (w : World) (B : Nat) (A : Option Addr) (n c : Nat) (L : List Rg) (e : Ending) (w' : World) : Prop :=
  e = .returned (.tuple #[]) ∧ ∃ L', L'.Perm L ∧ L'.Pairwise (fun x y => x.1 ≤ y.1) ∧ Rd w' w'.heap.size A n c L' ∧ RowKit.Below B w w'
theorem sort_any {w : World} {B : Nat} {A : Option Addr} {n c : Nat} {L : List Rg} (ho : Own w B A n c L) (hB : B ≤ w.heap.size) (hn : n ≤ 4000000) :
    Calls Try.prog 45 #[.slice A n c, .func (.func 52) #[] #[]] w (Sorted w B A n c L) := by
  have hl := ho.len
  by_cases h0 : n = 0
  · subst h0
    have hL : L = [] := List.eq_nil_of_length_eq_zero hl
    subst hL
    have hcon := AnyF.slices_SortFunc_none Try.layRangeSort A c (.func (.func 52) #[] #[]) w
    change Calls Try.prog 45 _ _ _ at hcon
    exact hcon.mono fun e w' ⟨he, hw⟩ => ⟨he, [], List.Perm.refl _, List.Pairwise.nil, by rw [hw]; exact ho.rd, by rw [hw]; exact RowKit.Below.refl _ _⟩
  · rcases ho.2 with ⟨_, h2⟩ | ⟨g, cap, cur, h1, hBg, hgh, h3, h4, _, _⟩
    · omega
    · injection h1 with a1 a2 a3; subst a1 a3
      have hg := (World.ownsRow.lt ho g rfl).2
      have hH := holds_own ho
      have eg : ∀ args w, (callFunc 52 args).run Try.prog w = .ok (.enter 52 args) w := enters_of Try.func52 (by kernel_rfl) rfl
      have hcon := AnyQ.slices_SortFunc Try.layRangeSort 2 Try.isAgg38 Try.sizeOf38 encR encR_len encR_one (fun x y => Lib.compareInt x.1 y.1) swoLow 52 #[] g 0 c L.toArray w eg (cmp_lays g 0 _ w) hH hg (by simp; omega)
      change Calls Try.prog 45 _ _ _ at hcon
      have hsz : L.toArray.size = n := by simpa using hl
      rw [hsz] at hcon
      refine hcon.mono ?_
      rintro e w' ⟨rfl, d', k, os, ⟨hp1, _, hp3⟩, hs, rfl⟩
      have hd : d'.size = n := hp1.trans hsz
      have hH' := holdsK_sortWorldK_c encR 2 w g 0 L.toArray d' k os hH hg hp1
      refine ⟨rfl, d'.toList, ?_, ?_, ?_, below_sorted hBg hB⟩
      · have e1 : (d'.extract 0 n).toList = d'.toList := by rw [← hd]; simp
        have e2 : (L.toArray.extract 0 n).toList = L := by rw [← hsz]; simp
        rwa [e1, e2] at hp3
      · rw [List.pairwise_iff_getElem]
        intro i j hi hj hij
        have := hs i j (by omega) hij (by simp at hj; omega)
        rw [ltLow] at this
        have ei : d'[i]! = d'.toList[i] := by simp at hi; simp [hi]
        have ej : d'[j]! = d'.toList[j] := by simp at hj; simp [hj]
        rw [ei, ej] at this
        simpa using this
      · have := rd_holds (c := c) hH' (Nat.lt_of_lt_of_le hg (size_sortWorldK_c _ _ _ _ _ _ _ _)) (by omega) h4
        rwa [hd] at this
end Go.Proofs.Ytmhggapfejlbcaa
