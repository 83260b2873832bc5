/- What sorting the ranges of one's own by their lows does, as the test of atoms sorts them. -/
import Derived.Test.YtmhggapfejlbcaaSSort
namespace Go.Proofs.Ytmhggapfejlbcaa
open Go.RowKit Go.Shelf Go.Lib Go.Sort
open M (Rg)

set_option maxHeartbeats 1000000 in
theorem cmp_closureP (x y : Rg) (W : World) : Calls Try.prog 46 #[.agg #[.int .i64 x.1, .int .i64 x.2], .agg #[.int .i64 y.1, .int .i64 y.2]] W fun e w' => e = .returned (.int .i64 (Lib.compareInt x.1 y.1)) ∧ ∃ q os', w' = grow (W.drewN q) os' := by
  have hcon := fun W' => AnyG.cmp_Compare_int Try.layCmpInt x.1 y.1 W'
  change ∀ W', Calls Try.prog 47 _ _ _ at hcon
  generalize Lib.compareInt x.1 y.1 = r at hcon ⊢
  go_enter Try.func46, Try.ntmps46
  go_wp2_with (go_at_call 47; refine (hcon _).mono ?_; rintro e w' ⟨rfl, rfl⟩)
  go_ret
  exact ⟨rfl, 0, _, by rw [alloc_eq_grow, alloc_eq_grow, grow_grow]; rfl⟩
theorem cmp_laysP (blk off size : Nat) (w : World) : CmpLays Try.prog 46 #[] encR 2 (fun x y => Lib.compareInt x.1 y.1) blk off size w :=
  fun _ _ _ _ x y => cmp_closureP x y _
theorem sort_anyP {w : World} {B : Nat} {A : Option Addr} {n c : Nat} {L : List Rg} (ho : Own w B A n c L) (hB : B ≤ w.heap.size) (hn : n ≤ 4000000) :
    Calls Try.prog 45 #[.slice A n c, .func (.func 46) #[] #[]] w (Sorted w B A n c L) := by
  have hl := ho.len
  by_cases h0 : n = 0
  · subst h0
    have hL : L = [] := List.eq_nil_of_length_eq_zero hl
    subst hL
    have hcon := AnyF.slices_SortFunc_none Try.layRangeSort A c (.func (.func 46) #[] #[]) w
    change Calls Try.prog 45 _ _ _ at hcon
    exact hcon.mono fun e w' ⟨he, hw⟩ => ⟨he, [], List.Perm.refl _, List.Pairwise.nil, by rw [hw]; exact ho.rd, by rw [hw]; exact RowKit.Below.refl _ _⟩
  · rcases ho.2 with ⟨_, h2⟩ | ⟨g, cap, cur, h1, hBg, hgh, h3, h4, _, _⟩
    · omega
    · injection h1 with a1 a2 a3; subst a1 a3
      have hg := (World.ownsRow.lt ho g rfl).2
      have hH := holds_own ho
      have eg : ∀ args w, (callFunc 46 args).run Try.prog w = .ok (.enter 46 args) w := enters_of Try.func46 (by kernel_rfl) rfl
      have hcon := AnyQ.slices_SortFunc Try.layRangeSort 2 Try.isAgg38 Try.sizeOf38 encR encR_len encR_one (fun x y => Lib.compareInt x.1 y.1) swoLow 46 #[] g 0 c L.toArray w eg (cmp_laysP g 0 _ w) hH hg (by simp; omega)
      change Calls Try.prog 45 _ _ _ at hcon
      have hsz : L.toArray.size = n := by simpa using hl
      rw [hsz] at hcon
      refine hcon.mono ?_
      rintro e w' ⟨rfl, d', k, os, ⟨hp1, _, hp3⟩, hs, rfl⟩
      have hd : d'.size = n := hp1.trans hsz
      have hH' := holdsK_sortWorldK_c encR 2 w g 0 L.toArray d' k os hH hg hp1
      refine ⟨rfl, d'.toList, ?_, ?_, ?_, below_sorted hBg hB⟩
      · have e1 : (d'.extract 0 n).toList = d'.toList := by rw [← hd]; simp
        have e2 : (L.toArray.extract 0 n).toList = L := by rw [← hsz]; simp
        rwa [e1, e2] at hp3
      · rw [List.pairwise_iff_getElem]
        intro i j hi hj hij
        have := hs i j (by omega) hij (by simp at hj; omega)
        rw [ltLow] at this
        have ei : d'[i]! = d'.toList[i] := by simp at hi; simp [hi]
        have ej : d'[j]! = d'.toList[j] := by simp at hj; simp [hj]
        rw [ei, ej] at this
        simpa using this
      · have := rd_holds (c := c) hH' (Nat.lt_of_lt_of_le hg (size_sortWorldK_c _ _ _ _ _ _ _ _)) (by omega) h4
        rwa [hd] at this
end Go.Proofs.Ytmhggapfejlbcaa
