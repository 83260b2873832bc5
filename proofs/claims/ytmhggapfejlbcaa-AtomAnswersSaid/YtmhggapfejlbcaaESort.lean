/- What sorting the edges of one's own by their places does. -/
import Derived.Test.YtmhggapfejlbcaaSSort
namespace Go.Proofs.Ytmhggapfejlbcaa
open Go.RowKit Go.Shelf Go.Lib Go.Sort
open M (Rg)

/-- The slice value '.slice A n c' is the call's own, and holds the edges L (a place, and a set's number). -/
def OwnE (w : World) (B : Nat) (A : Option Addr) (n c : Nat) (L : List Rg) : Prop := w.ownsRow B 59 2 (.slice A n c) n (cellsR L)
theorem OwnE.len {w : World} {B : Nat} {A : Option Addr} {n c : Nat} {L : List Rg} (h : OwnE w B A n c L) : L.length = n := by
  have := h.1; rw [cellsR_len] at this; omega
theorem OwnE.rd {w : World} {B : Nat} {A : Option Addr} {n c : Nat} {L : List Rg} (h : OwnE w B A n c L) : Rd w w.heap.size A n c L := Rd.of_own h
set_option maxHeartbeats 1000000 in
theorem cmp_closureE (x y : Rg) (W : World) : Calls Try.prog 50 #[.agg #[.int .i64 x.1, .int .i64 x.2], .agg #[.int .i64 y.1, .int .i64 y.2]] W fun e w' => e = .returned (.int .i64 (Lib.compareInt x.1 y.1)) ∧ ∃ q os', w' = grow (W.drewN q) os' := by
  have hcon := fun W' => AnyG.cmp_Compare_int Try.layCmpInt x.1 y.1 W'
  change ∀ W', Calls Try.prog 47 _ _ _ at hcon
  generalize Lib.compareInt x.1 y.1 = r at hcon ⊢
  go_enter Try.func50, Try.ntmps50
  go_wp2_with (go_at_call 47; refine (hcon _).mono ?_; rintro e w' ⟨rfl, rfl⟩)
  go_ret
  exact ⟨rfl, 0, _, by rw [alloc_eq_grow, alloc_eq_grow, grow_grow]; rfl⟩
theorem cmp_laysE (blk off size : Nat) (w : World) : CmpLays Try.prog 50 #[] encR 2 (fun x y => Lib.compareInt x.1 y.1) blk off size w :=
  fun _ _ _ _ x y => cmp_closureE x y _
theorem holds_ownE {w : World} {B g n c : Nat} {L : List Rg} (h : OwnE w B (some ⟨g, 0, none⟩) n c L) : HoldsK encR 2 w g 0 L.toArray := by
  have hl := h.len
  intro j hj
  rw [size_flatK] at hj
  have hj' : j < L.length * 2 := by simpa using hj
  rw [get_flatK _ _ _ _ hj, Nat.zero_add]
  refine ⟨?_, World.ownsRow.frozenAt h j⟩
  rw [World.ownsRow.cellAt h j (by omega), cells_flat L j hj']; rfl
theorem sort_block {w : World} {g off n : Nat} {d : Array Rg} {os : Array Obj} {cur : Array Value} {t : TypeId} {fr : Nat × Nat} (h : w.heap[g]? = some (.cells cur t fr)) : ∃ cs, (sortWorldK encR 2 w g off n d os).heap[g]? = some (.cells cs t fr) := by
  have hg := (Array.getElem?_eq_some_iff.1 h).1
  unfold sortWorldK grow putRowK putRow mapBlock Sort.ahead
  simp only []
  rw [Array.getElem?_append_left (by simpa using hg), Array.getElem?_modify, if_pos rfl, h]
  exact ⟨_, rfl⟩
/-- What sorting the edges leaves. -/
def SortedE (w : World) (B : Nat) (A : Option Addr) (n c : Nat) (L : List Rg) (e : Ending) (w' : World) : Prop :=
  e = .returned (.tuple #[]) ∧ ∃ L', L'.Perm L ∧ L'.Pairwise (fun x y => x.1 ≤ y.1) ∧ Rd w' w'.heap.size A n c L' ∧ (0 < n → ∃ b cs, A = some ⟨b, 0, none⟩ ∧ B ≤ b ∧ w'.heap[b]? = some (.cells cs 59 (0, 0))) ∧ RowKit.Below B w w'
theorem sort_anyE {w : World} {B : Nat} {A : Option Addr} {n c : Nat} {L : List Rg} (ho : OwnE w B A n c L) (hB : B ≤ w.heap.size) (hn : n ≤ 4000000) :
    Calls Try.prog 49 #[.slice A n c, .func (.func 50) #[] #[]] w (SortedE w B A n c L) := by
  have hl := ho.len
  by_cases h0 : n = 0
  · subst h0
    have hL : L = [] := List.eq_nil_of_length_eq_zero hl
    subst hL
    have hcon := AnyF.slices_SortFunc_none Try.layEdgeSort A c (.func (.func 50) #[] #[]) w
    change Calls Try.prog 49 _ _ _ at hcon
    exact hcon.mono fun e w' ⟨he, hw⟩ => ⟨he, [], List.Perm.refl _, List.Pairwise.nil, by rw [hw]; exact ho.rd, (fun h => absurd h (by omega)), by rw [hw]; exact RowKit.Below.refl _ _⟩
  · rcases ho.2 with ⟨_, h2⟩ | ⟨g, cap, cur, h1, hBg, hgh, h3, h4, _, _⟩
    · omega
    · injection h1 with a1 a2 a3; subst a1 a3
      have hg := (World.ownsRow.lt ho g rfl).2
      have hH := holds_ownE ho
      have eg : ∀ args w, (callFunc 50 args).run Try.prog w = .ok (.enter 50 args) w := enters_of Try.func50 (by kernel_rfl) rfl
      have hcon := AnyQ.slices_SortFunc Try.layEdgeSort 2 Try.isAgg59 Try.sizeOf59 encR encR_len encR_one (fun x y => Lib.compareInt x.1 y.1) swoLow 50 #[] g 0 c L.toArray w eg (cmp_laysE g 0 _ w) hH hg (by simp; omega)
      change Calls Try.prog 49 _ _ _ at hcon
      have hsz : L.toArray.size = n := by simpa using hl
      rw [hsz] at hcon
      refine hcon.mono ?_
      rintro e w' ⟨rfl, d', k, os, ⟨hp1, _, hp3⟩, hs, rfl⟩
      have hd : d'.size = n := hp1.trans hsz
      have hH' := holdsK_sortWorldK_c encR 2 w g 0 L.toArray d' k os hH hg hp1
      obtain ⟨cs, hcs⟩ := sort_block (off := 0) (n := k) (d := d') (os := os) hgh
      refine ⟨rfl, d'.toList, ?_, ?_, ?_, fun _ => ⟨g, cs, rfl, hBg, hcs⟩, below_sorted hBg hB⟩
      · have e1 : (d'.extract 0 n).toList = d'.toList := by rw [← hd]; simp
        have e2 : (L.toArray.extract 0 n).toList = L := by rw [← hsz]; simp
        rwa [e1, e2] at hp3
      · rw [List.pairwise_iff_getElem]
        intro i j hi hj hij
        have := hs i j (by omega) hij (by simp at hj; omega)
        rw [ltLow] at this
        have ei : d'[i]! = d'.toList[i] := by simp at hi; simp [hi]
        have ej : d'[j]! = d'.toList[j] := by simp at hj; simp [hj]
        rw [ei, ej] at this
        simpa using this
      · have := rd_holds (c := c) hH' (Nat.lt_of_lt_of_le hg (size_sortWorldK_c _ _ _ _ _ _ _ _)) (by omega) h4
        rwa [hd] at this
end Go.Proofs.Ytmhggapfejlbcaa
