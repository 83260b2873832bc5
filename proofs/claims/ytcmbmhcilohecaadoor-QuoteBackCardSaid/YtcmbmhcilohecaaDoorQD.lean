/- strconv.FormatInt at base 16, of a character's number. -/
import Derived.Test.YtcmbmhcilohecaaDoorQC
import Derived.Laws.Rows
import Derived.Laws.BitsAll
namespace Go.Proofs.YtcmbmhcilohecaaDoor
open Go.RowKit
open Q (isC plainB digV hexF dig textB)

theorem and15 {u : Int} (h0 : 0 ≤ u) (h1 : u ≤ 1114111) : bits .and .u64 u 15 = u % 16 := by
  rw [u64_and u 15 h0 (by omega) (by omega) (by omega)]
  have : u.toNat &&& 15 = u.toNat % 16 := Nat.and_two_pow_sub_one_eq_mod u.toNat 4
  show ((u.toNat &&& 15 : Nat) : Int) = _
  rw [this]; omega
theorem info_u8q : (Tryd.prog.info? 5).map (fun i => (i.zero, i.size, i.bytes)) = some (some (.int .u8 0), 1, 1) := by kernel_rfl
/-- The array under way: from place i on it holds the last digits. -/
structure Arr (w : World) (N : Nat) (n : Int) (u : Int) (i : Nat) (wx : World) : Prop where
  blk : ∃ cs, wx.heap[N]? = some (.cells cs 67 (0, 0)) ∧ cs.size = 65 ∧ ∃ f acc, hexF 6 n = hexF (f + 1) u ++ acc ∧ u < 16 ^ (f + 1) ∧ f + acc.length = 5 ∧ i + acc.length = 65 ∧ ∀ j x, acc[j]? = some x → cs[i + j]? = some (.int .u8 x)
  old : Below w.heap.size w wx
  new : w.heap.size ≤ N
theorem dig_at {d : Int} (h0 : 0 ≤ d) (h1 : d < 16) (hh : d.toNat < (⟨#[48, 49, 50, 51, 52, 53, 54, 55, 56, 57, 97, 98, 99, 100, 101, 102, 103, 104, 105, 106, 107, 108, 109, 110, 111, 112, 113, 114, 115, 116, 117, 118, 119, 120, 121, 122]⟩ : ByteArray).size) :
    (((⟨#[48, 49, 50, 51, 52, 53, 54, 55, 56, 57, 97, 98, 99, 100, 101, 102, 103, 104, 105, 106, 107, 108, 109, 110, 111, 112, 113, 114, 115, 116, 117, 118, 119, 120, 121, 122]⟩ : ByteArray)[d.toNat]'hh).toNat : Int) = dig d := by
  have : d = 0 ∨ d = 1 ∨ d = 2 ∨ d = 3 ∨ d = 4 ∨ d = 5 ∨ d = 6 ∨ d = 7 ∨ d = 8 ∨ d = 9 ∨ d = 10 ∨ d = 11 ∨ d = 12 ∨ d = 13 ∨ d = 14 ∨ d = 15 := by omega
  rcases this with rfl | rfl | rfl | rfl | rfl | rfl | rfl | rfl | rfl | rfl | rfl | rfl | rfl | rfl | rfl | rfl <;> rfl
section
variable {w wx : World} {N i : Nat} {n u : Int}
theorem Arr.cell (h : Arr w N n u (i + 1) wx) : (∃ v, wx.cell? ⟨N, i, none⟩ = some v) ∧ wx.frozen? ⟨N, i, none⟩ = false := by
  obtain ⟨cs, hb, hs, f, acc, h1, h2, h3, h4, h5⟩ := h.blk
  refine ⟨⟨cs[i]'(by omega), ?_⟩, frozen_of_row _ _ _ _ _ hb⟩
  rw [cell_of_row _ _ _ _ _ _ hb]
  exact Array.getElem?_eq_getElem (by omega)
theorem cells_set {cs : Array Value} {i : Nat} {acc : List Int} {d : Int} (hs : i < cs.size) (h : ∀ j x, acc[j]? = some x → cs[i + 1 + j]? = some (.int .u8 x)) :
    ∀ j x, (d :: acc)[j]? = some x → (cs.setIfInBounds i (.int .u8 d))[i + j]? = some (.int .u8 x) := by
  intro j x hx
  cases j with
  | zero =>
    simp at hx; subst hx
    simp [hs]
  | succ j =>
    have := h j x (by simpa using hx)
    rw [Array.getElem?_setIfInBounds_ne (by omega), show i + (j + 1) = i + 1 + j by omega]
    exact this
theorem Arr.step (h : Arr w N n u (i + 1) wx) (hu0 : 0 ≤ u) (hu : 16 ≤ u) : Arr w N n (u / 16) i (wx.setCell ⟨N, i, none⟩ (.int .u8 (dig (u % 16)))) := by
  obtain ⟨cs, hb, hs, f, acc, h1, h2, h3, h4, h5⟩ := h.blk
  refine ⟨⟨_, heap_setCell_same _ _ _ _ _ _ hb, by simp [hs], ?_⟩, h.old.setCell (p := ⟨N, i, none⟩) h.new _, h.new⟩
  cases f with
  | zero => simp at h2; omega
  | succ f =>
    refine ⟨f, dig (u % 16) :: acc, ?_, Q.div_lt h2, by simp; omega, by simp; omega, cells_set (by omega) h5⟩
    rw [h1, hexF_more (f + 1) (by omega)]; simp
theorem Arr.done (h : Arr w N n u (i + 1) wx) (hu0 : 0 ≤ u) (hu : u < 16) : RdK .u8 (wx.setCell ⟨N, i, none⟩ (.int .u8 (dig u))) (N + 1) (some ⟨N, i, none⟩) (65 - i) (65 - i) (hexF 6 n) := by
  obtain ⟨cs, hb, hs, f, acc, h1, h2, h3, h4, h5⟩ := h.blk
  rw [hexF_one f hu] at h1
  rw [h1]
  refine ⟨by simp; omega, Nat.le_refl _, by unfold maxLen; omega, fun _ => ⟨N, i, rfl, by omega, fun j x hx => ?_⟩⟩
  rw [cell_of_row _ _ _ _ _ _ (heap_setCell_same _ _ _ _ _ _ hb)]
  exact cells_set (by omega) h5 j x hx
theorem slice_arr (W : World) (N i : Nat) (h : i ≤ 64) : (Instr.sliceAt 67 (.pointer (some ⟨N, 0, none⟩)) (some (.int .i64 i)) none none).run Tryd.prog W = .ok (.slice (some ⟨N, i, none⟩) (65 - i) (65 - i)) W := by
  obtain ⟨i0, hi0, hz0, hz1, hz2⟩ := info_k info_u8q
  simp [Instr.sliceAt, Instr.sureAddr, run_underlying Tryd.underlying67, Instr.sliceBounds, run_sliceBound, sizeOf, typeInfo, hi0, hz1]
  rw [run_sliceBound (h0 := by omega) (h1 := by omega)]
  simp only [Result.andThen_ok, Int.toNat_natCast]
  rw [if_neg (by omega), kadd_none, Nat.zero_add]
end
theorem info_arr : (Tryd.prog.info? 67).map (fun i => i.zero) = some (some (.agg (Array.replicate 65 (.int .u8 0)))) := by kernel_rfl
theorem zero_arr (w : World) : (zeroValue 67).run Tryd.prog w = .ok (.agg (Array.replicate 65 (.int .u8 0))) w := by
  have h := info_arr
  cases hi : Tryd.prog.info? 67 with
  | none => rw [hi] at h; cases h
  | some i => rw [hi] at h; simp only [Option.map_some, Option.some.injEq] at h; simp [zeroValue, typeInfo, hi, h]
set_option maxHeartbeats 2000000 in
set_option maxRecDepth 100000 in
theorem bits_any {w : World} (hT : Tab w) {n : Int} (h0 : 0 ≤ n) (h1 : n ≤ 1114111) :
    Calls Tryd.prog 31 #[.slice none 0 0, .int .u64 n, .int .i64 16, .bool false, .bool false] w fun e w' => e = .returned (.tuple #[.slice none 0 0, .string (strOfNums (hexF 6 n))]) ∧ Below w.heap.size w w' := by
  have HT := Lib.hid hT
  clear hT
  have hz := zero_arr w
  generalize hcs : Array.replicate 65 (Value.int .u8 0) = cs0 at hz
  have HCS := Lib.hid hcs
  clear hcs
  go_enter Tryd.func31, Tryd.ntmps31
  go_wp2_with fail
  refine (two_any _).mono ?_
  rintro e w1 ⟨rfl, rfl⟩
  clear hz
  go_wp2_with fail
  refine (tz2_any (HT.out.on (kbelow_push _ _))).mono ?_
  rintro e w1 ⟨rfl, rfl⟩
  go_wp2_with fail
  go_loopw [1, 13] (fun uv iv wx => ∃ (u : Int) (i : Nat), 0 ≤ u ∧ u ≤ 1114111 ∧ i ≤ 64 ∧ 59 ≤ i ∧ uv = .int .u64 u ∧ iv = .int .i64 (i + 1) ∧ Hid (Arr w w.heap.size n u (i + 1) wx)) (fun uv _ _ => (intOf uv).toNat)
  case atStart => exact ⟨n, 64, h0, h1, by omega, by omega, rfl, rfl, ⟨cs0, heap_alloc_new w _, by rw [← HCS.out]; simp, 5, [], by simp, (Q.top_lt ((Q.isC_iff n).2 ⟨h0, h1⟩)).2, rfl, rfl, fun j x hx => by simp at hx⟩, kbelow_push _ _, Nat.le_refl _⟩
  case round =>
    obtain ⟨u, i, hu0, hu1, hi0, hi1, rfl, rfl, HA⟩ := hrel
    obtain ⟨⟨v, hc⟩, hf⟩ := HA.out.cell
    by_cases hlt : 16 ≤ u
    · have g1 := and15 hu0 hu1
      have b0 : 0 ≤ u % 16 := by omega
      have b1 : u % 16 < 16 := by omega
      have g2 := dig_at b0 b1
      have HN := Lib.hid (HA.out.step hu0 hlt)
      have hi2 : 60 ≤ i := by
        obtain ⟨cs, hb, hs, f, acc, h1, h2, h3, h4, h5⟩ := HN.out.blk
        omega
      go_wp2_with fail
      refine ⟨⟨u / 16, i - 1, by omega, by omega, by omega, by omega, rfl, by congr 1; omega, ?_⟩, ?_⟩
      · have e : i - 1 + 1 = i := by omega
        rw [e]
        exact HN.out
      · simp [intOf]; omega
    · have hlt' : u < 16 := by omega
      have g2 := dig_at hu0 hlt'
      have HN := Lib.hid (HA.out.done hu0 hlt')
      have HO := Lib.hid (HA.out.old.setCell (p := ⟨w.heap.size, i, none⟩) HA.out.new (.int .u8 (dig u)))
      have hsl := slice_arr (wr.setCell ⟨w.heap.size, i, none⟩ (.int .u8 (dig u))) w.heap.size i hi0
      have q1 := conv_any HN.out 37 5 9 Tryd.underlying37 Tryd.underlying5 Tryd.underlying9
      go_wp2_with fail
      go_ret2
      exact ⟨rfl, HO.out⟩
end Go.Proofs.YtcmbmhcilohecaaDoor
