/- bytes.Cut at a blank, bytes.CutPrefix; the token of an #allow. -/
import Derived.Test.YtdbjjakkjmhdgaaDoorWC
import Derived.Test.YtdbjjakkjmhdgaaDoorShelf
set_option maxRecDepth 100000
namespace Go.Proofs.YtdbjjakkjmhdgaaDoor
open Go.RowKit
open W (dgB smB many numB noBl lettersB allowB)

theorem bytesIn_of {w : World} {B : Nat} {A : Option Addr} {n c : Nat} {L : List Int} (h : RdK .u8 w B A n c L) : Lib.BytesIn w A n L := fun hn => by
  obtain ⟨b, off, e, _, hc⟩ := h.at_ hn
  refine ⟨b, off, e, fun i hi => ?_⟩
  have hl : i < L.length := by rw [h.len]; exact hi
  rw [hc i _ (List.getElem?_eq_getElem hl)]
  simp [List.getD, List.getElem?_eq_getElem hl]
theorem idx_bl : ∀ {L : List Int}, Byt L → Lib.indexByte (Lib.bytesOf L) (32 : Int).toNat.toUInt8 = if many noBl L < L.length then (many noBl L : Int) else -1
  | [], _ => rfl
  | x :: t, h => by
    have hx := h x (by simp)
    have ih := idx_bl (L := t) (fun y hy => h y (by simp [hy]))
    have e : Lib.bytesOf (x :: t) = UInt8.ofNat x.toNat :: Lib.bytesOf t := rfl
    rw [e, Lib.indexByte, ih]
    have hle := W.many_le noBl t
    by_cases h32 : x = 32
    · subst h32
      rw [W.many_stop (by decide), if_pos (by decide), if_pos (by simp)]; rfl
    · have hb : (UInt8.ofNat x.toNat == (32 : Int).toNat.toUInt8) = false := by
        rw [beq_eq_false_iff_ne]
        intro h'
        have := congrArg UInt8.toNat h'
        simp at this
        omega
      have hn : noBl x = true := by unfold W.noBl; exact decide_eq_true h32
      rw [hb, W.many_cons hn, List.length_cons]
      rw [if_neg Bool.false_ne_true]
      by_cases h2 : many noBl t < t.length
      · have h3 : ((many noBl t : Int) == -1) = false := by rw [beq_eq_false_iff_ne]; omega
        rw [if_pos h2, h3, if_neg Bool.false_ne_true, if_pos (show many noBl t + 1 < t.length + 1 by omega)]; rfl
      · rw [if_neg h2, if_neg (show ¬ many noBl t + 1 < t.length + 1 by omega)]; rfl
/-- What bytes.Cut at a blank gives. -/
def CutP (w : World) (L : List Int) (e : Ending) (w' : World) : Prop := ∃ (A1 A2 : Option Addr) (n1 c1 n2 c2 q : Nat),
  e = .returned (.tuple #[.slice A1 n1 c1, .slice A2 n2 c2, .bool (decide (many noBl L < L.length))]) ∧ w' = w.drewN q ∧ RdK .u8 w w.heap.size A1 n1 c1 (L.takeWhile noBl) ∧ RdK .u8 w w.heap.size A2 n2 c2 (L.drop (many noBl L + 1))
theorem cut_any {w : World} {b off n c : Nat} {L : List Int} (h : RdK .u8 w w.heap.size (some ⟨b, off, none⟩) n c L) (hb : Byt L) (hn : n ≤ 3000) {b2 : Nat} (h2 : w.cell? ⟨b2, 0, none⟩ = some (.int .u8 32)) :
    Calls Tryd.prog 63 #[.slice (some ⟨b, off, none⟩) n c, .slice (some ⟨b2, 0, none⟩) 1 1] w (CutP w L) := by
  have hlen := h.len
  have hle := W.many_le noBl L
  have hc : ∀ i, i < n → w.cell? ((⟨b, off, none⟩ : Addr).add i) = some (.int .u8 (L.getD i 0)) := fun i hi => by
    obtain ⟨b', off', e, hcc⟩ := bytesIn_of h (by omega)
    injection e with e; injection e with e1 e2 _; subst e1 e2
    rw [kadd_none]; exact hcc i hi
  have hidx := Any.bytes_Index_one_at Tryd.layCut.index ⟨b, off, none⟩ n c b2 0 1 L 32 w hlen hc h2
  rw [idx_bl hb] at hidx
  refine (Any.bytes_Cut_of Tryd.layCut (some ⟨b, off, none⟩) (some ⟨b2, 0, none⟩) n c 1 1 (if many noBl L < L.length then (many noBl L : Int) else -1) w h.cap (by split <;> omega) (fun h0 => by split at h0 <;> (split <;> omega)) (by omega) (hidx.mono fun e w' h' => ⟨h'.1, 0, h'.2⟩)).mono ?_
  rintro e w' ⟨rfl, q, rfl⟩
  by_cases h0 : many noBl L < L.length
  · rw [if_pos h0]
    have hr1 := h.take (m := many noBl L) (by omega)
    rw [W.take_many] at hr1
    have hr2 : RdK .u8 w w.heap.size (if c = many noBl L + 1 then some ⟨b, off, none⟩ else some ⟨b, off + (many noBl L + 1), none⟩) (n - (many noBl L + 1)) (c - (many noBl L + 1)) (L.drop (many noBl L + 1)) := by
      have hcap := h.cap
      split
      · rename_i h1
        have e1 : n - (many noBl L + 1) = 0 := by omega
        rw [e1, List.drop_eq_nil_of_le (by omega)]
        exact rdk_empty _ _ _ _ (by have := h.capm; omega)
      · have := h.mid (lo := many noBl L + 1) (m := n - (many noBl L + 1)) (by omega)
        rw [List.take_of_length_le (by rw [List.length_drop, hlen]; omega)] at this
        exact this
    refine ⟨_, _, _, _, _, _, q, ?_, rfl, hr1, hr2⟩
    unfold Lib.cutV
    rw [if_pos (by omega), decide_eq_true h0]
    simp only [Int.toNat_natCast, Lib.fromV]
    by_cases h1 : c = many noBl L + 1
    · simp [h1]
    · simp [h1, kadd_none]
  · rw [if_neg h0]
    have e0 : many noBl L = L.length := by omega
    have et : L.takeWhile noBl = L := by rw [← W.take_many, e0, List.take_length]
    refine ⟨_, _, _, _, _, _, q, ?_, rfl, (by rw [et]; exact h), (by rw [List.drop_eq_nil_of_le (by omega)]; exact RdK.nil _ _ _)⟩
    unfold Lib.cutV
    rw [if_neg (by omega), decide_eq_false h0]
open W (allowP)
theorem pre_iff {L M : List Int} (hL : Byt L) (hM : Byt M) : Lib.hasPrefix (Lib.bytesOf L) (Lib.bytesOf M) = decide (L.take M.length = M) := by
  unfold Lib.hasPrefix
  rw [Bool.eq_iff_iff, List.isPrefixOf_iff_prefix, decide_eq_true_eq, List.prefix_iff_eq_take]
  have e : (Lib.bytesOf L).take (Lib.bytesOf M).length = Lib.bytesOf (L.take M.length) := by
    rw [Lib.bytesOf_length]; unfold Lib.bytesOf; rw [List.map_take]
  rw [e]
  constructor
  · intro h
    refine (str_inj (hL.take _) hM).1 ?_
    apply ByteArray.ext
    apply Array.ext'
    rw [strOfNums_data, strOfNums_data]
    exact h.symm
  · intro h; rw [h]
/-- What bytes.CutPrefix gives at "#allow ". -/
def PreP (w : World) (L : List Int) (e : Ending) (w' : World) : Prop := ∃ (b off n c : Nat),
  e = .returned (.tuple #[.slice (some ⟨b, off, none⟩) n c, .bool (decide (L.take 7 = allowP))]) ∧ w = w' ∧ (L.take 7 = allowP → RdK .u8 w w.heap.size (some ⟨b, off, none⟩) n c (L.drop 7))
theorem allowP_byt : Byt allowP := by intro x hx; simp [W.allowP] at hx; omega
theorem pre_any {w : World} {b off n c : Nat} {L : List Int} (h : RdK .u8 w w.heap.size (some ⟨b, off, none⟩) n c L) (hb : Byt L) {b2 : Nat} (h2 : RdK .u8 w w.heap.size (some ⟨b2, 0, none⟩) 7 7 allowP) :
    Calls Tryd.prog 55 #[.slice (some ⟨b, off, none⟩) n c, .slice (some ⟨b2, 0, none⟩) 7 7] w (PreP w L) := by
  refine (Any.bytes_CutPrefix_all Tryd.layCutPrefix (some ⟨b, off, none⟩) (some ⟨b2, 0, none⟩) n c 7 7 L allowP w h.len rfl h.cap (bytesIn_of h) (bytesIn_of h2)).mono ?_
  rintro e w' ⟨rfl, rfl⟩
  rw [pre_iff hb allowP_byt]
  have hlen := h.len
  have hcap := h.cap
  show PreP _ _ (.returned (.tuple #[Lib.trimPrefixV (some ⟨b, off, none⟩) n c L allowP, .bool (decide (L.take 7 = allowP))])) _
  rw [show Lib.trimPrefixV (some ⟨b, off, none⟩) n c L allowP = Lib.bytesTrimPrefix b off n c L allowP from rfl]
  unfold Lib.bytesTrimPrefix Lib.sliceFrom
  rw [pre_iff hb allowP_byt]
  by_cases h0 : L.take 7 = allowP
  · have h7 : 7 ≤ n := by
      have := congrArg List.length h0
      rw [List.length_take] at this
      have e7 : allowP.length = 7 := rfl
      omega
    have e7 : allowP.length = 7 := rfl
    by_cases hc : c = 7
    · refine ⟨b, off, n - 7, c - 7, ?_, rfl, fun _ => ?_⟩
      · simp [h0, e7, hc]
      · rw [show n - 7 = 0 by omega, List.drop_eq_nil_of_le (by omega)]; exact rdk_empty _ _ _ _ (by have := h.capm; omega)
    · refine ⟨b, off + 7, n - 7, c - 7, ?_, rfl, fun _ => ?_⟩
      · simp [h0, e7, hc, kadd_none]
      · have := h.mid (lo := 7) (m := n - 7) (by omega)
        rw [List.take_of_length_le (by rw [List.length_drop, hlen]; omega)] at this
        exact this
  · refine ⟨b, off, n, c, ?_, rfl, fun h' => absurd h' h0⟩
    have e7 : allowP.length = 7 := rfl
    rw [e7]
    simp [h0]
end Go.Proofs.YtdbjjakkjmhdgaaDoor
