/- bytes.Cut at a blank, bytes.CutPrefix; the token of an #allow. The token of an #allow. -/
import Derived.Test.YtdhighnbbpngpaaGreatDoorWC
import Derived.Test.YtdhighnbbpngpaaGreatDoorShelf
set_option maxRecDepth 100000
namespace Go.Proofs.YtdhighnbbpngpaaGreatDoor
open Go.RowKit
open W (dgB smB many numB noBl lettersB allowB)

theorem bytesIn_of {w : World} {B : Nat} {A : Option Addr} {n c : Nat} {L : List Int} (h : RdK .u8 w B A n c L) : Lib.BytesIn w A n L := fun hn => by
  obtain ⟨b, off, e, _, hc⟩ := h.at_ hn
  refine ⟨b, off, e, fun i hi => ?_⟩
  have hl : i < L.length := by rw [h.len]; exact hi
  rw [hc i _ (List.getElem?_eq_getElem hl)]
  simp [List.getD, List.getElem?_eq_getElem hl]
theorem idx_bl : ∀ {L : List Int}, Byt L → Lib.indexByte (Lib.bytesOf L) (32 : Int).toNat.toUInt8 = if many noBl L < L.length then (many noBl L : Int) else -1
  | [], _ => rfl
  | x :: t, h => by
    have hx := h x (by simp)
    have ih := idx_bl (L := t) (fun y hy => h y (by simp [hy]))
    have e : Lib.bytesOf (x :: t) = UInt8.ofNat x.toNat :: Lib.bytesOf t := rfl
    rw [e, Lib.indexByte, ih]
    have hle := W.many_le noBl t
    by_cases h32 : x = 32
    · subst h32
      rw [W.many_stop (by decide), if_pos (by decide), if_pos (by simp)]; rfl
    · have hb : (UInt8.ofNat x.toNat == (32 : Int).toNat.toUInt8) = false := by
        rw [beq_eq_false_iff_ne]
        intro h'
        have := congrArg UInt8.toNat h'
        simp at this
        omega
      have hn : noBl x = true := by unfold W.noBl; exact decide_eq_true h32
      rw [hb, W.many_cons hn, List.length_cons]
      rw [if_neg Bool.false_ne_true]
      by_cases h2 : many noBl t < t.length
      · have h3 : ((many noBl t : Int) == -1) = false := by rw [beq_eq_false_iff_ne]; omega
        rw [if_pos h2, h3, if_neg Bool.false_ne_true, if_pos (show many noBl t + 1 < t.length + 1 by omega)]; rfl
      · rw [if_neg h2, if_neg (show ¬ many noBl t + 1 < t.length + 1 by omega)]; rfl
/-- What bytes.Cut at a blank gives. -/
def CutP (w : World) (L : List Int) (e : Ending) (w' : World) : Prop := ∃ (A1 A2 : Option Addr) (n1 c1 n2 c2 q : Nat),
  e = .returned (.tuple #[.slice A1 n1 c1, .slice A2 n2 c2, .bool (decide (many noBl L < L.length))]) ∧ w' = w.drewN q ∧ RdK .u8 w w.heap.size A1 n1 c1 (L.takeWhile noBl) ∧ RdK .u8 w w.heap.size A2 n2 c2 (L.drop (many noBl L + 1))
theorem cut_any {w : World} {b off n c : Nat} {L : List Int} (h : RdK .u8 w w.heap.size (some ⟨b, off, none⟩) n c L) (hb : Byt L) (hn : n ≤ 3000) {b2 : Nat} (h2 : w.cell? ⟨b2, 0, none⟩ = some (.int .u8 32)) :
    Calls Tryz.prog 204 #[.slice (some ⟨b, off, none⟩) n c, .slice (some ⟨b2, 0, none⟩) 1 1] w (CutP w L) := by
  have hlen := h.len
  have hle := W.many_le noBl L
  have hc : ∀ i, i < n → w.cell? ((⟨b, off, none⟩ : Addr).add i) = some (.int .u8 (L.getD i 0)) := fun i hi => by
    obtain ⟨b', off', e, hcc⟩ := bytesIn_of h (by omega)
    injection e with e; injection e with e1 e2 _; subst e1 e2
    rw [kadd_none]; exact hcc i hi
  have hidx := Any.bytes_Index_one_at Tryz.layCut.index ⟨b, off, none⟩ n c b2 0 1 L 32 w hlen hc h2
  rw [idx_bl hb] at hidx
  refine (Any.bytes_Cut_of Tryz.layCut (some ⟨b, off, none⟩) (some ⟨b2, 0, none⟩) n c 1 1 (if many noBl L < L.length then (many noBl L : Int) else -1) w h.cap (by split <;> omega) (fun h0 => by split at h0 <;> (split <;> omega)) (by omega) (hidx.mono fun e w' h' => ⟨h'.1, 0, h'.2⟩)).mono ?_
  rintro e w' ⟨rfl, q, rfl⟩
  by_cases h0 : many noBl L < L.length
  · rw [if_pos h0]
    have hr1 := h.take (m := many noBl L) (by omega)
    rw [W.take_many] at hr1
    have hr2 : RdK .u8 w w.heap.size (if c = many noBl L + 1 then some ⟨b, off, none⟩ else some ⟨b, off + (many noBl L + 1), none⟩) (n - (many noBl L + 1)) (c - (many noBl L + 1)) (L.drop (many noBl L + 1)) := by
      have hcap := h.cap
      split
      · rename_i h1
        have e1 : n - (many noBl L + 1) = 0 := by omega
        rw [e1, List.drop_eq_nil_of_le (by omega)]
        exact rdk_empty _ _ _ _ (by have := h.capm; omega)
      · have := h.mid (lo := many noBl L + 1) (m := n - (many noBl L + 1)) (by omega)
        rw [List.take_of_length_le (by rw [List.length_drop, hlen]; omega)] at this
        exact this
    refine ⟨_, _, _, _, _, _, q, ?_, rfl, hr1, hr2⟩
    unfold Lib.cutV
    rw [if_pos (by omega), decide_eq_true h0]
    simp only [Int.toNat_natCast, Lib.fromV]
    by_cases h1 : c = many noBl L + 1
    · simp [h1]
    · simp [h1, kadd_none]
  · rw [if_neg h0]
    have e0 : many noBl L = L.length := by omega
    have et : L.takeWhile noBl = L := by rw [← W.take_many, e0, List.take_length]
    refine ⟨_, _, _, _, _, _, q, ?_, rfl, (by rw [et]; exact h), (by rw [List.drop_eq_nil_of_le (by omega)]; exact RdK.nil _ _ _)⟩
    unfold Lib.cutV
    rw [if_neg (by omega), decide_eq_false h0]
open W (allowP)
theorem pre_iff {L M : List Int} (hL : Byt L) (hM : Byt M) : Lib.hasPrefix (Lib.bytesOf L) (Lib.bytesOf M) = decide (L.take M.length = M) := by
  unfold Lib.hasPrefix
  rw [Bool.eq_iff_iff, List.isPrefixOf_iff_prefix, decide_eq_true_eq, List.prefix_iff_eq_take]
  have e : (Lib.bytesOf L).take (Lib.bytesOf M).length = Lib.bytesOf (L.take M.length) := by
    rw [Lib.bytesOf_length]; unfold Lib.bytesOf; rw [List.map_take]
  rw [e]
  constructor
  · intro h
    refine (str_inj (hL.take _) hM).1 ?_
    apply ByteArray.ext
    apply Array.ext'
    rw [strOfNums_data, strOfNums_data]
    exact h.symm
  · intro h; rw [h]
/-- What bytes.CutPrefix gives at "#allow ". -/
def PreP (w : World) (L : List Int) (e : Ending) (w' : World) : Prop := ∃ (b off n c : Nat),
  e = .returned (.tuple #[.slice (some ⟨b, off, none⟩) n c, .bool (decide (L.take 7 = allowP))]) ∧ w = w' ∧ (L.take 7 = allowP → RdK .u8 w w.heap.size (some ⟨b, off, none⟩) n c (L.drop 7))
theorem allowP_byt : Byt allowP := by intro x hx; simp [W.allowP] at hx; omega
theorem pre_any {w : World} {b off n c : Nat} {L : List Int} (h : RdK .u8 w w.heap.size (some ⟨b, off, none⟩) n c L) (hb : Byt L) {b2 : Nat} (h2 : RdK .u8 w w.heap.size (some ⟨b2, 0, none⟩) 7 7 allowP) :
    Calls Tryz.prog 188 #[.slice (some ⟨b, off, none⟩) n c, .slice (some ⟨b2, 0, none⟩) 7 7] w (PreP w L) := by
  refine (Any.bytes_CutPrefix_all Tryz.layCutPrefix (some ⟨b, off, none⟩) (some ⟨b2, 0, none⟩) n c 7 7 L allowP w h.len rfl h.cap (bytesIn_of h) (bytesIn_of h2)).mono ?_
  rintro e w' ⟨rfl, rfl⟩
  rw [pre_iff hb allowP_byt]
  have hlen := h.len
  have hcap := h.cap
  show PreP _ _ (.returned (.tuple #[Lib.trimPrefixV (some ⟨b, off, none⟩) n c L allowP, .bool (decide (L.take 7 = allowP))])) _
  rw [show Lib.trimPrefixV (some ⟨b, off, none⟩) n c L allowP = Lib.bytesTrimPrefix b off n c L allowP from rfl]
  unfold Lib.bytesTrimPrefix Lib.sliceFrom
  rw [pre_iff hb allowP_byt]
  by_cases h0 : L.take 7 = allowP
  · have h7 : 7 ≤ n := by
      have := congrArg List.length h0
      rw [List.length_take] at this
      have e7 : allowP.length = 7 := rfl
      omega
    have e7 : allowP.length = 7 := rfl
    by_cases hc : c = 7
    · refine ⟨b, off, n - 7, c - 7, ?_, rfl, fun _ => ?_⟩
      · simp [h0, e7, hc]
      · rw [show n - 7 = 0 by omega, List.drop_eq_nil_of_le (by omega)]; exact rdk_empty _ _ _ _ (by have := h.capm; omega)
    · refine ⟨b, off + 7, n - 7, c - 7, ?_, rfl, fun _ => ?_⟩
      · simp [h0, e7, hc, kadd_none]
      · have := h.mid (lo := 7) (m := n - 7) (by omega)
        rw [List.take_of_length_le (by rw [List.length_drop, hlen]; omega)] at this
        exact this
  · refine ⟨b, off, n, c, ?_, rfl, fun h' => absurd h' h0⟩
    have e7 : allowP.length = 7 := rfl
    rw [e7]
    simp [h0]
end Go.Proofs.YtdhighnbbpngpaaGreatDoor
namespace Go.Proofs.YtdhighnbbpngpaaGreatDoor
open Go.RowKit
open W (dgB smB many numB noBl lettersB allowB allowP)

/-- A token, as a value. -/
def tokV (k : Int) (s : ByteArray) (lo hi pos : Int) : Value := .agg #[.int .i64 k, .string s, .int .i64 lo, .int .i64 hi, .int .i64 pos]
/-- What allowOf answers. -/
def AllP (w : World) (L : List Int) (e : Ending) (w' : World) : Prop :=
  Below w.heap.size w w' ∧ match allowB L with
  | some x => e = .returned (.tuple #[tokV 19 (strOfNums x.1) x.2 0 0, .bool true])
  | none => e = .returned (.tuple #[tokV 0 { data := #[] } 0 0 0, .bool false])
theorem put_tok {W : World} {N : Nat} {a0 a1 a2 a3 a4 : Value} {T : TypeId} (h : W.heap[N]? = some (.cells #[a0, a1, a2, a3, a4] T (0, 0))) (v0 v1 v2 v3 v4 : Value) :
    (((((W.setCell ⟨N, 0, none⟩ v0).setCell ⟨N, 1, none⟩ v1).setCell ⟨N, 2, none⟩ v2).setCell ⟨N, 3, none⟩ v3).setCell ⟨N, 4, none⟩ v4).heap[N]? = some (.cells #[v0, v1, v2, v3, v4] T (0, 0)) := by
  have h0 := heap_setCell_same W N 0 _ _ v0 h
  have h1 := heap_setCell_same _ N 1 _ _ v1 h0
  have h2 := heap_setCell_same _ N 2 _ _ v2 h1
  have h3 := heap_setCell_same _ N 3 _ _ v3 h2
  exact heap_setCell_same _ N 4 _ _ v4 h3
theorem below_tok {B : Nat} {w W : World} {N : Nat} (h : Below B w W) (hN : B ≤ N) (v0 v1 v2 v3 v4 : Value) :
    Below B w (((((W.setCell ⟨N, 0, none⟩ v0).setCell ⟨N, 1, none⟩ v1).setCell ⟨N, 2, none⟩ v2).setCell ⟨N, 3, none⟩ v3).setCell ⟨N, 4, none⟩ v4) :=
  ((((h.setCell (p := ⟨N, 0, none⟩) hN v0).setCell (p := ⟨N, 1, none⟩) hN v1).setCell (p := ⟨N, 2, none⟩) hN v2).setCell (p := ⟨N, 3, none⟩) hN v3).setCell (p := ⟨N, 4, none⟩) hN v4
/-- A token that is handed back out of memory. -/
theorem allow_ret {w W : World} {N : Nat} {k lo hi pos : Int} {t : ByteArray} {good : Bool} {tmps : Array Value} {L : List Int} (hk : W.heap[N]? = some (.cells #[.int .i64 k, .string t, .int .i64 lo, .int .i64 hi, .int .i64 pos] 95 (0, 0)))
    (t2 : tmps[2]?.getD undef = .pointer (some ⟨N, 0, none⟩)) (t3 : tmps[3]?.getD undef = .bool good) (hR : AllP w L (.returned (.tuple #[tokV k t lo hi pos, .bool good])) W) :
    bodyPost Tryz.prog Tryz.f189 (AllP w L) .ret { tmps := tmps, defers := [] } W := by
  have hc0 : W.cell? ⟨N, 0, none⟩ = some (.int .i64 k) := by rw [cell_of_row _ _ _ _ _ _ hk]; rfl
  have hc1 : W.cell? ⟨N, 1, none⟩ = some (.string t) := by rw [cell_of_row _ _ _ _ _ _ hk]; rfl
  have hc2 : W.cell? ⟨N, 2, none⟩ = some (.int .i64 lo) := by rw [cell_of_row _ _ _ _ _ _ hk]; rfl
  have hc3 : W.cell? ⟨N, 3, none⟩ = some (.int .i64 hi) := by rw [cell_of_row _ _ _ _ _ _ hk]; rfl
  have hc4 : W.cell? ⟨N, 4, none⟩ = some (.int .i64 pos) := by rw [cell_of_row _ _ _ _ _ _ hk]; rfl
  refine bodyPost_ret (v := .tuple #[tokV k t lo hi pos, .bool good]) ?_ rfl hR
  simp [results, Tryz.results189, go_sem, t2, t3, hc0, hc1, hc2, hc3, hc4, tokV]
theorem allP_no {w W : World} {L : List Int} (hb : Below w.heap.size w W) (h : allowB L = none) : AllP w L (.returned (.tuple #[tokV 0 { data := #[] } 0 0 0, .bool false])) W := ⟨hb, by rw [h]⟩
theorem allP_yes {w W : World} {L : List Int} (hb : Below w.heap.size w W) {k : List Int} {x : Int} {s : ByteArray} (hs : strOfNums k = s) (h : allowB L = some (k, x)) : AllP w L (.returned (.tuple #[tokV 19 s x 0 0, .bool true])) W := ⟨hb, by rw [h, ← hs]⟩
set_option maxHeartbeats 2000000 in
theorem allow_any {w : World} {b off n c : Nat} {L : List Int} (h : RdK .u8 w w.heap.size (some ⟨b, off, none⟩) n c L) (hb : Byt L) (hn : n ≤ 3000) :
    Calls Tryz.prog 189 #[.slice (some ⟨b, off, none⟩) n c] w (AllP w L) := by
  have HH := Lib.hid h
  have HB := Lib.hid hb
  clear h hb
  go_enter Tryz.func189, Tryz.ntmps189
  go_wp2_with fail
  have hB0 := ((Below.refl w.heap.size w).alloc (Nat.le_refl _) (.cells #[.int .i64 0, .string { data := #[] }, .int .i64 0, .int .i64 0, .int .i64 0] 95)).alloc (by simp) (.cells #[.int .u8 32] 5)
  generalize hW0 : ((w.alloc (.cells #[.int .i64 0, .string { data := #[] }, .int .i64 0, .int .i64 0, .int .i64 0] 95)).alloc (.cells #[.int .u8 32] 5)) = W0 at hB0 ⊢
  have hz : W0.heap.size = w.heap.size + 2 := by rw [← hW0]; simp
  have hk0 : W0.heap[w.heap.size]? = some (.cells #[.int .i64 0, .string { data := #[] }, .int .i64 0, .int .i64 0, .int .i64 0] 95 (0, 0)) := by
    rw [← hW0, Lib.alloc_old _ _ _ (by simp)]; exact heap_alloc_new w _
  have hs0 : W0.cell? ⟨w.heap.size + 1, 0, none⟩ = some (.int .u8 32) := by
    have h1 := heap_alloc_new (w.alloc (.cells #[.int .i64 0, .string { data := #[] }, .int .i64 0, .int .i64 0, .int .i64 0] 95)) (.cells #[.int .u8 32] 5)
    rw [hW0, World.size_alloc] at h1
    rw [cell_of_row _ _ _ _ _ _ h1]; rfl
  have hcut := Lib.hid (cut_any (HH.out.on hB0) HB.out hn hs0)
  clear hW0 hs0
  refine hcut.out.mono ?_
  rintro e w1 ⟨A1, A2, n1, c1, n2, c2, q, rfl, rfl, hr1, hr2⟩
  clear hcut
  have hlL : n = L.length := HH.out.len.symm
  have hle := W.many_le noBl L
  have hn1 : n1 ≤ 3000 := by rw [← hr1.len]; have : (L.takeWhile noBl).length = many noBl L := rfl; omega
  have hn2 : n2 ≤ 3000 := by rw [← hr2.len, List.length_drop]; omega
  have hcv : (convert 22 9 (.slice A1 n1 c1)).run Tryz.prog (W0.drewN q) = .ok (.string (strOfNums (L.takeWhile noBl))) (W0.drewN q) := conv_any (hr1.drewN q) _ 5 _ Tryz.underlying22 Tryz.underlying5 Tryz.underlying9
  have hby1 : Byt (L.takeWhile noBl) := fun x hx => HB.out x ((List.takeWhile_prefix noBl).subset hx)
  have hlet := Lib.hid (letters_any (w := W0.drewN q) (strIs_of hby1) (by rw [hr1.len]; omega))
  generalize hK : strOfNums (L.takeWhile noBl) = ks at hcv hlet
  have HK := Lib.hid hK
  have HB0 := Lib.hid hB0
  have HK0 := Lib.hid hk0
  have hc0 : W0.cell? ⟨w.heap.size, 0, none⟩ = some (.int .i64 0) := by rw [cell_of_row _ _ _ _ _ _ hk0]; rfl
  have hc1 : W0.cell? ⟨w.heap.size, 1, none⟩ = some (.string { data := #[] }) := by rw [cell_of_row _ _ _ _ _ _ hk0]; rfl
  have hc2 : W0.cell? ⟨w.heap.size, 2, none⟩ = some (.int .i64 0) := by rw [cell_of_row _ _ _ _ _ _ hk0]; rfl
  have hc3 : W0.cell? ⟨w.heap.size, 3, none⟩ = some (.int .i64 0) := by rw [cell_of_row _ _ _ _ _ _ hk0]; rfl
  have hc4 : W0.cell? ⟨w.heap.size, 4, none⟩ = some (.int .i64 0) := by rw [cell_of_row _ _ _ _ _ _ hk0]; rfl
  have hf : ∀ j, W0.frozen? ⟨w.heap.size, j, none⟩ = false := fun j => frozen_of_row _ _ _ _ _ hk0
  have hf0 := hf 0
  have hf1 := hf 1
  have hf2 := hf 2
  have hf3 := hf 3
  have hf4 := hf 4
  have HR1 := Lib.hid hr1
  have HR2 := Lib.hid hr2
  clear hK hB0 hk0 hf hr1 hr2 hby1
  go_wp2_with fail
  refine hlet.out.mono ?_
  rintro e w1 ⟨rfl, rfl⟩
  clear hlet
  cases hl : lettersB (L.takeWhile noBl) with
  | false =>
    have HA : Hid (allowB L = none) := by show _ = _; unfold W.allowB; rw [if_neg (by rw [hl]; decide)]
    have HE := Lib.hid (allP_no (below_tok (kbelow_drewN HB0.out q) (Nat.le_refl _) (.int .i64 0) (.string { data := #[] }) (.int .i64 0) (.int .i64 0) (.int .i64 0)) HA.out)
    have HP := Lib.hid (put_tok (W := W0.drewN q) HK0.out (.int .i64 0) (.string { data := #[] }) (.int .i64 0) (.int .i64 0) (.int .i64 0))
    go_wp2_with fail
    exact allow_ret HP.out rfl rfl HE.out
  | true =>
    by_cases hbl : many noBl L < L.length
    · rw [decide_eq_true hbl]
      have hD : ∀ x, (allowB L = x) = ((if (numB (L.drop (many noBl L + 1))).2.2 = 0 ∧ (numB (L.drop (many noBl L + 1))).2.1 = (L.drop (many noBl L + 1)).length then some (L.takeWhile noBl, (numB (L.drop (many noBl L + 1))).1) else none) = x) := fun x => by
        unfold W.allowB; rw [if_pos hl, if_neg (by omega)]
      have hln2 := HR2.out.len
      have hby2 : Byt (L.drop (many noBl L + 1)) := HB.out.drop _
      generalize hDD : L.drop (many noBl L + 1) = D at *
      obtain ⟨v, sz, er, hv⟩ : ∃ v sz er, numB D = (v, sz, er) := ⟨_, _, _, rfl⟩
      have hnum := Lib.hid (numberOf_any (w := (W0.drewN q).alloc (.cells #[.int .i64 19, .string ks, .int .i64 (-1), .int .i64 0, .int .i64 0] 95)) ((HR2.out.drewN q).push (.cells #[.int .i64 19, .string ks, .int .i64 (-1), .int .i64 0, .int .i64 0] 95)) hby2 hn2)
      unfold NumP at hnum
      rw [hv] at hnum hD
      simp only at hnum hD
      have HD := Lib.hid hD
      have hsz : sz ≤ n2 := by have := W.num_le D; rw [hv] at this; rw [← hln2]; exact this
      clear hl hlL hD hDD hv hby2 hbl hle
      go_wp2_with fail
      refine hnum.out.mono ?_
      rintro e w3 ⟨rfl, rfl⟩
      clear hnum
      by_cases he : er = 0
      · subst he
        by_cases hs : sz = n2
        · subst hs
          have HA : Hid (allowB L = some (L.takeWhile noBl, v)) := by show _ = _; rw [HD.out, if_pos ⟨rfl, hln2.symm⟩]
          have HP := Lib.hid (put_tok (W := W0.drewN q) HK0.out (.int .i64 19) (.string ks) (.int .i64 v) (.int .i64 0) (.int .i64 0))
          have HE := Lib.hid (below_tok (kbelow_drewN HB0.out q) (Nat.le_refl _) (.int .i64 19) (.string ks) (.int .i64 v) (.int .i64 0) (.int .i64 0))
          clear HD
          go_wp2_with fail
          refine allow_ret ((Lib.alloc_old _ _ _ (by simp <;> omega)).trans HP.out) rfl rfl (allP_yes (HE.out.alloc (by simp <;> omega) _) HK.out HA.out)
        · have HA : Hid (allowB L = none) := by show _ = _; rw [HD.out, if_neg (fun h => hs (h.2.trans hln2))]
          have HP := Lib.hid (put_tok (W := W0.drewN q) HK0.out (.int .i64 0) (.string { data := #[] }) (.int .i64 0) (.int .i64 0) (.int .i64 0))
          have HE := Lib.hid (below_tok (kbelow_drewN HB0.out q) (Nat.le_refl _) (.int .i64 0) (.string { data := #[] }) (.int .i64 0) (.int .i64 0) (.int .i64 0))
          have hlt : sz < n2 := by omega
          clear HD
          go_wp2_with fail
          refine allow_ret ((Lib.alloc_old _ _ _ (by simp <;> omega)).trans HP.out) rfl rfl (allP_no (HE.out.alloc (by simp <;> omega) _) HA.out)
      · have HA : Hid (allowB L = none) := by show _ = _; rw [HD.out, if_neg (fun h => he h.1)]
        have HP := Lib.hid (put_tok (W := W0.drewN q) HK0.out (.int .i64 0) (.string { data := #[] }) (.int .i64 0) (.int .i64 0) (.int .i64 0))
        have HE := Lib.hid (below_tok (kbelow_drewN HB0.out q) (Nat.le_refl _) (.int .i64 0) (.string { data := #[] }) (.int .i64 0) (.int .i64 0) (.int .i64 0))
        have hne : (er != 0) = true := by simpa using he
        clear HD he
        go_wp2_with fail
        refine allow_ret ((Lib.alloc_old _ _ _ (by simp <;> omega)).trans HP.out) rfl rfl (allP_no (HE.out.alloc (by simp <;> omega) _) HA.out)
    · have HA : Hid (allowB L = some (L.takeWhile noBl, -1)) := by show _ = _; unfold W.allowB; rw [if_pos hl, if_pos (by omega)]
      rw [decide_eq_false hbl]
      have HP := Lib.hid (put_tok (W := W0.drewN q) HK0.out (.int .i64 19) (.string ks) (.int .i64 (-1)) (.int .i64 0) (.int .i64 0))
      have HE := Lib.hid (below_tok (kbelow_drewN HB0.out q) (Nat.le_refl _) (.int .i64 19) (.string ks) (.int .i64 (-1)) (.int .i64 0) (.int .i64 0))
      clear hl hlL
      go_wp2_with fail
      exact allow_ret ((Lib.alloc_old _ _ _ (by simp <;> omega)).trans HP.out) rfl rfl (allP_yes (HE.out.alloc (by simp <;> omega) _) HK.out HA.out)
end Go.Proofs.YtdhighnbbpngpaaGreatDoor
