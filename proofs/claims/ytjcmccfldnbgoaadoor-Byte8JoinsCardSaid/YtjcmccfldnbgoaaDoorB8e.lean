/- Which line a place is in: the program's Line, over the library's Count and LastIndexByte, and the document's. -/
import Derived.Test.YtjcmccfldnbgoaaDoorB8b
namespace Go.Proofs.YtjcmccfldnbgoaaDoor
open Go.RowKit
open E (lineF colF Last10)

theorem count_bytes {L : List Int} (h : Byt L) : Lib.countByte (Lib.bytesOf L) (10 : Int).toNat.toUInt8 = L.count 10 := by
  unfold Lib.countByte Lib.bytesOf
  induction L with
  | nil => rfl
  | cons x t ih =>
    have hx := h x (by simp)
    have hi := ih (fun y hy => h y (by simp [hy]))
    rw [List.map_cons, List.count_cons, List.count_cons, hi]
    congr 1
    have e : (UInt8.ofNat x.toNat == (10 : Int).toNat.toUInt8) = (x == 10) := by
      rw [Bool.eq_iff_iff, beq_iff_eq, beq_iff_eq]
      refine ⟨fun he => ?_, fun he => by subst he; rfl⟩
      have := congrArg UInt8.toNat he
      simp only [UInt8.toNat_ofNat'] at this
      have e2 : Int.toNat 10 % 2 ^ 8 = 10 := rfl
      omega
    rw [e]
set_option maxHeartbeats 1000000 in
theorem count_any {w : World} {B : Nat} {A : Option Addr} {n c : Nat} {L : List Int} (h : RdK .u8 w B A n c L) (hb : Byt L) (b2 d : Nat) (hc2 : w.cell? ⟨b2, 0, none⟩ = some (.int .u8 10)) :
    Calls Tryd.prog 22 #[.slice A n c, .slice (some ⟨b2, 0, none⟩) 1 d] w fun e w' => e = .returned (.int .i64 (L.count 10 : Nat)) ∧ w = w' := by
  cases A with
  | some a =>
    have hcon := Any.bytes_Count_one_at Tryd.layCount a n c b2 0 d L 10 w h.len (fun i hi => by
      have hl : i < L.length := by rw [h.len]; exact hi
      obtain ⟨b, off, e, _, hc⟩ := h.at_ (by omega)
      injection e with e
      subst e
      rw [kadd_none, hc i L[i] (List.getElem?_eq_getElem hl)]
      simp [List.getD, List.getElem?_eq_getElem hl]) hc2
    rw [count_bytes hb] at hcon
    exact hcon.mono fun e w' ⟨h1, h2⟩ => ⟨h1, h2.symm⟩
  | none =>
    have hn : n = 0 := by
      rcases Nat.eq_zero_or_pos n with h0 | h0
      · exact h0
      · obtain ⟨_, _, e, _⟩ := h.at_ h0; cases e
    obtain rfl : L = [] := List.eq_nil_of_length_eq_zero (by rw [h.len, hn])
    clear h hb
    subst hn
    go_enter Tryd.func22, Tryd.ntmps22
    go_wp2
    rw [run_callFunc_extern Tryd.func29 (by kernel_rfl) (by kernel_rfl) (by kernel_rfl) (e := Extern.BytealgCount.count) (by kernel_rfl), Lib.run_countNil w 0 c 10]
    simp only [Result.andThen]
    rw [Oper.upon_value]
    go_wp2
    go_ret
    exact ⟨rfl, rfl⟩
/-- The place of the last line feed. -/
def LastP (w : World) (L : List Int) (e : Ending) (w' : World) : Prop := ∃ i : Int, e = .returned (.int .i64 i) ∧ w = w' ∧ Last10 L i ∧ -1 ≤ i ∧ i < L.length + 1
set_option maxHeartbeats 1000000 in
theorem last_any {w : World} {B : Nat} {A : Option Addr} {n c : Nat} {L : List Int} (h : RdK .u8 w B A n c L) :
    Calls Tryd.prog 31 #[.slice A n c, .int .u8 10] w (LastP w L) := by
  have hsm := h.small
  have hlen := Lib.hid h.len
  have HH := Lib.hid h
  clear h
  go_enter Tryd.func31, Tryd.ntmps31
  go_wp2_with fail
  go_loop [5] (fun v => ∃ i : Int, -1 ≤ i ∧ i < n ∧ v = .int .i64 i ∧ Hid (∀ x ∈ L.drop (i + 1).toNat, x ≠ 10)) (fun v => (intOf v + 1).toNat)
  case atStart => exact ⟨(n : Int) - 1, by omega, by omega, rfl, fun x hx => by rw [List.drop_of_length_le (by rw [hlen.out]; omega)] at hx; cases hx⟩
  case round =>
    obtain ⟨i, hi1, hi2, rfl, HF⟩ := hrel
    by_cases h0 : 0 ≤ i
    · obtain ⟨j, rfl⟩ : ∃ j : Nat, i = j := ⟨i.toNat, by omega⟩
      obtain ⟨b, off, x, rfl, _, hx, hc⟩ := HH.out.got (j := j) (by omega)
      have HX := Lib.hid hx
      have ej : ((j : Int) + 1).toNat = j + 1 := by omega
      have HF' : Hid (∀ x ∈ L.drop (j + 1), x ≠ 10) := by have := HF.out; rw [ej] at this; exact this
      clear hx ej HF
      by_cases hx10 : x = 10
      · subst hx10
        have HG : Hid (LastP w L (.returned (.int .i64 j)) w) := ⟨j, rfl, rfl, Or.inr ⟨j, rfl, HX.out, HF'.out⟩, by omega, by rw [hlen.out]; omega⟩
        go_wp2_with fail
        go_ret
        exact HG.out
      · have g1 : (x == 10) = false := by simpa using hx10
        have HG : Hid (∀ y ∈ L.drop ((j : Int) - 1 + 1).toNat, y ≠ 10) := by
          have ej : ((j : Int) - 1 + 1).toNat = j := by omega
          rw [ej]
          obtain ⟨hj, he⟩ := List.getElem?_eq_some_iff.1 HX.out
          rw [List.drop_eq_getElem_cons hj, he]
          intro y hy
          rcases List.mem_cons.1 hy with rfl | hy
          · exact hx10
          · exact HF'.out y hy
        clear hx10
        go_wp2_with fail
        go_round
        case rel => exact ⟨(j : Int) - 1, by omega, by omega, rfl, HG.out⟩
        case measure => simp [intOf]
    · obtain rfl : i = -1 := by omega
      have HG : Hid (LastP w L (.returned (.int .i64 (-1))) w) := ⟨-1, rfl, rfl, Or.inl ⟨rfl, by have := HF.out; simpa using this⟩, by omega, by omega⟩
      go_wp2_with fail
      go_ret
      exact HG.out
theorem lasti_any {w : World} {B : Nat} {A : Option Addr} {n c : Nat} {L : List Int} (h : RdK .u8 w B A n c L) :
    Calls Tryd.prog 23 #[.slice A n c, .int .u8 10] w (LastP w L) := by
  have hcon := Lib.hid (last_any h)
  clear h
  go_enter Tryd.func23, Tryd.ntmps23
  go_wp2_with fail
  refine hcon.out.mono ?_
  rintro e w' ⟨i, rfl, rfl, h1, h2, h3⟩
  have HG : Hid (LastP w L (.returned (.int .i64 i)) w) := ⟨i, rfl, rfl, h1, h2, h3⟩
  clear h1 hcon
  go_wp2_with fail
  go_ret
  exact HG.out
/-- The line and the column of a place. -/
def lineV (L : List Int) (at_ : Int) : Int × Int := if at_ < 0 ∨ (L.length : Int) < at_ then (0, 0) else ((lineF (L.take at_.toNat) : Int), (colF (L.take at_.toNat) : Int))
def LinP (w : World) (L : List Int) (at_ : Int) (e : Ending) (w' : World) : Prop := e = .returned (.tuple #[.int .i64 (lineV L at_).1, .int .i64 (lineV L at_).2]) ∧ Below w.heap.size w w'
theorem lineV_in {L : List Int} {k : Nat} (hk : k ≤ L.length) : lineV L k = ((lineF (L.take k) : Int), (colF (L.take k) : Int)) := by
  unfold lineV; rw [if_neg (by omega)]; rfl
set_option maxHeartbeats 1000000 in
theorem line_any {w : World} {A : Option Addr} {n c : Nat} {L : List Int} (h : RdK .u8 w w.heap.size A n c L) (hb : Byt L) (hn : n ≤ 1000000) (at_ : Int) :
    Calls Tryd.prog 13 #[.slice A n c, .int .i64 at_] w (LinP w L at_) := by
  have hlen := Lib.hid h.len
  have hcap := h.cap
  have hsm := h.small
  by_cases h0 : at_ < 0
  · have HG : Hid (LinP w L at_ (.returned (.tuple #[.int .i64 0, .int .i64 0])) w) := ⟨by unfold lineV; rw [if_pos (Or.inl h0)], Below.refl _ _⟩
    clear h hb
    go_enter Tryd.func13, Tryd.ntmps13
    go_wp2_with fail
    go_ret2
    exact HG.out
  · by_cases h1 : (n : Int) < at_
    · have HG : Hid (LinP w L at_ (.returned (.tuple #[.int .i64 0, .int .i64 0])) w) := ⟨by unfold lineV; rw [if_pos (Or.inr (by rw [hlen.out]; exact h1))], Below.refl _ _⟩
      clear h hb
      go_enter Tryd.func13, Tryd.ntmps13
      go_wp2_with fail
      go_ret2
      exact HG.out
    · obtain ⟨k, rfl⟩ : ∃ k : Nat, at_ = k := ⟨at_.toNat, by omega⟩
      have hk : k ≤ n := by omega
      have ht := h.take hk
      have HBy := Lib.hid (hb.take k)
      have HT := Lib.hid (ht.push (.cells #[.int .u8 10] 5))
      have hcon := Lib.hid (count_any HT.out HBy.out w.heap.size 1 (by have := lit_k w _ rfl .u8 [10] 5 #[.int .u8 10] rfl 0 10 rfl; rwa [kadd_none] at this))
      have hcl := E.line_count (L.take k)
      have hlp := E.line_pos (L.take k)
      have hln : (L.take k).length = k := by rw [List.length_take, hlen.out]; omega
      have hct : (L.take k).count 10 ≤ k := by omega
      have HV := Lib.hid (lineV_in (L := L) (k := k) (by rw [hlen.out]; exact hk))
      have HC := Lib.hid hcl
      have HLN := Lib.hid hln
      clear h hb ht hcl hlp hln
      have hk0 : ¬ (k : Int) < 0 := by omega
      go_enter Tryd.func13, Tryd.ntmps13
      go_wp2_with fail
      refine hcon.out.mono ?_
      rintro e w3 ⟨rfl, rfl⟩
      clear hcon
      generalize hcc : (L.take k).count 10 = cc at *
      have HCC := Lib.hid hcc
      clear hcc
      have hcon2 := Lib.hid (lasti_any HT.out)
      go_wp2_with fail
      refine hcon2.out.mono ?_
      rintro e w3 ⟨i, rfl, rfl, g1, g2, g3⟩
      have HL := Lib.hid (E.col_last g1)
      rw [HLN.out] at g3 HL
      clear g1 hcon2
      go_wp2_with fail
      go_ret2
      refine ⟨?_, kbelow_push _ _⟩
      rw [HV.out, HL.out, HC.out]
      rfl
set_option maxHeartbeats 1000000 in
theorem rline_any {w : World} {A : Option Addr} {n c : Nat} {L : List Int} (h : RdK .u8 w w.heap.size A n c L) (hn : n ≤ 1000000) (at_ : Int) :
    Calls Tryd.prog 14 #[.slice A n c, .int .i64 at_] w (LinP w L at_) := by
  have hlen := Lib.hid h.len
  have hcap := h.cap
  by_cases h0 : at_ < 0
  · have HG : Hid (LinP w L at_ (.returned (.tuple #[.int .i64 0, .int .i64 0])) w) := ⟨by unfold lineV; rw [if_pos (Or.inl h0)], Below.refl _ _⟩
    clear h
    go_enter Tryd.func14, Tryd.ntmps14
    go_wp2_with fail
    go_ret2
    exact HG.out
  · by_cases h1 : (n : Int) < at_
    · have HG : Hid (LinP w L at_ (.returned (.tuple #[.int .i64 0, .int .i64 0])) w) := ⟨by unfold lineV; rw [if_pos (Or.inr (by rw [hlen.out]; exact h1))], Below.refl _ _⟩
      clear h
      go_enter Tryd.func14, Tryd.ntmps14
      go_wp2_with fail
      go_ret2
      exact HG.out
    · obtain ⟨k, rfl⟩ : ∃ k : Nat, at_ = k := ⟨at_.toNat, by omega⟩
      have hk : k ≤ n := by omega
      have HV := Lib.hid (lineV_in (L := L) (k := k) (by rw [hlen.out]; exact hk))
      have HH := Lib.hid h
      clear h
      have hk0 : ¬ (k : Int) < 0 := by omega
      go_enter Tryd.func14, Tryd.ntmps14
      go_wp2_with fail
      go_loop [6, 7, 8] (fun lv cv iv => ∃ j : Nat, j ≤ k ∧ iv = .int .i64 j ∧ lv = .int .i64 (lineF (L.take j) : Nat) ∧ cv = .int .i64 (colF (L.take j) : Nat)) (fun _ _ iv => k - (intOf iv).toNat)
      case atStart => exact ⟨0, by omega, rfl, rfl, rfl⟩
      case round =>
        obtain ⟨j, hj, rfl, rfl, rfl⟩ := hrel
        by_cases hlt : j < k
        · obtain ⟨b, off, x, rfl, _, hx, hc⟩ := HH.out.got (j := j) (by omega)
          have hts : L.take (j + 1) = L.take j ++ [x] := by
            obtain ⟨hj', he⟩ := List.getElem?_eq_some_iff.1 hx
            rw [List.take_succ_eq_append_getElem hj', he]
          have HLs := Lib.hid (E.line_snoc (L.take j) x)
          have HCs := Lib.hid (E.col_snoc (L.take j) x)
          rw [← hts] at HLs HCs
          have hlp := E.line_pos (L.take j)
          have hcp := E.col_pos (L.take j)
          have hln : (L.take j).length = j := by rw [List.length_take, hlen.out]; omega
          rw [hln] at hlp hcp
          clear hts hx hln
          by_cases hx10 : x = 10
          · subst hx10
            go_wp2_with fail
            go_round
            case rel => exact ⟨j + 1, by omega, by go_num, by rw [HLs.out, if_pos rfl]; go_num, by rw [HCs.out, if_pos rfl]; rfl⟩
            case measure => simp [intOf]; omega
          · have g1 : (x == 10) = false := by simpa using hx10
            have HX := Lib.hid hx10
            clear hx10
            go_wp2_with fail
            go_round
            case rel => exact ⟨j + 1, by omega, by go_num, by rw [HLs.out, if_neg HX.out], by rw [HCs.out, if_neg HX.out]; go_num⟩
            case measure => simp [intOf]; omega
        · obtain rfl : j = k := by omega
          have HG : Hid (LinP w L j (.returned (.tuple #[.int .i64 (lineF (L.take j) : Nat), .int .i64 (colF (L.take j) : Nat)])) w) := ⟨by rw [HV.out], Below.refl _ _⟩
          go_wp2_with fail
          go_ret2
          exact HG.out
end Go.Proofs.YtjcmccfldnbgoaaDoor
