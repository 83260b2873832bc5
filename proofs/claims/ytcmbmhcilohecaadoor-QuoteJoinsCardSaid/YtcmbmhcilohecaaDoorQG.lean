/- Texts of characters: the program's, over strings.Builder, and the document's. -/
import Derived.Test.YtcmbmhcilohecaaDoorQF
namespace Go.Proofs.YtcmbmhcilohecaaDoor
open Go.RowKit
open Q (isC plainB digV hexF dig textB flatT textsV)

def TextsP (w : World) (L : List Int) (e : Ending) (w' : World) : Prop := e = .returned (.tuple #[.string (strOfNums (textsV L).1), .int .i64 (textsV L).2]) ∧ Below w.heap.size w w'
theorem textsP_bad {w w' : World} {L : List Int} {k : Nat} {x : Int} (h : L[k]? = some x) (hx : isC x = false) (hb : Below w.heap.size w w') : TextsP w L (.returned (.tuple #[.string ⟨#[]⟩, .int .i64 1])) w' := ⟨by rw [Q.textsV_bad h hx]; rfl, hb⟩
theorem textsP_ok {w w' : World} {L : List Int} (h : L.all isC = true) (hb : Below w.heap.size w w') : TextsP w L (.returned (.tuple #[.string (strOfNums (flatT L)), .int .i64 0])) w' := ⟨by rw [Q.textsV_ok h], hb⟩
theorem textV_ok {c : Int} (h : isC c = true) : textV c = (textB c, 0) := by unfold textV; rw [if_pos h]
theorem textV_no {c : Int} (h : isC c = false) : textV c = ([], 1) := by unfold textV; rw [h]; rfl
theorem small_of {L : List Int} {k : Nat} {n : Nat} (hl : L.length = n) (hn : n ≤ 10000) : (flatT (L.take k)).length ≤ 100000 := by
  have h1 := Q.flat_small (L.take k); have h2 := List.length_take_le' k L; omega
set_option maxHeartbeats 2000000 in
theorem texts_any {w : World} {A : Option Addr} {n c : Nat} {L : List Int} (h : RdK .i64 w w.heap.size A n c L) (hn : n ≤ 10000) (hT : Tab w) :
    Calls Tryd.prog 7 #[.slice A n c] w (TextsP w L) := by
  have hlen := Lib.hid h.len
  have hcap := h.cap
  have HH := Lib.hid h
  have HT := Lib.hid hT
  clear h hT
  go_enter Tryd.func7, Tryd.ntmps7
  go_wp2_with fail
  go_loopw [11] (fun iv wx => ∃ k : Nat, k ≤ n ∧ iv = .int .i64 k ∧ Hid ((L.take k).all isC = true) ∧ Hid (Bld wx w.heap.size w.heap.size (flatT (L.take k))) ∧ Hid (Below w.heap.size w wx)) (fun iv _ => n - (intOf iv).toNat)
  case atStart => exact ⟨0, by omega, rfl, rfl, bld_fresh w, kbelow_push _ _⟩
  case round =>
    obtain ⟨k, hk, rfl, HA, HO, HB⟩ := hrel
    by_cases hlt : k < n
    · obtain ⟨b, off, x, rfl, hbl, hx, hc⟩ := HH.out.got (j := k) (by omega)
      have hc' : wr.cell? ⟨b, off + k, none⟩ = some (.int .i64 x) := (HB.out.cell (p := ⟨b, off + k, none⟩) hbl).trans hc
      have HX := Lib.hid hx
      clear hx hc
      have hcon := Lib.hid (text_any x (HT.out.on HB.out))
      go_wp2_with fail
      refine hcon.out.mono ?_
      rintro e w3 ⟨rfl, hb3⟩
      have HB3 := Lib.hid (HB.out.trans (hb3.mono HB.out.size))
      have HO3 := Lib.hid (HO.out.below hb3)
      clear hb3 hcon hc'
      cases hx1 : isC x with
      | true =>
        have HA' : Hid ((L.take (k + 1)).all isC = true) := by rw [Q.all_take HX.out, HA.out, hx1]; rfl
        have HF := Lib.hid (Q.flat_take HX.out)
        have hcon2 := Lib.hid (put_any HO3.out (Q.text_byte hx1) (by have h1 := small_of (k := k) hlen.out hn; have h2 := Q.text_le x; omega) HB3.out.size)
        rw [textV_ok hx1]
        clear hx1
        go_wp2_with fail
        refine hcon2.out.mono ?_
        rintro e w4 ⟨rfl, hb4, hbe4⟩
        have HB4 := Lib.hid (HB3.out.trans hbe4)
        have HO4 : Hid (Bld w4 w.heap.size w.heap.size (flatT (L.take (k + 1)))) := by rw [HF.out]; exact hb4
        clear hb4 hbe4 hcon2
        go_wp2_with fail
        go_roundw
        case rel => exact ⟨k + 1, by omega, by go_num, HA'.out, HO4.out, HB4.out⟩
        case measure => simp [intOf]; omega
      | false =>
        have HG := Lib.hid (textsP_bad HX.out hx1 HB3.out)
        rw [textV_no hx1]
        clear hx1
        go_wp2_with fail
        go_ret2
        exact HG.out
    · obtain rfl : k = n := by omega
      have HL : Hid (L.take k = L) := List.take_of_length_le (by rw [hlen.out]; omega)
      rw [HL.out] at HA HO
      have hcon := Lib.hid (got_any HO.out (Q.flat_byte HA.out) HB.out.size)
      go_wp2_with fail
      refine hcon.out.mono ?_
      rintro e w4 ⟨rfl, hb4⟩
      have HG := Lib.hid (textsP_ok HA.out (HB.out.trans hb4))
      clear hb4 hcon
      go_wp2_with fail
      go_ret2
      exact HG.out
set_option maxHeartbeats 2000000 in
theorem rtexts_any {w : World} {A : Option Addr} {n c : Nat} {L : List Int} (h : RdK .i64 w w.heap.size A n c L) (hn : n ≤ 10000) :
    Calls Tryd.prog 8 #[.slice A n c] w (TextsP w L) := by
  have hlen := Lib.hid h.len
  have hcap := h.cap
  have HH := Lib.hid h
  clear h
  go_enter Tryd.func8, Tryd.ntmps8
  go_wp2_with fail
  go_loopw [4, 5] (fun sv iv wx => ∃ k : Nat, k ≤ n ∧ iv = .int .i64 k ∧ sv = .string (strOfNums (flatT (L.take k))) ∧ Hid ((L.take k).all isC = true) ∧ Hid (Below w.heap.size w wx)) (fun _ iv _ => n - (intOf iv).toNat)
  case atStart => exact ⟨0, by omega, rfl, rfl, rfl, Below.refl _ _⟩
  case round =>
    obtain ⟨k, hk, rfl, rfl, HA, HB⟩ := hrel
    by_cases hlt : k < n
    · obtain ⟨b, off, x, rfl, hbl, hx, hc⟩ := HH.out.got (j := k) (by omega)
      have hc' : wr.cell? ⟨b, off + k, none⟩ = some (.int .i64 x) := (HB.out.cell (p := ⟨b, off + k, none⟩) hbl).trans hc
      have HX := Lib.hid hx
      clear hx hc
      have hcon := Lib.hid (rtext_any x wr)
      go_wp2_with fail
      refine hcon.out.mono ?_
      rintro e w3 ⟨rfl, hb3⟩
      have HB3 := Lib.hid (HB.out.trans (hb3.mono HB.out.size))
      clear hb3 hcon hc'
      cases hx1 : isC x with
      | true =>
        have HA' : Hid ((L.take (k + 1)).all isC = true) := by rw [Q.all_take HX.out, HA.out, hx1]; rfl
        have HF := Lib.hid (Q.flat_take HX.out)
        have hadd : ¬ 9223372036854775807 < (strOfNums (flatT (L.take k))).size + (strOfNums (textB x)).size := by
          rw [strOfNums_size, strOfNums_size]
          have h1 := small_of (k := k) hlen.out hn; have h2 := Q.text_le x; omega
        rw [textV_ok hx1]
        clear hx1
        go_wp2_with fail
        go_roundw
        case rel => exact ⟨k + 1, by omega, by go_num, by rw [HF.out, ← str_app], HA'.out, HB3.out⟩
        case measure => simp [intOf]; omega
      | false =>
        have HG := Lib.hid (textsP_bad HX.out hx1 HB3.out)
        rw [textV_no hx1]
        clear hx1
        go_wp2_with fail
        go_ret2
        exact HG.out
    · obtain rfl : k = n := by omega
      have HL : Hid (L.take k = L) := List.take_of_length_le (by rw [hlen.out]; omega)
      rw [HL.out] at HA ⊢
      have HG := Lib.hid (textsP_ok HA.out HB.out)
      go_wp2_with fail
      go_ret2
      exact HG.out
end Go.Proofs.YtcmbmhcilohecaaDoor
