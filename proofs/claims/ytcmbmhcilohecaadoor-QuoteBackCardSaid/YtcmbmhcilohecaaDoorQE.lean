/- The program's text of a character, over strconv.FormatInt. -/
import Derived.Test.YtcmbmhcilohecaaDoorQD
namespace Go.Proofs.YtcmbmhcilohecaaDoor
open Go.RowKit
open Q (isC plainB digV hexF dig textB)

def StrB (w : World) (L : List Int) (e : Ending) (w' : World) : Prop := e = .returned (.string (strOfNums L)) ∧ Below w.heap.size w w'
theorem fmt_in {w : World} (hT : Tab w) {n : Int} (h0 : 0 ≤ n) (h1 : n ≤ 1114111) : Calls Tryd.prog 24 #[.int .i64 n, .int .i64 16] w (StrB w (hexF 6 n)) := by
  have HT := Lib.hid hT
  clear hT
  have g0 : ¬ n < 0 := by omega
  go_enter Tryd.func24, Tryd.ntmps24
  go_wp2_with fail
  refine (bits_any HT.out h0 h1).mono ?_
  rintro e w1 ⟨rfl, hb⟩
  have HB := Lib.hid hb
  clear hb
  go_wp2_with fail
  go_ret
  exact ⟨rfl, HB.out⟩
theorem fmt_any {w : World} (hT : Tab w) {n : Int} (h0 : 0 ≤ n) (h1 : n ≤ 1114111) : Calls Tryd.prog 19 #[.int .i64 n, .int .i64 16] w (StrB w (hexF 6 n)) := by
  have HT := Lib.hid hT
  clear hT
  go_enter Tryd.func19, Tryd.ntmps19
  go_wp2_with fail
  refine (fmt_in HT.out h0 h1).mono ?_
  rintro e w1 ⟨rfl, hb⟩
  have HB := Lib.hid hb
  clear hb
  go_wp2_with fail
  go_ret
  exact ⟨rfl, HB.out⟩
theorem rune_one {c : Int} (h0 : 48 ≤ c) (h1 : c ≤ 122) : Utf8.encode c = strOfNums [c] := by
  have hv : Utf8.valid c = true := by unfold Utf8.valid; simp; omega
  unfold Utf8.encode
  simp only [hv, if_true]
  rw [if_pos (by omega)]
  rfl
set_option maxHeartbeats 1000000 in
theorem text_any (c : Int) {w : World} (hT : Tab w) : Calls Tryd.prog 9 #[.int .i64 c] w (TextP w c) := by
  have HT := Lib.hid hT
  clear hT
  have hcon0 := Lib.hid (isc_any c w)
  cases h : isC c with
  | false =>
    rw [h] at hcon0
    have HG := Lib.hid (textP_no (w := w) h)
    clear h
    go_enter Tryd.func9, Tryd.ntmps9
    go_wp2_with fail
    refine hcon0.out.mono ?_
    rintro e w1 ⟨rfl, rfl⟩
    go_wp2_with fail
    go_ret2
    exact HG.out
  | true =>
    rw [h] at hcon0
    have h' := (Q.isC_iff c).1 h
    have h0 := h'.1
    have h1 := h'.2
    have HC := Lib.hid h
    clear h h'
    have hcon := Lib.hid (plain_any c w)
    cases hp : plainB c with
    | true =>
      rw [hp] at hcon
      have hpb := (Q.plain_iff c).1 hp
      have c0 : 48 ≤ c := by omega
      have c1 : c ≤ 122 := by omega
      have HP := Lib.hid hp
      clear hp hpb
      have g1 := rune_one c0 c1
      go_enter Tryd.func9, Tryd.ntmps9
      go_wp2_with fail
      refine hcon0.out.mono ?_
      rintro e w1 ⟨rfl, rfl⟩
      go_wp2_with fail
      refine hcon.out.mono ?_
      rintro e w1 ⟨rfl, rfl⟩
      go_wp2_with fail
      go_ret2
      exact textP_plain HC.out HP.out (Below.refl _ _)
    | false =>
      rw [hp] at hcon
      have HP := Lib.hid hp
      clear hp
      have hl := Q.hex_len 6 c
      have hadd : ¬ 9223372036854775807 < 3 + (strOfNums (hexF 6 c)).size := by rw [strOfNums_size]; omega
      have hadd2 : ¬ 9223372036854775807 < 3 + (strOfNums (hexF 6 c)).size + 1 := by rw [strOfNums_size]; omega
      clear hl
      go_enter Tryd.func9, Tryd.ntmps9
      go_wp2_with fail
      refine hcon0.out.mono ?_
      rintro e w1 ⟨rfl, rfl⟩
      go_wp2_with fail
      refine hcon.out.mono ?_
      rintro e w1 ⟨rfl, rfl⟩
      go_wp2_with fail
      refine (fmt_any HT.out h0 h1).mono ?_
      rintro e w1 ⟨rfl, hb⟩
      have HB := Lib.hid hb
      clear hb
      go_wp2_with fail
      go_ret2
      exact textP_esc HC.out HP.out HB.out
end Go.Proofs.YtcmbmhcilohecaaDoor
