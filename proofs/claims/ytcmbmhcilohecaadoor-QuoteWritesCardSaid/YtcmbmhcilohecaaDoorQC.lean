/- The text of a character: the document's, and the program's over strconv.FormatInt at base 16. -/
import Derived.Test.YtcmbmhcilohecaaDoorQB
namespace Go.Proofs.YtcmbmhcilohecaaDoor
open Go.RowKit
open Q (isC plainB digV hexF dig textB)

/-- What Text answers. -/
def textV (c : Int) : List Int × Int := if isC c then (textB c, 0) else ([], 1)
def TextP (w : World) (c : Int) (e : Ending) (w' : World) : Prop := e = .returned (.tuple #[.string (strOfNums (textV c).1), .int .i64 (textV c).2]) ∧ Below w.heap.size w w'
theorem textP_no {w : World} {c : Int} (h : isC c = false) : TextP w c (.returned (.tuple #[.string ⟨#[]⟩, .int .i64 1])) w := ⟨by unfold textV; rw [h]; rfl, Below.refl _ _⟩
theorem textP_plain {w w' : World} {c : Int} (h : isC c = true) (hp : plainB c = true) (hb : Below w.heap.size w w') : TextP w c (.returned (.tuple #[.string (strOfNums [c]), .int .i64 0])) w' := ⟨by unfold textV; rw [h, Q.text_plain hp]; rfl, hb⟩
theorem textP_esc {w w' : World} {c : Int} (h : isC c = true) (hp : plainB c = false) (hb : Below w.heap.size w w') : TextP w c (.returned (.tuple #[.string (⟨#[92, 117, 123]⟩ ++ strOfNums (hexF 6 c) ++ ⟨#[125]⟩), .int .i64 0])) w' := by
  refine ⟨?_, hb⟩
  unfold textV
  rw [h, Q.text_esc hp]
  have e1 : (⟨#[92, 117, 123]⟩ : ByteArray) = strOfNums [92, 117, 123] := rfl
  have e2 : (⟨#[125]⟩ : ByteArray) = strOfNums [125] := rfl
  rw [e1, e2, str_app, str_app]
  rfl
set_option maxHeartbeats 1000000 in
theorem rtext_any (c : Int) (w : World) : Calls Tryd.prog 10 #[.int .i64 c] w (TextP w c) := by
  cases h : isC c with
  | false =>
    have HG := Lib.hid (textP_no (w := w) h)
    have h' : ¬ (0 ≤ c ∧ c ≤ 1114111) := by rw [← Q.isC_iff, h]; simp
    clear h
    by_cases h1 : c < 0
    · clear h'
      go_enter Tryd.func10, Tryd.ntmps10
      go_wp2
      go_ret2
      exact HG.out
    · have h2 : 1114111 < c := by omega
      clear h'
      go_enter Tryd.func10, Tryd.ntmps10
      go_wp2
      go_ret2
      exact HG.out
  | true =>
    have h' := (Q.isC_iff c).1 h
    have h0 := h'.1
    have h1 := h'.2
    have HC := Lib.hid h
    clear h h'
    have hcon := Lib.hid (rplain_any c w)
    cases hp : plainB c with
    | true =>
      rw [hp] at hcon
      have hpb := (Q.plain_iff c).1 hp
      have c0 : 48 ≤ c := by omega
      have c1 : c ≤ 122 := by omega
      have HP := Lib.hid hp
      clear hp hpb
      have q1 : (convert 37 9 (.slice (some ⟨w.heap.size, 0, none⟩) 1 1)).run Tryd.prog (w.alloc (.cells #[.int .u8 c] 5)) = .ok (.string (strOfNums [c])) (w.alloc (.cells #[.int .u8 c] 5)) :=
        conv_any (rd_lit_k w w.heap.size rfl .u8 [c] 5 _ rfl (by simp)) _ 5 _ Tryd.underlying37 Tryd.underlying5 Tryd.underlying9
      go_enter Tryd.func10, Tryd.ntmps10
      go_wp2_with fail
      refine hcon.out.mono ?_
      rintro e w1 ⟨rfl, rfl⟩
      go_wp2_with fail
      go_ret2
      exact textP_plain HC.out HP.out (kbelow_push _ _)
    | false =>
      rw [hp] at hcon
      have HP := Lib.hid hp
      clear hp
      have hcon2 := Lib.hid (hex_any 5 c w h0 (Q.top_lt HC.out).2 h1 (by decide))
      have hl := Q.hex_len 6 c
      have hadd : ¬ 9223372036854775807 < 3 + (strOfNums (hexF 6 c)).size := by rw [strOfNums_size]; omega
      have hadd2 : ¬ 9223372036854775807 < 3 + (strOfNums (hexF 6 c)).size + 1 := by rw [strOfNums_size]; omega
      clear hl
      go_enter Tryd.func10, Tryd.ntmps10
      go_wp2_with fail
      refine hcon.out.mono ?_
      rintro e w1 ⟨rfl, rfl⟩
      go_wp2_with fail
      refine hcon2.out.mono ?_
      rintro e w1 ⟨rfl, q, rfl⟩
      go_wp2_with fail
      go_ret2
      exact textP_esc HC.out HP.out (kbelow_drewN (Below.refl _ _) _)
/-- The one cell of the table of math/bits that is looked at. -/
def Tab (w : World) : Prop := w.cell? ⟨2, 15, none⟩ = some (.int .u8 4)
theorem Tab.on {w w' : World} (h : Tab w) (hb : Below w.heap.size w w') : Tab w' := (hb.cell (p := ⟨2, 15, none⟩) (klt_of_cell h)).trans h
theorem tz_any {w : World} (h : Tab w) : Calls Tryd.prog 40 #[.int .u64 16] w fun e w' => e = .returned (.int .i64 4) ∧ w = w' := by
  unfold Tab at h
  have g1 : bits BinOp.and IntKind.u64 16 (IntKind.u64.wrap (-16)) = 16 := by decide
  have g2 : IntKind.u64.wrap (16 * 285870213051353865) / 288230376151711744 = 15 := by decide
  go_enter Tryd.func40, Tryd.ntmps40
  go_wp2
  go_ret
  exact ⟨rfl, rfl⟩
theorem tz2_any {w : World} (h : Tab w) : Calls Tryd.prog 37 #[.int .u64 16] w fun e w' => e = .returned (.int .i64 4) ∧ w = w' := by
  have HC := Lib.hid (tz_any h)
  clear h
  go_enter Tryd.func37, Tryd.ntmps37
  go_wp2_with fail
  refine HC.out.mono ?_
  rintro e w1 ⟨rfl, rfl⟩
  go_wp2
  go_ret
  exact ⟨rfl, rfl⟩
theorem two_any (w : World) : Calls Tryd.prog 36 #[.int .i64 16] w fun e w' => e = .returned (.bool true) ∧ w = w' := by
  go_enter Tryd.func36, Tryd.ntmps36
  go_wp2
  go_ret
  exact ⟨rfl, rfl⟩
end Go.Proofs.YtcmbmhcilohecaaDoor
