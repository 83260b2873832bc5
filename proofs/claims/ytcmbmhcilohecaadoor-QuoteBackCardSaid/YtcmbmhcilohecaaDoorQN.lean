/- The fixed fact of layer 4. -/
import Derived.Test.YtcmbmhcilohecaaDoorQL
import Derived.Test.YtcmbmhcilohecaaDoorKInts
namespace Go.Proofs.YtcmbmhcilohecaaDoor
open Go.RowKit
open Q (isC plainB textB flatT textsV PIs)

theorem strIs_nums {S : List Int} (h : (S.all fun x => decide (0 ≤ x ∧ x < 256)) = true) : StrIs (strOfNums S) S := ⟨rfl, fun x hx => by have := List.all_eq_true.1 h x hx; simpa using this⟩
theorem fix_texts : textsV [97, 10, 55296] = ([97, 92, 117, 123, 97, 125, 92, 117, 123, 100, 56, 48, 48, 125], 0) := by decide
theorem fix_parse : PIs [97, 92, 117, 123, 97, 125, 92, 117, 123, 100, 56, 48, 48, 125] [97, 10, 55296] 0 := .ok _ (by decide) (by decide)
theorem fix_bad : PIs [92, 117, 123, 48, 97, 125] [] 15 := by
  refine Q.parse_bad (k := 0) (A := []) (by decide) rfl rfl fun c n h _ => ?_
  have e : Q.readS (List.drop 0 [92, 117, 123, 48, 97, 125]) 0 = .ok 10 6 := rfl
  rw [e] at h
  injection h with h1 h2
  subst h1 h2
  decide
theorem fix_read1 : readV [120, 92, 117, 123, 52, 49, 125] 1 = (65, 7, 0) := rfl
theorem fix_read2 : readV [92, 113] 0 = (0, 0, 6) := rfl
theorem fix_read3 : readV [92, 117, 123] 0 = (0, 0, 5) := rfl
theorem fix_text : textV 90 = ([90], 0) := by decide
set_option maxHeartbeats 4000000 in
set_option maxRecDepth 100000 in
theorem alive4_any {w : World} (hT : Tab w) : Calls Tryd.prog 6 #[] w (BooK w true) := by
  have HT := Lib.hid hT
  clear hT
  go_enter Tryd.func6, Tryd.ntmps6
  go_wp2_with fail
  refine (texts_any (rd_lit_k w _ rfl .i64 [97, 10, 55296] _ _ rfl (by decide)) (by decide) (HT.out.on (kbelow_push _ _))).mono ?_
  rintro e w1 ⟨rfl, hb1⟩
  rw [fix_texts]
  have HB1 := Lib.hid ((kbelow_push w _).trans (hb1.mono (by simp)))
  clear hb1
  go_wp2_with fail
  refine (parse_any (strIs_nums (S := [97, 92, 117, 123, 97, 125, 92, 117, 123, 100, 56, 48, 48, 125]) (by decide)) (by decide) (HT.out.on HB1.out)).mono ?_
  rintro e w2 ⟨A2, n2, c2, L2, x2, rfl, r2, hp, hb2⟩
  obtain ⟨rfl, rfl⟩ := hp.one fix_parse
  have HB2 := Lib.hid (HB1.out.trans (hb2.mono HB1.out.size))
  have R2 := Lib.hid r2
  clear hb2 r2 hp
  go_wp2_with fail
  refine (read_any (rd_lit_k w2 _ rfl .i64 [120, 92, 117, 123, 52, 49, 125] _ _ rfl (by decide)) 1).mono ?_
  rintro e w3 ⟨rfl, hb3⟩
  rw [fix_read1]
  have HS3 := Lib.hid ((kbelow_push w2 _).trans (hb3.mono (by simp)))
  have HB3 := Lib.hid (HB2.out.trans (HS3.out.mono HB2.out.size))
  have R3 := Lib.hid (R2.out.on HS3.out)
  clear hb3 R2 HS3
  go_wp2_with fail
  refine (read_any (rd_lit_k w3 _ rfl .i64 [92, 113] _ _ rfl (by decide)) 0).mono ?_
  rintro e w4 ⟨rfl, hb4⟩
  rw [fix_read2]
  have HS4 := Lib.hid ((kbelow_push w3 _).trans (hb4.mono (by simp)))
  have HB4 := Lib.hid (HB3.out.trans (HS4.out.mono HB3.out.size))
  have R4 := Lib.hid (R3.out.on HS4.out)
  clear hb4 R3 HS4
  go_wp2_with fail
  refine (read_any (rd_lit_k w4 _ rfl .i64 [92, 117, 123] _ _ rfl (by decide)) 0).mono ?_
  rintro e w5 ⟨rfl, hb5⟩
  rw [fix_read3]
  have HS5 := Lib.hid ((kbelow_push w4 _).trans (hb5.mono (by simp)))
  have HB5 := Lib.hid (HB4.out.trans (HS5.out.mono HB4.out.size))
  have R5 := Lib.hid (R4.out.on HS5.out)
  clear hb5 R4 HS5
  go_wp2_with fail
  refine (parse_any (s := ⟨#[92, 117, 123, 48, 97, 125]⟩) (strIs_nums (S := [92, 117, 123, 48, 97, 125]) (by decide)) (by decide) (HT.out.on HB5.out)).mono ?_
  rintro e w6 ⟨A6, n6, c6, L6, x6, rfl, _, hp, hb6⟩
  obtain ⟨rfl, rfl⟩ := hp.one fix_bad
  have HB6 := Lib.hid (HB5.out.trans (hb6.mono HB5.out.size))
  have R6 := Lib.hid (R5.out.on hb6)
  clear hb6 hp R5
  go_wp2_with fail
  refine (text_any 90 (HT.out.on HB6.out)).mono ?_
  rintro e w7 ⟨rfl, hb7⟩
  rw [fix_text]
  have HB7 := Lib.hid (HB6.out.trans (hb7.mono HB6.out.size))
  have R7 := Lib.hid (R6.out.on hb7)
  clear hb7 R6
  have hs1 : strOfNums [97, 92, 117, 123, 97, 125, 92, 117, 123, 100, 56, 48, 48, 125] = ⟨#[97, 92, 117, 123, 97, 125, 92, 117, 123, 100, 56, 48, 48, 125]⟩ := rfl
  have hs2 : strOfNums [90] = ⟨#[90]⟩ := rfl
  go_wp2_with fail
  refine (kints_yes (R7.out.push _) (rd_lit_k w7 _ rfl .i64 [97, 10, 55296] _ _ rfl (by decide)) rfl).mono ?_
  rintro e w8 ⟨rfl, hb8⟩
  have HB8 := Lib.hid (HB7.out.trans (((kbelow_push w7 _).trans (hb8.mono (by simp))).mono HB7.out.size))
  clear hb8 R7
  go_wp2_with fail
  refine (plain_any 122 _).mono ?_
  rintro e w9 ⟨rfl, rfl⟩
  have hp : plainB 122 = true := rfl
  rw [hp]
  clear hp
  go_wp2_with fail
  go_ret
  exact ⟨rfl, HB8.out⟩
end Go.Proofs.YtcmbmhcilohecaaDoor
