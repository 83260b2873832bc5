/- QuoteWrites and QuoteJoins, walked. -/
import Derived.Test.YtcmbmhcilohecaaDoorQN
namespace Go.Proofs.YtcmbmhcilohecaaDoor
open Go.RowKit
open Q (isC plainB textB flatT textsV PIs)

theorem textsV_byt (L : List Int) : ∀ x ∈ (textsV L).1, 0 ≤ x ∧ x < 256 := by
  unfold Q.textsV
  split
  · rename_i h; exact fun x hx => by have := Q.flat_byte h x hx; omega
  · exact fun x hx => by cases hx
theorem textV_byt (c : Int) : ∀ x ∈ (textV c).1, 0 ≤ x ∧ x < 256 := by
  unfold textV
  split
  · rename_i h; exact fun x hx => by have := Q.text_byte h x hx; omega
  · exact fun x hx => by cases hx
set_option maxHeartbeats 4000000 in
set_option maxRecDepth 100000 in
theorem qwrites_walk {w : World} {A : Option Addr} {n c : Nat} {L : List Int} (h : RdK .i64 w w.heap.size A n c L) (hT : Tab w) (x : Int) :
    Calls Tryd.prog 3 #[.slice A n c, .int .i64 x] w (BooK w true) := by
  have hsm := h.small
  have H0 := Lib.hid h
  have HT := Lib.hid hT
  clear h hT
  go_enter Tryd.func3, Tryd.ntmps3
  go_wp2_with fail
  refine (alive4_any HT.out).mono ?_
  rintro e w1 ⟨rfl, hb1⟩
  have HB1 := Lib.hid hb1
  clear hb1
  by_cases hn : n ≤ 1000
  · have hn' : ¬ (1000 : Int) < n := by omega
    have H1 := Lib.hid (H0.out.on HB1.out)
    go_wp2_with fail
    refine (texts_any H1.out (by omega) (HT.out.on HB1.out)).mono ?_
    rintro e w2 ⟨rfl, hb2⟩
    have H2 := Lib.hid (H1.out.on hb2)
    have HB2 := Lib.hid (HB1.out.trans (hb2.mono HB1.out.size))
    clear hb2 H1 HB1
    go_wp2_with fail
    refine (rtexts_any H2.out (by omega)).mono ?_
    rintro e w3 ⟨rfl, hb3⟩
    have HB3 := Lib.hid (HB2.out.trans (hb3.mono HB2.out.size))
    clear hb3 H2 HB2
    go_wp2_with fail
    refine (text_any x (HT.out.on HB3.out)).mono ?_
    rintro e w4 ⟨rfl, hb4⟩
    have HB4 := Lib.hid (HB3.out.trans (hb4.mono HB3.out.size))
    clear hb4 HB3
    go_wp2_with fail
    refine (rtext_any x _).mono ?_
    rintro e w5 ⟨rfl, hb5⟩
    have HB5 := Lib.hid (HB4.out.trans (hb5.mono HB4.out.size))
    clear hb5 HB4
    generalize (textsV L).1 = t1
    generalize (textsV L).2 = t2
    generalize (textV x).1 = t3
    generalize (textV x).2 = t4
    go_wp2_with fail
    refine (plain_any x _).mono ?_
    rintro e w6 ⟨rfl, rfl⟩
    go_wp2_with fail
    refine (rplain_any x _).mono ?_
    rintro e w6 ⟨rfl, rfl⟩
    generalize plainB x = pb
    have g1 : (pb == pb) = true := by simp
    go_wp2_with fail
    go_ret
    exact ⟨rfl, HB5.out⟩
  · have hn' : (1000 : Int) < n := by omega
    go_wp2_with fail
    go_ret
    exact ⟨rfl, HB1.out⟩
theorem textsV_no {L : List Int} (h : L.all isC = false) : textsV L = ([], 1) := by unfold Q.textsV; rw [if_neg (by rw [h]; decide)]
set_option maxHeartbeats 4000000 in
set_option maxRecDepth 100000 in
theorem qjoins_walk {w : World} {A : Option Addr} {n c : Nat} {L : List Int} (h : RdK .i64 w w.heap.size A n c L) {B : Option Addr} {m d : Nat} {M : List Int} (k : RdK .i64 w w.heap.size B m d M) (hT : Tab w) :
    Calls Tryd.prog 5 #[.slice A n c, .slice B m d] w (BooK w true) := by
  have hsm := h.small
  have ksm := k.small
  have H0 := Lib.hid h
  have K0 := Lib.hid k
  have HT := Lib.hid hT
  clear h hT k
  go_enter Tryd.func5, Tryd.ntmps5
  go_wp2_with fail
  refine (alive4_any HT.out).mono ?_
  rintro e w1 ⟨rfl, hb1⟩
  have HB1 := Lib.hid hb1
  clear hb1
  by_cases hn : n ≤ 500
  · have hn' : ¬ (500 : Int) < n := by omega
    by_cases km : m ≤ 500
    · have km' : ¬ (500 : Int) < m := by omega
      have H1 := Lib.hid (H0.out.on HB1.out)
      have K1 := Lib.hid (K0.out.on HB1.out)
      clear H0 K0
      go_wp2_with fail
      refine (texts_any H1.out (by omega) (HT.out.on HB1.out)).mono ?_
      rintro e w2 ⟨rfl, hb2⟩
      have H2 := Lib.hid (H1.out.on hb2)
      have K2 := Lib.hid (K1.out.on hb2)
      have HB2 := Lib.hid (HB1.out.trans (hb2.mono HB1.out.size))
      clear hb2 H1 HB1 K1
      go_wp2_with fail
      refine (texts_any K2.out (by omega) (HT.out.on HB2.out)).mono ?_
      rintro e w3 ⟨rfl, hb3⟩
      have H3 := Lib.hid (H2.out.on hb3)
      have K3 := Lib.hid (K2.out.on hb3)
      have HB3 := Lib.hid (HB2.out.trans (hb3.mono HB2.out.size))
      clear hb3 H2 HB2 K2
      have hsz0 : w3.heap.size ≤ (w3.alloc (.cells #[] 3)).heap.size := (kbelow_push w3 _).size
      go_wp2_with (at_builtin; refine app_rd .i64 rfl _ _ 22 rfl w3.heap.size 3 8 Tryd.underlying22 info_i64q (by decide) _ _ _ rfl (own_lit0 .i64 w3 w3.heap.size 3 (Nat.le_refl _)) _ _ _ _ _ rfl (H3.out.push _) (by omega) hsz0 ?_)
      intro v4 w4 ho4 hg4 _
      have HB4 := Lib.hid (below_grown (kbelow_push w3 (.cells #[] 3)) hg4 fun i hi => ((own_lit0 .i64 w3 w3.heap.size 3 (Nat.le_refl _)).block i hi).1)
      have HO4 := Lib.hid ho4
      have K4 := Lib.hid (K3.out.on HB4.out)
      have HW4 := Lib.hid (HB3.out.trans (HB4.out.mono HB3.out.size))
      clear ho4 hg4
      go_wp2_with (at_builtin; refine app_rd .i64 rfl _ _ 22 rfl w3.heap.size 3 8 Tryd.underlying22 info_i64q (by decide) _ _ _ rfl HO4.out _ _ _ _ _ rfl K4.out (by omega) HB4.out.size ?_)
      intro v5 w5 ho5 hg5 _
      have HB5 := Lib.hid (below_grown HB4.out hg5 fun i hi => (HO4.out.block i hi).1)
      have HW5 := Lib.hid (HB3.out.trans (HB5.out.mono HB3.out.size))
      obtain ⟨A5, c5, rfl, hr5⟩ := ho5.rd
      have R5 := Lib.hid hr5
      clear ho5 hg5 hr5
      go_wp2_with fail
      refine (texts_any R5.out (by omega) (HT.out.on HW5.out)).mono ?_
      rintro e w6 ⟨rfl, hb6⟩
      have HB6 := Lib.hid (HW5.out.trans (hb6.mono HW5.out.size))
      clear hb6
      cases hL : L.all isC with
      | false =>
        have e1 : textsV (L ++ M) = ([], 1) := textsV_no (by rw [List.all_append, hL]; rfl)
        rw [e1, textsV_no hL]
        clear e1 hL
        have hs : strOfNums [] = ⟨#[]⟩ := rfl
        rw [hs]
        clear hs
        go_wp2_with fail
        go_ret
        exact ⟨rfl, HB6.out⟩
      | true =>
        cases hM : M.all isC with
        | false =>
          have e1 : textsV (L ++ M) = ([], 1) := textsV_no (by rw [List.all_append, hM]; simp)
          rw [e1, textsV_no hM, Q.textsV_ok hL]
          clear e1 hL hM
          have hs : strOfNums [] = ⟨#[]⟩ := rfl
          rw [hs]
          clear hs
          go_wp2_with fail
          go_ret
          exact ⟨rfl, HB6.out⟩
        | true =>
          have e1 : textsV (L ++ M) = (flatT L ++ flatT M, 0) := by rw [Q.textsV_ok (by rw [List.all_append, hL, hM]; rfl), Q.flat_app]
          have hl1 : (flatT L).length ≤ 5000 := by have h1 := Q.flat_small L; have h2 := H3.out.len; omega
          have hl2 : (flatT M).length ≤ 5000 := by have h1 := Q.flat_small M; have h2 := K3.out.len; omega
          rw [e1, Q.textsV_ok hL, Q.textsV_ok hM]
          clear e1 hL hM
          generalize flatT L = tl at hl1 ⊢
          generalize flatT M = tm at hl2 ⊢
          have hadd : ¬ 9223372036854775807 < (strOfNums tl).size + (strOfNums tm).size := by rw [strOfNums_size, strOfNums_size]; omega
          have happ := str_app tl tm
          go_wp2_with fail
          go_ret
          exact ⟨rfl, HB6.out⟩
    · have km' : (500 : Int) < m := by omega
      go_wp2_with fail
      go_ret
      exact ⟨rfl, HB1.out⟩
  · have hn' : (500 : Int) < n := by omega
    go_wp2_with fail
    go_ret
    exact ⟨rfl, HB1.out⟩
end Go.Proofs.YtcmbmhcilohecaaDoor
