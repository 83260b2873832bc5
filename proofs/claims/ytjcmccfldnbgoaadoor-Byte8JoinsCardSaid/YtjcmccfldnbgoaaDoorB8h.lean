/- Byte8Reads, Byte8Writes and Byte8Lines, walked. -/
import Derived.Test.YtjcmccfldnbgoaaDoorB8g
namespace Go.Proofs.YtjcmccfldnbgoaaDoor
open Go.RowKit
open E (okb encB Fst Upto Dead DecIs offs encV lineF colF)

set_option maxHeartbeats 4000000 in
set_option maxRecDepth 100000 in
theorem reads_walk {w : World} {A : Option Addr} {n c : Nat} {L : List Int} (h : RdK .u8 w w.heap.size A n c L) (hb : Byt L) (hT : Tabs w) (at_ : Int) :
    Calls Tryd.prog 3 #[.slice A n c, .int .i64 at_] w (BooK w true) := by
  have hsm := h.small
  have H0 := Lib.hid h
  have HBy := Lib.hid hb
  have HT := Lib.hid hT
  clear h hb hT
  go_enter Tryd.func3, Tryd.ntmps3
  go_wp2_with fail
  refine (alive3_any HT.out).mono ?_
  rintro e w1 ⟨rfl, hb1⟩
  have HB1 := Lib.hid hb1
  clear hb1
  by_cases hn : n ≤ 4000
  · have hn' : ¬ (4000 : Int) < n := by omega
    have H1 := Lib.hid (H0.out.on HB1.out)
    go_wp2_with fail
    refine (decode_any H1.out HBy.out (HT.out.on HB1.out)).mono ?_
    rintro e w2 ⟨A1, A2, n1, c1, n2, c2, cs, ats, x1, e1, rfl, r1, r2, hd, hb2⟩
    have HD := Lib.hid hd
    have H2 := Lib.hid (H1.out.on hb2)
    have HB2 := Lib.hid (HB1.out.trans (hb2.mono HB1.out.size))
    have R1 := Lib.hid r1
    have R2 := Lib.hid r2
    clear hd hb2 r1 r2 H1 HB1
    go_wp2_with fail
    refine (rdecode_any H2.out HBy.out).mono ?_
    rintro e w3 ⟨A3, A4, n3, c3, n4, c4, cs', ats', x1', e1', rfl, r3, r4, hd, hb3⟩
    obtain ⟨rfl, rfl, rfl, rfl⟩ := hd.one HD.out
    have H3 := Lib.hid (H2.out.on hb3)
    have HB3 := Lib.hid (HB2.out.trans (hb3.mono HB2.out.size))
    have Q1 := Lib.hid (R1.out.on hb3)
    have Q2 := Lib.hid (R2.out.on hb3)
    have Q3 := Lib.hid r3
    have Q4 := Lib.hid r4
    clear hd HD hb3 r3 r4 R1 R2 H2 HB2
    go_wp2_with fail
    refine (first_any H3.out HBy.out (HT.out.on HB3.out)).mono ?_
    rintro e w4 ⟨d, k, rfl, hf, hb4⟩
    have HF := Lib.hid hf
    have H4 := Lib.hid (H3.out.on hb4)
    have HB4 := Lib.hid (HB3.out.trans (hb4.mono HB3.out.size))
    have R1 := Lib.hid (Q1.out.on hb4)
    have R2 := Lib.hid (Q2.out.on hb4)
    have R3 := Lib.hid (Q3.out.on hb4)
    have R4 := Lib.hid (Q4.out.on hb4)
    clear hf hb4 Q1 Q2 Q3 Q4 H3 HB3
    go_wp2_with fail
    refine (rfirst_any H4.out HBy.out).mono ?_
    rintro e w5 ⟨d', k', rfl, hf, hb5⟩
    obtain ⟨rfl, rfl⟩ := E.fst_one hf HF.out
    have H5 := Lib.hid (H4.out.on hb5)
    have HB5 := Lib.hid (HB4.out.trans (hb5.mono HB4.out.size))
    have Q1 := Lib.hid (R1.out.on hb5)
    have Q2 := Lib.hid (R2.out.on hb5)
    have Q3 := Lib.hid (R3.out.on hb5)
    have Q4 := Lib.hid (R4.out.on hb5)
    clear hf HF hb5 R1 R2 R3 R4 H4 HB4
    go_wp2_with fail
    refine (line_any H5.out HBy.out (by omega) at_).mono ?_
    rintro e w6 ⟨rfl, hb6⟩
    have H6 := Lib.hid (H5.out.on hb6)
    have HB6 := Lib.hid (HB5.out.trans (hb6.mono HB5.out.size))
    have R1 := Lib.hid (Q1.out.on hb6)
    have R2 := Lib.hid (Q2.out.on hb6)
    have R3 := Lib.hid (Q3.out.on hb6)
    have R4 := Lib.hid (Q4.out.on hb6)
    clear hb6 Q1 Q2 Q3 Q4 H5 HB5
    go_wp2_with fail
    refine (rline_any H6.out (by omega) at_).mono ?_
    rintro e w7 ⟨rfl, hb7⟩
    have HB7 := Lib.hid (HB6.out.trans (hb7.mono HB6.out.size))
    have Q1 := Lib.hid (R1.out.on hb7)
    have Q2 := Lib.hid (R2.out.on hb7)
    have Q3 := Lib.hid (R3.out.on hb7)
    have Q4 := Lib.hid (R4.out.on hb7)
    clear hb7 R1 R2 R3 R4 H6 HB6
    go_wp2_with fail
    refine (kints_yes Q1.out Q3.out rfl).mono ?_
    rintro e w8 ⟨rfl, hb8⟩
    have HB8 := Lib.hid (HB7.out.trans (hb8.mono HB7.out.size))
    have R2 := Lib.hid (Q2.out.on hb8)
    have R4 := Lib.hid (Q4.out.on hb8)
    clear hb8 Q1 Q2 Q3 Q4 HB7
    go_wp2_with fail
    refine (kints_yes R2.out R4.out rfl).mono ?_
    rintro e w9 ⟨rfl, hb9⟩
    have HB9 := Lib.hid (HB8.out.trans (hb9.mono HB8.out.size))
    clear hb9 R2 R4 HB8
    go_wp2_with fail
    go_ret
    exact ⟨rfl, HB9.out⟩
  · have hn' : (4000 : Int) < n := by omega
    go_wp2_with fail
    go_ret
    exact ⟨rfl, HB1.out⟩
theorem encV_byt (L : List Int) : Byt (encV L).1 := by
  unfold encV
  split
  · split
    · exact fun x hx => E.flat_byte hx
    · exact fun x hx => by cases hx
  · exact fun x hx => by cases hx
set_option maxHeartbeats 4000000 in
set_option maxRecDepth 100000 in
theorem writes_walk {w : World} {A : Option Addr} {n c : Nat} {L : List Int} (h : RdK .i64 w w.heap.size A n c L) (hT : Tabs w) :
    Calls Tryd.prog 4 #[.slice A n c] w (BooK w true) := by
  have hsm := h.small
  have H0 := Lib.hid h
  have HT := Lib.hid hT
  clear h hT
  go_enter Tryd.func4, Tryd.ntmps4
  go_wp2_with fail
  refine (alive3_any HT.out).mono ?_
  rintro e w1 ⟨rfl, hb1⟩
  have HB1 := Lib.hid hb1
  clear hb1
  by_cases hn : n ≤ 4000
  · have hn' : ¬ (4000 : Int) < n := by omega
    have H1 := Lib.hid (H0.out.on HB1.out)
    go_wp2_with fail
    refine (encode_any H1.out (by omega)).mono ?_
    rintro e w2 ⟨A1, n1, c1, rfl, r1, hb2⟩
    have H2 := Lib.hid (H1.out.on hb2)
    have HB2 := Lib.hid (HB1.out.trans (hb2.mono HB1.out.size))
    have R1 := Lib.hid r1
    clear hb2 r1 H1 HB1
    go_wp2_with fail
    refine (rencode_any H2.out (by omega)).mono ?_
    rintro e w3 ⟨A2, n2, c2, rfl, r2, hb3⟩
    have HB3 := Lib.hid (HB2.out.trans (hb3.mono HB2.out.size))
    have Q1 := Lib.hid (R1.out.on hb3)
    have Q2 := Lib.hid r2
    clear hb3 r2 R1 HB2 H2
    have q1 : (convert 22 9 (.slice A1 n1 c1)).run Tryd.prog w3 = .ok (.string (strOfNums (encV L).1)) w3 := conv_any Q1.out _ 5 _ Tryd.underlying22 Tryd.underlying5 Tryd.underlying9
    have q2 : (convert 22 9 (.slice A2 n2 c2)).run Tryd.prog w3 = .ok (.string (strOfNums (encV L).1)) w3 := conv_any Q2.out _ 5 _ Tryd.underlying22 Tryd.underlying5 Tryd.underlying9
    clear Q1 Q2
    go_wp2_with fail
    go_ret
    exact ⟨rfl, HB3.out⟩
  · have hn' : (4000 : Int) < n := by omega
    go_wp2_with fail
    go_ret
    exact ⟨rfl, HB1.out⟩
set_option maxHeartbeats 4000000 in
set_option maxRecDepth 100000 in
theorem lines_walk {w : World} {A : Option Addr} {n c : Nat} {L : List Int} (h : RdK .u8 w w.heap.size A n c L) (hb : Byt L) (hT : Tabs w) (x : Int) (hx0 : 0 ≤ x) (hx1 : x < 65536) :
    Calls Tryd.prog 6 #[.slice A n c, .int .u16 x] w (BooK w true) := by
  have hsm := h.small
  have H0 := Lib.hid h
  have HBy := Lib.hid hb
  have HT := Lib.hid hT
  have hlen := Lib.hid h.len
  clear h hb hT
  go_enter Tryd.func6, Tryd.ntmps6
  go_wp2_with fail
  refine (alive3_any HT.out).mono ?_
  rintro e w1 ⟨rfl, hb1⟩
  have HB1 := Lib.hid hb1
  clear hb1
  by_cases hn : n ≤ 1000
  · have hn' : ¬ (1000 : Int) < n := by omega
    by_cases h0 : n = 0
    · subst h0
      go_wp2_with fail
      go_ret
      exact ⟨rfl, HB1.out⟩
    · have g0 : ((n : Int) == 0) = false := beq_eq_false_iff_ne.2 (by omega)
      have H1 := Lib.hid (H0.out.on HB1.out)
      have hm0 : 0 ≤ x % (n : Int) := Int.emod_nonneg _ (by omega)
      have hm1 : x % (n : Int) < n := Int.emod_lt_of_pos _ (by omega)
      obtain ⟨k, hk⟩ : ∃ k : Nat, x % (n : Int) = k := ⟨(x % (n : Int)).toNat, by omega⟩
      have hkn : k < n := by omega
      clear hm0 hm1 h0
      obtain ⟨b, off, y, rfl, hbl, hy, hc⟩ := H0.out.got hkn
      have hts : L.take (k + 1) = L.take k ++ [y] := by
        obtain ⟨hj', he⟩ := List.getElem?_eq_some_iff.1 hy
        rw [List.take_succ_eq_append_getElem hj', he]
      have HLs := Lib.hid (E.line_snoc (L.take k) y)
      have HCs := Lib.hid (E.col_snoc (L.take k) y)
      rw [← hts] at HLs HCs
      have hlp := E.line_pos (L.take k)
      have hcp := E.col_pos (L.take k)
      have hln : (L.take k).length = k := by rw [List.length_take, hlen.out]; omega
      rw [hln] at hlp hcp
      have HV1 := Lib.hid (lineV_in (L := L) (k := k) (by rw [hlen.out]; omega))
      have HV2 : Hid (lineV L ((k : Int) + 1) = ((lineF (L.take (k + 1)) : Int), (colF (L.take (k + 1)) : Int))) := lineV_in (L := L) (k := k + 1) (by rw [hlen.out]; omega)
      have HC := Lib.hid hc
      clear hts hln hc hy
      go_wp2_with fail
      refine (line_any H1.out HBy.out (by omega) _).mono ?_
      rintro e w2 ⟨rfl, hb2⟩
      rw [HV1.out]
      have H2 := Lib.hid (H1.out.on hb2)
      have HB2 := Lib.hid (HB1.out.trans (hb2.mono HB1.out.size))
      clear hb2 H1 HB1 HV1
      go_wp2_with fail
      refine (line_any H2.out HBy.out (by omega) _).mono ?_
      rintro e w3 ⟨rfl, hb3⟩
      rw [HV2.out]
      have HB3 := Lib.hid (HB2.out.trans (hb3.mono HB2.out.size))
      have hc3 : w3.cell? ⟨b, off + k, none⟩ = some (.int .u8 y) := (HB3.out.cell (p := ⟨b, off + k, none⟩) hbl).trans HC.out
      clear hb3 H2 HB2 HV2
      by_cases hy : y = 10
      · subst hy
        rw [HLs.out, HCs.out, if_pos rfl, if_pos rfl]
        go_wp2_with fail
        go_ret
        exact ⟨rfl, HB3.out⟩
      · rw [HLs.out, HCs.out, if_neg hy, if_neg hy]
        have g1 : (y == 10) = false := by simpa using hy
        obtain ⟨l1, l2⟩ := hlp
        obtain ⟨l3, l4⟩ := hcp
        clear hy
        go_wp2_with fail
        go_ret
        refine ⟨?_, HB3.out⟩
        simp [Act.eval, results]; omega
  · have hn' : (1000 : Int) < n := by omega
    go_wp2_with fail
    go_ret
    exact ⟨rfl, HB1.out⟩
end Go.Proofs.YtjcmccfldnbgoaaDoor
