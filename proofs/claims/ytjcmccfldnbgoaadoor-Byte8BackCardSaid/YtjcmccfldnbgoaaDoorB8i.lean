/- Byte8Back, walked. -/
import Derived.Test.YtjcmccfldnbgoaaDoorB8h
namespace Go.Proofs.YtjcmccfldnbgoaaDoor
open Go.RowKit
open E (okb encB Fst Upto Dead DecIs offs encV flat)

theorem upto_take {b : List Int} {p : Nat} {cs : List Int} (h : Upto b p cs) : Upto (b.take p) (b.take p).length cs := by
  refine ⟨h.ok, ?_, Nat.le_refl _⟩
  rw [List.take_length]; exact h.eq
theorem upto_flat {l : List Int} (h : l.all okb = true) : Upto (flat l) (flat l).length l :=
  ⟨List.all_eq_true.1 h, List.take_length, Nat.le_refl _⟩
theorem whole_any {w : World} {A : Option Addr} {n c : Nat} {L cs : List Int} (h : RdK .u8 w w.heap.size A n c L) (hb : Byt L) (hT : Tabs w) (hl : L.length ≤ 3000) (hu : Upto L L.length cs) :
    Calls Tryd.prog 18 #[.slice A n c] w (BooK w true) := by
  have hcon := Lib.hid (decode_any h hb hT)
  have HD := Lib.hid (DecIs.ok cs hl hu)
  clear h hb hT hl hu
  go_enter Tryd.func18, Tryd.ntmps18
  go_wp2_with fail
  refine hcon.out.mono ?_
  rintro e w1 ⟨A1, A2, n1, c1, n2, c2, cs', ats, x1, e1, rfl, r1, r2, hd, hb1⟩
  obtain ⟨rfl, rfl, rfl, rfl⟩ := hd.one HD.out
  have HB1 := Lib.hid hb1
  clear hd hb1 r1 r2
  go_wp2_with fail
  go_ret
  exact ⟨rfl, HB1.out⟩
set_option maxHeartbeats 4000000 in
set_option maxRecDepth 100000 in
theorem back_walk {w : World} {A AB : Option Addr} {n c m cB : Nat} {L M : List Int} (h : RdK .i64 w w.heap.size A n c L) (h' : RdK .u8 w w.heap.size AB m cB M) (hb : Byt M) (hT : Tabs w) :
    Calls Tryd.prog 5 #[.slice A n c, .slice AB m cB] w (BooK w true) := by
  have hsm := h.small
  have hsm' := h'.small
  have H0 := Lib.hid h
  have H0' := Lib.hid h'
  have HBy := Lib.hid hb
  have HT := Lib.hid hT
  have HLB := Lib.hid h'.len
  have HLA := Lib.hid h.len
  clear h h' hb hT
  go_enter Tryd.func5, Tryd.ntmps5
  go_wp2_with fail
  refine (alive3_any HT.out).mono ?_
  rintro e w1 ⟨rfl, hb1⟩
  have HB1 := Lib.hid hb1
  clear hb1
  by_cases hn : n ≤ 4000
  · have hn' : ¬ (4000 : Int) < n := by omega
    by_cases hm : m ≤ 4000
    · have hm' : ¬ (4000 : Int) < m := by omega
      have H1 := Lib.hid (H0.out.on HB1.out)
      have H1' := Lib.hid (H0'.out.on HB1.out)
      go_wp2_with fail
      refine (encode_any H1.out (by omega)).mono ?_
      rintro e w2 ⟨A1, n1, c1, rfl, r1, hb2⟩
      have H2 := Lib.hid (H1.out.on hb2)
      have H2' := Lib.hid (H1'.out.on hb2)
      have HB2 := Lib.hid (HB1.out.trans (hb2.mono HB1.out.size))
      have R1 := Lib.hid r1
      clear hb2 r1 H1 H1' HB1
      by_cases hok : (L.all okb) = true ∧ (flat L).length ≤ 3000
      · have hev := E.encV_ok hok.1 hok.2
        rw [hev] at R1 ⊢
        have HD := Lib.hid (DecIs.ok L hok.2 (upto_flat hok.1))
        have hfb : Byt (flat L) := fun x hx => E.flat_byte hx
        have HFB := Lib.hid hfb
        have hn1 : n1 = (flat L).length := R1.out.len.symm
        have hn1' : n1 ≤ 3000 := by omega
        have HN1 := Lib.hid hn1
        clear hev hok hfb hn1
        go_wp2_with fail
        refine (decode_any R1.out HFB.out (HT.out.on HB2.out)).mono ?_
        rintro e w3 ⟨A3, A4, n3, c3, n4, c4, cs, ats, x3, e3, rfl, r3, r4, hd, hb3⟩
        obtain ⟨rfl, rfl, rfl, rfl⟩ := hd.one HD.out
        have H3 := Lib.hid (H2.out.on hb3)
        have H3' := Lib.hid (H2'.out.on hb3)
        have HB3 := Lib.hid (HB2.out.trans (hb3.mono HB2.out.size))
        have R3 := Lib.hid r3
        have R4 := Lib.hid r4
        clear hd HD hb3 r3 r4 H2 H2' HB2
        go_wp2_with fail
        refine (kints_yes R3.out H3.out rfl).mono ?_
        rintro e w4 ⟨rfl, hb4⟩
        have RB := Lib.hid (H3'.out.on hb4)
        have HBW := Lib.hid (HB3.out.trans (hb4.mono HB3.out.size))
        have hn4 : n4 = n + 1 := by have := R4.out.len; rw [List.length_append, E.offs_len, HLA.out] at this; simpa using this.symm
        subst hn4
        obtain ⟨b4, o4, y, rfl, hbl4, hy, hc4⟩ := (R4.out.on hb4).got (j := n) (by omega)
        have hye : y = (n1 : Int) := by
          rw [List.getElem?_append_right (by rw [E.offs_len, HLA.out]; omega), E.offs_len, HLA.out, Nat.sub_self] at hy
          simp at hy
          rw [HN1.out]; exact hy.symm
        subst hye
        clear hb4 hy H3 H3' R3 R4 HB3 HN1 R1
        have hlt : (n : Int) < (n : Int) + 1 := by omega
        go_wp2_with fail
        refine (decode_any RB.out HBy.out (HT.out.on HBW.out)).mono ?_
        rintro e w5 ⟨A5, A6, n5, c5, n6, c6, cs, ats, x5, e5, rfl, r5, r6, hd, hb5⟩
        have RB5 := Lib.hid (RB.out.on hb5)
        have HB5 := Lib.hid (HBW.out.trans (hb5.mono HBW.out.size))
        have R5 := Lib.hid r5
        clear hb5 r5 r6
        cases hd with
        | long hl =>
          obtain rfl : n5 = 0 := R5.out.len.symm
          clear hl
          go_wp2_with fail
          go_ret
          exact ⟨rfl, HB5.out⟩
        | bad p ds hl hp hu hdd =>
          obtain rfl : n5 = 0 := R5.out.len.symm
          have hp' : p < m := by rw [HLB.out] at hp; exact hp
          have hpi : (p : Int) < m := by omega
          have hpc : p ≤ cB := by have := RB5.out.cap; omega
          have hcon := Lib.hid (whole_any (RB5.out.take (Nat.le_of_lt hp')) (HBy.out.take p) (HT.out.on HB5.out) (by rw [List.length_take]; omega) (upto_take hu))
          clear hl hp hu hdd
          go_wp2_with fail
          refine hcon.out.mono ?_
          rintro e w6 ⟨rfl, hb6⟩
          have HB6 := Lib.hid (HB5.out.trans (hb6.mono HB5.out.size))
          clear hb6 hcon
          go_wp2_with fail
          go_ret
          exact ⟨rfl, HB6.out⟩
        | ok _ hl hu =>
          have hev : encV cs = (M, 0) := by
            have e1 : E.flat cs = M := by have := hu.eq; rw [List.take_length] at this; exact this.symm
            rw [E.encV_ok (List.all_eq_true.2 hu.ok) (by rw [e1]; exact hl), e1]
          have hn5 : n5 ≤ 1000000 := by have h1 := hu.few; have h2 := R5.out.len; omega
          have HEV := Lib.hid hev
          clear hev hl hu
          go_wp2_with fail
          refine (encode_any R5.out hn5).mono ?_
          rintro e w6 ⟨A7, n7, c7, rfl, r7, hb6⟩
          rw [HEV.out] at r7 ⊢
          have RB6 := Lib.hid (RB5.out.on hb6)
          have HB6 := Lib.hid (HB5.out.trans (hb6.mono HB5.out.size))
          have q1 : (convert 22 9 (.slice A7 n7 c7)).run Tryd.prog w6 = .ok (.string (strOfNums M)) w6 := conv_any r7 _ 5 _ Tryd.underlying22 Tryd.underlying5 Tryd.underlying9
          have q2 : (convert 22 9 (.slice AB m cB)).run Tryd.prog w6 = .ok (.string (strOfNums M)) w6 := conv_any RB6.out _ 5 _ Tryd.underlying22 Tryd.underlying5 Tryd.underlying9
          clear hb6 r7
          go_wp2_with fail
          go_ret
          exact ⟨rfl, HB6.out⟩
      · have hen : (encV L).2 = 2 ∨ (encV L).2 = 3 := by
          unfold E.encV
          by_cases h1 : L.all okb = true
          · rw [if_pos h1, if_neg (fun h2 => hok ⟨h1, h2⟩)]; exact Or.inl rfl
          · rw [if_neg h1]; exact Or.inr rfl
        generalize (encV L).2 = en at *
        have RB := H2'
        have HBW := HB2
        clear hok R1
        rcases hen with rfl | rfl
        · go_wp2_with fail
          refine (decode_any RB.out HBy.out (HT.out.on HBW.out)).mono ?_
          rintro e w5 ⟨A5, A6, n5, c5, n6, c6, cs, ats, x5, e5, rfl, r5, r6, hd, hb5⟩
          have RB5 := Lib.hid (RB.out.on hb5)
          have HB5 := Lib.hid (HBW.out.trans (hb5.mono HBW.out.size))
          have R5 := Lib.hid r5
          clear hb5 r5 r6
          cases hd with
          | long hl =>
            obtain rfl : n5 = 0 := R5.out.len.symm
            clear hl
            go_wp2_with fail
            go_ret
            exact ⟨rfl, HB5.out⟩
          | bad p ds hl hp hu hdd =>
            obtain rfl : n5 = 0 := R5.out.len.symm
            have hp' : p < m := by rw [HLB.out] at hp; exact hp
            have hpi : (p : Int) < m := by omega
            have hpc : p ≤ cB := by have := RB5.out.cap; omega
            have hcon := Lib.hid (whole_any (RB5.out.take (Nat.le_of_lt hp')) (HBy.out.take p) (HT.out.on HB5.out) (by rw [List.length_take]; omega) (upto_take hu))
            clear hl hp hu hdd
            go_wp2_with fail
            refine hcon.out.mono ?_
            rintro e w6 ⟨rfl, hb6⟩
            have HB6 := Lib.hid (HB5.out.trans (hb6.mono HB5.out.size))
            clear hb6 hcon
            go_wp2_with fail
            go_ret
            exact ⟨rfl, HB6.out⟩
          | ok _ hl hu =>
            have hev : encV cs = (M, 0) := by
              have e1 : E.flat cs = M := by have := hu.eq; rw [List.take_length] at this; exact this.symm
              rw [E.encV_ok (List.all_eq_true.2 hu.ok) (by rw [e1]; exact hl), e1]
            have hn5 : n5 ≤ 1000000 := by have h1 := hu.few; have h2 := R5.out.len; omega
            have HEV := Lib.hid hev
            clear hev hl hu
            go_wp2_with fail
            refine (encode_any R5.out hn5).mono ?_
            rintro e w6 ⟨A7, n7, c7, rfl, r7, hb6⟩
            rw [HEV.out] at r7 ⊢
            have RB6 := Lib.hid (RB5.out.on hb6)
            have HB6 := Lib.hid (HB5.out.trans (hb6.mono HB5.out.size))
            have q1 : (convert 22 9 (.slice A7 n7 c7)).run Tryd.prog w6 = .ok (.string (strOfNums M)) w6 := conv_any r7 _ 5 _ Tryd.underlying22 Tryd.underlying5 Tryd.underlying9
            have q2 : (convert 22 9 (.slice AB m cB)).run Tryd.prog w6 = .ok (.string (strOfNums M)) w6 := conv_any RB6.out _ 5 _ Tryd.underlying22 Tryd.underlying5 Tryd.underlying9
            clear hb6 r7
            go_wp2_with fail
            go_ret
            exact ⟨rfl, HB6.out⟩
        · go_wp2_with fail
          refine (decode_any RB.out HBy.out (HT.out.on HBW.out)).mono ?_
          rintro e w5 ⟨A5, A6, n5, c5, n6, c6, cs, ats, x5, e5, rfl, r5, r6, hd, hb5⟩
          have RB5 := Lib.hid (RB.out.on hb5)
          have HB5 := Lib.hid (HBW.out.trans (hb5.mono HBW.out.size))
          have R5 := Lib.hid r5
          clear hb5 r5 r6
          cases hd with
          | long hl =>
            obtain rfl : n5 = 0 := R5.out.len.symm
            clear hl
            go_wp2_with fail
            go_ret
            exact ⟨rfl, HB5.out⟩
          | bad p ds hl hp hu hdd =>
            obtain rfl : n5 = 0 := R5.out.len.symm
            have hp' : p < m := by rw [HLB.out] at hp; exact hp
            have hpi : (p : Int) < m := by omega
            have hpc : p ≤ cB := by have := RB5.out.cap; omega
            have hcon := Lib.hid (whole_any (RB5.out.take (Nat.le_of_lt hp')) (HBy.out.take p) (HT.out.on HB5.out) (by rw [List.length_take]; omega) (upto_take hu))
            clear hl hp hu hdd
            go_wp2_with fail
            refine hcon.out.mono ?_
            rintro e w6 ⟨rfl, hb6⟩
            have HB6 := Lib.hid (HB5.out.trans (hb6.mono HB5.out.size))
            clear hb6 hcon
            go_wp2_with fail
            go_ret
            exact ⟨rfl, HB6.out⟩
          | ok _ hl hu =>
            have hev : encV cs = (M, 0) := by
              have e1 : E.flat cs = M := by have := hu.eq; rw [List.take_length] at this; exact this.symm
              rw [E.encV_ok (List.all_eq_true.2 hu.ok) (by rw [e1]; exact hl), e1]
            have hn5 : n5 ≤ 1000000 := by have h1 := hu.few; have h2 := R5.out.len; omega
            have HEV := Lib.hid hev
            clear hev hl hu
            go_wp2_with fail
            refine (encode_any R5.out hn5).mono ?_
            rintro e w6 ⟨A7, n7, c7, rfl, r7, hb6⟩
            rw [HEV.out] at r7 ⊢
            have RB6 := Lib.hid (RB5.out.on hb6)
            have HB6 := Lib.hid (HB5.out.trans (hb6.mono HB5.out.size))
            have q1 : (convert 22 9 (.slice A7 n7 c7)).run Tryd.prog w6 = .ok (.string (strOfNums M)) w6 := conv_any r7 _ 5 _ Tryd.underlying22 Tryd.underlying5 Tryd.underlying9
            have q2 : (convert 22 9 (.slice AB m cB)).run Tryd.prog w6 = .ok (.string (strOfNums M)) w6 := conv_any RB6.out _ 5 _ Tryd.underlying22 Tryd.underlying5 Tryd.underlying9
            clear hb6 r7
            go_wp2_with fail
            go_ret
            exact ⟨rfl, HB6.out⟩
    · have hm' : (4000 : Int) < m := by omega
      go_wp2_with fail
      go_ret
      exact ⟨rfl, HB1.out⟩
  · have hn' : (4000 : Int) < n := by omega
    go_wp2_with fail
    go_ret
    exact ⟨rfl, HB1.out⟩
end Go.Proofs.YtjcmccfldnbgoaaDoor
