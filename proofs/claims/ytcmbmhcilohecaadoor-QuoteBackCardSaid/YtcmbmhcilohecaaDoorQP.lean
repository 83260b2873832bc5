/- QuoteBack, walked. -/
import Derived.Test.YtcmbmhcilohecaaDoorQO
namespace Go.Proofs.YtcmbmhcilohecaaDoor
open Go.RowKit
open Q (isC plainB textB flatT textsV PIs)

theorem strIs_flat {L : List Int} (h : L.all isC = true) : StrIs (strOfNums (flatT L)) (flatT L) := ⟨rfl, fun x hx => by have := Q.flat_byte h x hx; omega⟩
theorem read_at {L : List Int} {k : Nat} {x : Int} (h : L.all isC = true) (hx : L[k]? = some x) : readV (flatT L) ((flatT (L.take k)).length : Nat) = (x, (((flatT (L.take k)).length + (textB x).length : Nat) : Int), 0) := by
  obtain ⟨hk, e⟩ := List.getElem?_eq_some_iff.1 hx
  have hf : flatT L = flatT (L.take k) ++ (textB x ++ flatT (L.drop (k + 1))) := by
    conv => lhs; rw [← List.take_append_drop k L, List.drop_eq_getElem_cons hk, e, Q.flat_app, Q.flat_cons]
  have hi : isC x = true := List.all_eq_true.1 h x (List.mem_of_getElem? hx)
  refine readV_ok (by rw [hf, List.length_append]; omega) ?_
  rw [hf, List.drop_left]
  exact Q.read_text hi _ _
theorem flat_take_le (L : List Int) (k : Nat) : (flatT (L.take k)).length ≤ (flatT L).length := by
  conv => rhs; rw [← List.take_append_drop k L, Q.flat_app, List.length_append]
  omega
set_option maxHeartbeats 4000000 in
set_option maxRecDepth 100000 in
theorem qback_walk {w : World} {A : Option Addr} {n c : Nat} {L : List Int} (h : RdK .i64 w w.heap.size A n c L) {s : ByteArray} {S : List Int} (hs : StrIs s S) (hsm : s.size ≤ maxLen) (hT : Tab w) :
    Calls Tryd.prog 4 #[.slice A n c, .string s] w (BooK w true) := by
  have hsm2 := h.small
  have hsz := hs.size
  unfold maxLen at hsm
  have hlen := Lib.hid h.len
  have H0 := Lib.hid h
  have HS := Lib.hid hs
  have HT := Lib.hid hT
  clear h hT hs
  go_enter Tryd.func4, Tryd.ntmps4
  go_wp2_with fail
  refine (alive4_any HT.out).mono ?_
  rintro e w1 ⟨rfl, hb1⟩
  have HB1 := Lib.hid hb1
  clear hb1
  by_cases hn : n ≤ 1000
  · have hn' : ¬ (1000 : Int) < n := by omega
    by_cases hl : s.size ≤ 5000
    · have hl' : ¬ (5000 : Int) < s.size := by omega
      have H1 := Lib.hid (H0.out.on HB1.out)
      clear H0
      go_wp2_with fail
      refine (texts_any H1.out (by omega) (HT.out.on HB1.out)).mono ?_
      rintro e w2 ⟨rfl, hb2⟩
      have H2 := Lib.hid (H1.out.on hb2)
      have HB2 := Lib.hid (HB1.out.trans (hb2.mono HB1.out.size))
      clear hb2 H1 HB1
      go_upto_if 36 with fail
      go_cut [5, 6] (fun _ _ wx => Hid (Below w.heap.size w wx))
      case first =>
        cases hL : L.all isC with
        | false =>
          rw [textsV_no hL]
          clear hL
          go_wp2_with fail
          go_meet
          exact HB2.out
        | true =>
          rw [Q.textsV_ok hL]
          have HL := Lib.hid hL
          have hfl : (flatT L).length ≤ 10000 := by have h1 := Q.flat_small L; have h2 := hlen.out; omega
          clear hL
          generalize htn : (flatT L).length = tn at hfl
          have HTN := Lib.hid htn
          clear htn
          have hsz2 : (strOfNums (flatT L)).size = tn := by rw [strOfNums_size]; exact HTN.out
          generalize hts : strOfNums (flatT L) = ts at hsz2
          have HTS : Hid (StrIs ts (flatT L)) := by rw [← hts]; exact strIs_flat HL.out
          clear hts
          go_wp2_with fail
          refine (parse_any HTS.out (by rw [HTN.out]; omega) (HT.out.on HB2.out)).mono ?_
          rintro e w3 ⟨A3, n3, c3, L3, x3, rfl, r3, hp, hb3⟩
          obtain ⟨rfl, rfl⟩ := hp.one (PIs.ok L HL.out rfl)
          have R3 := Lib.hid r3
          have H3 := Lib.hid (H2.out.on hb3)
          have HB3 := Lib.hid (HB2.out.trans (hb3.mono HB2.out.size))
          clear hb3 r3 hp H2 HB2
          go_wp2_with fail
          refine (kints_yes R3.out H3.out rfl).mono ?_
          rintro e w4 ⟨rfl, hb4⟩
          have H4 := Lib.hid (H3.out.on hb4)
          have HB4 := Lib.hid (HB3.out.trans (hb4.mono HB3.out.size))
          clear hb4 R3 H3 HB3
          go_wp2_with fail
          go_loopw [9, 10] (fun lv iv wx => ∃ k : Nat, k ≤ tn ∧ iv = .int .i64 k ∧ Hid (OwnK .i64 wx w4.heap.size 3 lv k ((flatT L3).take k)) ∧ Hid (Below w4.heap.size w4 wx)) (fun _ iv _ => tn - (intOf iv).toNat)
          case atStart => exact ⟨0, by omega, rfl, OwnK.nil _ _ _ _, Below.refl _ _⟩
          case round =>
            obtain ⟨k, hk, rfl, HO, HB⟩ := hrel
            by_cases hlt : k < tn
            · obtain ⟨x, hx⟩ : ∃ x, (flatT L3)[k]? = some x := ⟨(flatT L3)[k]'(by rw [HTN.out]; exact hlt), List.getElem?_eq_getElem _⟩
              have g1 := HTS.out.get hx
              obtain ⟨x0, x1⟩ := HTS.out.byt x (List.mem_of_getElem? hx)
              have HX := Lib.hid hx
              clear hx
              have hlt2 : k < ts.size := by omega
              have hsz3 : w4.heap.size ≤ (wr.alloc (.cells #[.int .i64 x] 3)).heap.size := Nat.le_trans HB.out.size (kbelow_push wr _).size
              go_wp2_with (at_builtin; refine app_k .i64 rfl _ _ 22 rfl w4.heap.size 3 8 Tryd.underlying22 info_i64q (by decide) _ _ _ rfl (HO.out.alloc _) ⟨wr.heap.size, 0, none⟩ 1 1 [x] rfl rfl (lit_k wr _ rfl .i64 [x] _ _ rfl) (by omega) hsz3 ?_)
              intro v5 w5 ho5 hg5 _
              have HO5 : Hid (OwnK .i64 w5 w4.heap.size 3 v5 (k + 1) ((flatT L3).take (k + 1))) := by
                obtain ⟨hk', e⟩ := List.getElem?_eq_some_iff.1 HX.out
                rw [List.take_succ_eq_append_getElem hk', e]; exact ho5
              have HB5 := Lib.hid (below_grown (HB.out.alloc HB.out.size _) hg5 fun i hi => (HO.out.block i hi).1)
              clear ho5 hg5
              go_wp2_with fail
              go_roundw
              case rel => exact ⟨k + 1, by omega, by go_num, HO5.out, HB5.out⟩
              case measure => simp [intOf]; omega
            · obtain rfl : k = tn := by omega
              obtain ⟨A5, c5, rfl, hr5⟩ := HO.out.rd
              have R5 : Hid (RdK .i64 wr wr.heap.size A5 k c5 (flatT L3)) := by rw [List.take_of_length_le (by rw [HTN.out]; exact Nat.le_refl _)] at hr5; exact hr5
              have H5 := Lib.hid (H4.out.on HB.out)
              have HB5 := Lib.hid (HB4.out.trans (HB.out.mono HB4.out.size))
              clear hr5 HO HB H4 HB4
              obtain ⟨W5, rfl⟩ : ∃ W5, W5 = wr := ⟨_, rfl⟩
              go_wp2_with fail
              go_loopw [11, 12] (fun av iv wx => ∃ (j a : Nat), j ≤ n ∧ a ≤ k ∧ iv = .int .i64 j ∧ av = .int .i64 a ∧ Hid (a = (flatT (L3.take j)).length) ∧ Hid (Below W5.heap.size W5 wx)) (fun _ iv _ => n - (intOf iv).toNat)
              case atStart => exact ⟨0, 0, by omega, by omega, rfl, rfl, rfl, Below.refl _ _⟩
              case round =>
                obtain ⟨j, a, hj, ha, rfl, rfl, HA, HB⟩ := hrel
                by_cases hlt2 : j < n
                · have R6 := Lib.hid (R5.out.on HB.out)
                  have H6 := Lib.hid (H5.out.on HB.out)
                  go_wp2_with fail
                  refine (read_any R6.out a).mono ?_
                  rintro e w7 ⟨rfl, hb7⟩
                  have H7 := Lib.hid (H6.out.on hb7)
                  have HB7 := Lib.hid (HB.out.trans (hb7.mono HB.out.size))
                  clear hb7
                  obtain ⟨b, off, x, rfl, _, hx, hc⟩ := H7.out.got hlt2
                  have hra : readV (flatT L3) (a : Int) = (x, ((a + (textB x).length : Nat) : Int), 0) := by
                    have := read_at HL.out hx
                    rw [← HA.out] at this
                    exact this
                  rw [hra]
                  have hpos := Q.text_pos x
                  have HA7 : Hid (a + (textB x).length = (flatT (L3.take (j + 1))).length) := by
                    show _ = _
                    rw [Q.flat_take hx, List.length_append, ← HA.out]
                  have hle : a + (textB x).length ≤ k := by
                    have h1 := HA7.out
                    have h2 := flat_take_le L3 (j + 1)
                    have h3 := HTN.out
                    omega
                  have g1 : (x != x) = false := by simp
                  have g2 : ¬ (((a + (textB x).length : Nat) : Int) ≤ a) := by omega
                  generalize a + (textB x).length = a2 at HA7 hle g2
                  clear hra hx hpos
                  go_wp2_with fail
                  go_roundw
                  case rel => exact ⟨j + 1, a2, by omega, hle, by go_num, rfl, HA7.out, HB7.out⟩
                  case measure => simp [intOf]; omega
                · obtain rfl : j = n := by omega
                  have g1 : ((a : Int) != (k : Int)) = false := by
                    have h1 := HA.out
                    rw [List.take_of_length_le (by rw [hlen.out]; exact Nat.le_refl _), HTN.out] at h1
                    simp; omega
                  have HB6 := Lib.hid (HB5.out.trans (HB.out.mono HB5.out.size))
                  clear HB HB5
                  go_wp2_with fail
                  go_meet
                  exact HB6.out
      case rest =>
        have HBc := hcut
        clear H2 HB2 hcut
        go_wp2_with fail
        refine (parse_any HS.out (by omega) (HT.out.on HBc.out)).mono ?_
        rintro e w3 ⟨A3, n3, c3, L3, x3, rfl, r3, hp, hb3⟩
        have R3 := Lib.hid r3
        have HB3 := Lib.hid (HBc.out.trans (hb3.mono HBc.out.size))
        clear hb3 r3 HBc
        cases hp with
        | bad hbad =>
          obtain rfl : n3 = 0 := R3.out.len.symm
          clear hbad
          go_wp2_with fail
          go_ret
          exact ⟨rfl, HB3.out⟩
        | ok _ ha he =>
          have hn3 : n3 ≤ 5000 := by
            have h1 := R3.out.len
            have h2 := flat_len L3
            rw [← he] at h2
            omega
          go_wp2_with fail
          refine (texts_any R3.out (by omega) (HT.out.on HB3.out)).mono ?_
          rintro e w4 ⟨rfl, hb4⟩
          rw [Q.textsV_ok ha, ← he, ← HS.out.eq]
          have HB4 := Lib.hid (HB3.out.trans (hb4.mono HB3.out.size))
          clear hb4 HB3 R3 ha he
          go_wp2_with fail
          go_ret
          exact ⟨rfl, HB4.out⟩
    · have hl' : (5000 : Int) < s.size := by omega
      go_wp2_with fail
      go_ret
      exact ⟨rfl, HB1.out⟩
  · have hn' : (1000 : Int) < n := by omega
    go_wp2_with fail
    go_ret
    exact ⟨rfl, HB1.out⟩
end Go.Proofs.YtcmbmhcilohecaaDoor
