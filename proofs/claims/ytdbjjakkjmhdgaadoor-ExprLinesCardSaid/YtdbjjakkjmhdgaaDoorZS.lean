/- ExprLines answers true. -/
import Derived.Test.YtdbjjakkjmhdgaaDoorZB
import Derived.Test.YtdbjjakkjmhdgaaDoorZQ
import Derived.Test.YtdbjjakkjmhdgaaDoorMI
import Derived.Test.YtdbjjakkjmhdgaaDoorKOpen
import Derived.IntWalk
import Derived.BigQuiet
set_option maxRecDepth 100000
namespace Go.Proofs.YtdbjjakkjmhdgaaDoor
open Go.RowKit
open Y (Nd It shI)

theorem len_arg {H : Type} {enc : TypeId × Value → H} {W : World} {d : DataW H} {p : List MemPlace} {A : Option Addr} {n c : Nat} (h : DataW.Trod enc Tryd.prog W 0 (fun _ => true) true 34 (.slice A n c) d p) (hw : ∀ z ∈ d.weights Tryd.prog 34, z ≤ reachBytes) : n ≤ 140737488355328 := by
  have hby : Tryd.prog.bytesOf 5 = 1 := by kernel_rfl
  obtain ⟨fuel, hf⟩ := h
  rcases DataW.trod_slice Tryd.underlying34 hf with ⟨hcs, hx⟩ | ⟨a, len, cap, elems, rest, n', hn', hcs, hx, _, hle, hm, hel, _⟩
  · simp [Value.cells] at hcs
    omega
  · simp [Value.cells] at hcs
    have hd := congrArg (·.1) hx
    simp only at hd
    subst hd
    have := hw ((elems.length + rest.length) * 1) (by simp [DataW.weights, Tryd.underlying34, hby])
    unfold reachBytes at this
    omega
/-- What is moved on and put behind reads as before. -/
theorem lines_eqs {ra : List It} {lb : List It} {d : Int} : eqIs ((ra ++ lb.map (shI d)).take ra.length) ra = true ∧ eqIs ((ra ++ lb.map (shI d)).drop ra.length) lb = true := by
  constructor
  · rw [List.take_left]; exact eqIs_iff.2 rfl
  · rw [List.drop_left]; exact eqIs_iff.2 (core_sh d lb)
set_option maxHeartbeats 8000000 in
theorem elines_walk {w : World} {A AB : Option Addr} {n c m cB : Nat} {L M : List Int} (h : RdK .u8 w w.heap.size A n c L) (h' : RdK .u8 w w.heap.size AB m cB M) (ha : Byt L) (hb : Byt M) (hn : n ≤ 140737488355328) (hm : m ≤ 140737488355328) (hT : Tabs w) :
    Calls Tryd.prog 4 #[.slice A n c, .slice AB m cB] w (BooK w true) := by
  have H0 := Lib.hid h
  have H0' := Lib.hid h'
  have HBa := Lib.hid ha
  have HBb := Lib.hid hb
  have HT := Lib.hid hT
  have HLA := Lib.hid h.len
  have HLB := Lib.hid h'.len
  have hnn : (0 : Int) ≤ (n : Int) := by omega
  have hmm : (0 : Int) ≤ (m : Int) := by omega
  obtain ⟨NN, hNN⟩ : ∃ N : Nat, N = 40000 := ⟨_, rfl⟩
  obtain ⟨MM, hMM⟩ : ∃ N : Nat, N = 4000 := ⟨_, rfl⟩
  have HNN := Lib.hid hNN
  have HMM := Lib.hid hMM
  have hn' : (n : Int) ≤ 140737488355328 := by omega
  have hm' : (m : Int) ≤ 140737488355328 := by omega
  clear h h' ha hb hT hNN hMM
  go_enter Tryd.func4, Tryd.ntmps4
  go_wp2_with fail
  refine (alive6_any HT.out).mono ?_
  rintro e w1 ⟨rfl, hb1⟩
  have HB1 := Lib.hid hb1
  clear hb1
  by_cases hnm : n + m ≤ 2000
  · have g1 : ¬ (2000 : Int) < (n : Int) + (m : Int) := by omega
    have H1 := Lib.hid (H0.out.on HB1.out)
    have H1' := Lib.hid (H0'.out.on HB1.out)
    go_wp2_with fail
    refine (eof_any H1.out HBa.out (HT.out.on HB1.out) (by rw [HLA.out]; omega) NN MM (by rw [HLA.out, HNN.out]; omega) (by rw [HLA.out, HMM.out]; omega)).mono ?_
    rintro e w2 ⟨⟨la, xa, ea⟩, hia, A1, c1, rfl, hra, hb2⟩
    simp only at hra ⊢
    have HIA := Lib.hid hia
    have H2 := Lib.hid (H1.out.on hb2)
    have H2' := Lib.hid (H1'.out.on hb2)
    have HB2 := Lib.hid (HB1.out.trans (hb2.mono HB1.out.size))
    have HRA : Hid (RdI6 w2 (Lt w2) A1 la.length c1 la) := hra.keep (fun _ hi => hi.2) (fun _ _ => rfl)
    clear hia hra hb2 H1 H1' HB1
    by_cases he : ea = 0
    · subst he
      by_cases h50 : la.length ≤ 50
      · have g5 : ¬ (50 : Int) < (la.length : Int) := by omega
        go_wp2_with fail
        refine (eof_any H2'.out HBb.out (HT.out.on HB2.out) (by rw [HLB.out]; omega) NN MM (by rw [HLB.out, HNN.out]; omega) (by rw [HLB.out, HMM.out]; omega)).mono ?_
        rintro e w3 ⟨⟨lb, xb, eb⟩, hib, A2, c2, rfl, hrb, hb3⟩
        simp only at hrb ⊢
        have HIB := Lib.hid hib
        have H3 := Lib.hid (H2.out.on hb3)
        have H3' := Lib.hid (H2'.out.on hb3)
        have HB3 := Lib.hid (HB2.out.trans (hb3.mono HB2.out.size))
        have HRA3 := Lib.hid (HRA.out.on hb3)
        have HRB : Hid (RdI6 w3 (Lt w3) A2 lb.length c2 lb) := hrb.keep (fun _ hi => hi.2) (fun _ _ => rfl)
        clear hib hrb hb3 H2 H2' HB2 HRA
        go_wp2_with (at_builtin; refine app_rd .u8 rfl _ _ 34 rfl w3.heap.size 5 1 Tryd.underlying34 info_u8 (by decide) _ _ _ rfl (own_lit0 .u8 w3 w3.heap.size 5 (Nat.le_refl _)) _ A n c L rfl (H3.out.push _) (by omega) (by simp) ?_)
        intro v4 w4 ho4 hg4 _
        have HB4 := Lib.hid (below_grown (kbelow_push w3 _) hg4 (fun i hi => by cases hi; exact Nat.le_refl _))
        have HO4 := Lib.hid ho4
        clear ho4 hg4
        go_wp2_with (at_builtin; refine app_k .u8 rfl _ _ 34 rfl w3.heap.size 5 1 Tryd.underlying34 info_u8 (by decide) _ _ _ rfl (HO4.out.alloc _) ⟨w4.heap.size, 0, none⟩ 1 1 [10] rfl rfl (lit_k w4 _ rfl .u8 [10] _ _ rfl) (by omega) ?c2 ?_)
        case c2 => have := HB4.out.size; simp; omega
        intro v5 w5 ho5 hg5 _
        have HB5 := Lib.hid (below_grown (HB4.out.trans ((kbelow_push w4 _).mono HB4.out.size)) hg5 (fun i hi => (HO4.out.block i hi).1))
        have HO5 := Lib.hid ho5
        clear ho5 hg5
        go_wp2_with (at_builtin; refine app_rd .u8 rfl _ _ 34 rfl w3.heap.size 5 1 Tryd.underlying34 info_u8 (by decide) _ _ _ rfl HO5.out _ AB m cB M rfl (H3'.out.on HB5.out) (by omega) HB5.out.size ?_)
        intro v6 w6 ho6 hg6 _
        have HB6 := Lib.hid (below_grown HB5.out hg6 (fun i hi => (HO5.out.block i hi).1))
        obtain ⟨A6, c6, rfl, r6⟩ := ho6.rd
        have R6 : Hid (RdK .u8 w6 w6.heap.size A6 (n + 1 + m) c6 (L ++ 10 :: M)) := by
          have e : L ++ [10] ++ M = L ++ 10 :: M := by simp
          show RdK _ _ _ _ _ _ _
          rw [← e]
          simpa using r6
        have HBB : Hid (Byt (L ++ 10 :: M)) := fun z hz => by
          rcases List.mem_append.1 hz with hz | hz
          · exact HBa.out z hz
          · rcases List.mem_cons.1 hz with rfl | hz
            · decide
            · exact HBb.out z hz
        have HLZ : Hid ((L ++ 10 :: M).length = n + 1 + m) := by show _ = _; rw [List.length_append, List.length_cons, HLA.out, HLB.out]; omega
        have HBW := Lib.hid (HB3.out.trans (HB6.out.mono HB3.out.size))
        have HRA6 := Lib.hid (HRA3.out.on HB6.out)
        have HRB6 := Lib.hid (HRB.out.on HB6.out)
        clear ho6 hg6 r6 HO4 HO5 HB4 HB5 HB6 H3 H3' HRA3 HRB HB3
        have hnm1 : n + 1 + m ≤ 2001 := by omega
        go_wp2_with fail
        refine (eof_any R6.out HBB.out (HT.out.on HBW.out) (by rw [HLZ.out]; omega) NN MM (by rw [HLZ.out, HNN.out]; omega) (by rw [HLZ.out, HMM.out]; omega)).mono ?_
        rintro e w7 ⟨⟨lz, xz, ez⟩, hiz, A7, c7, rfl, hrz, hb7⟩
        simp only at hrz ⊢
        have hres := items_lines HIA.out HIB.out hiz (by rw [HLA.out, HLB.out]; omega) (by rw [HLA.out, HLB.out, HMM.out]; omega) rfl
        obtain ⟨⟨hp1, hp2⟩, hpos⟩ := items_pos HIB.out
        simp only [HLA.out] at hres hp1 hp2
        have HPOS : Hid (∀ x ∈ lb, 0 ≤ x.pos ∧ x.pos ≤ 3000) := hpos
        have HB7 := Lib.hid (HBW.out.trans (hb7.mono HBW.out.size))
        have HRA7 := Lib.hid (HRA6.out.on hb7)
        have HRB7 := Lib.hid (HRB6.out.on hb7)
        have HRZ : Hid (RdI6 w7 (Lt w7) A7 lz.length c7 lz) := hrz.keep (fun _ hi => hi.2) (fun _ _ => rfl)
        have hn2 : (n : Int) ≤ 2000 := by omega
        clear hiz hrz hb7 hpos R6 HBB HLZ HBW HRA6 HRB6 HIA HIB HLA HLB HNN HMM HBa HBb HT H0 H0' hn' hm'
        by_cases hb9 : eb = 9
        · subst hb9
          clear hres
          by_cases hz9 : ez = 9
          · subst hz9
            by_cases hx : xz = xb + (n : Int) + 1
            · subst hx
              go_wp2_with fail
              go_ret
              exact ⟨rfl, HB7.out⟩
            · have g7 : (xz == xb + (n : Int) + 1) = false := by simpa using hx
              go_wp2_with fail
              go_ret
              exact ⟨rfl, HB7.out⟩
          · have g7 : (ez == 9) = false := by simpa using hz9
            go_wp2_with fail
            go_ret
            exact ⟨rfl, HB7.out⟩
        · by_cases hz9 : ez = 9
          · subst hz9
            clear hres
            by_cases hb0 : eb = 0
            · subst hb0
              go_wp2_with fail
              go_ret
              exact ⟨rfl, HB7.out⟩
            · have g7 : (eb != 0) = true := by rw [bne_iff_ne]; exact hb0
              have g8 : ((9 : Int) == eb) = false := by simp; omega
              go_wp2_with fail
              go_ret
              exact ⟨rfl, HB7.out⟩
          · rcases hres with h | h | ⟨hne, rfl, rfl⟩ | ⟨rfl, rfl, rfl⟩
            · exact absurd h hb9
            · exact absurd h hz9
            · have g7 : (ez != 0) = true := by rw [bne_iff_ne]; exact hne
              go_wp2_with fail
              go_ret
              exact ⟨rfl, HB7.out⟩
            · have HEQ : Hid (eqIs ((la ++ lb.map (shI ((n : Int) + 1))).take la.length) la = true ∧ eqIs ((la ++ lb.map (shI ((n : Int) + 1))).drop la.length) lb = true) := lines_eqs
              have HAT : Hid (∀ i y, lb[i]? = some y → (la ++ lb.map (shI ((n : Int) + 1)))[la.length + i]? = some (shI ((n : Int) + 1) y)) := fun i y hy => by
                rw [List.getElem?_append_right (by omega), Nat.add_sub_cancel_left, List.getElem?_map, hy]; rfl
              have hlen : (la ++ lb.map (shI ((n : Int) + 1))).length = la.length + lb.length := by simp
              rw [hlen] at HRZ ⊢
              clear hlen hb9 hz9
              generalize la ++ lb.map (shI ((n : Int) + 1)) = lz at *
              obtain ⟨na, hna⟩ : ∃ k, k = la.length := ⟨_, rfl⟩
              obtain ⟨nb, hnb⟩ : ∃ k, k = lb.length := ⟨_, rfl⟩
              rw [← hna] at HRZ HRA7 HEQ HAT g5 h50 ⊢
              rw [← hnb] at HRZ HRB7 ⊢
              have HNA := Lib.hid hna
              have HNB := Lib.hid hnb
              have hnb1 : nb ≤ 9223372036854775807 := HRB7.out.small
              have hnz : na + nb ≤ 9223372036854775807 := HRZ.out.small
              have hcz : na + nb ≤ c7 := HRZ.out.cap
              clear hna hnb
              by_cases hz : na + nb = 0
              · obtain rfl : na = 0 := by omega
                obtain rfl : nb = 0 := by omega
                have HC1 : Hid (∀ (w' : World) (A B : Option Addr) (c c' : Nat), c ≤ maxLen → c' ≤ maxLen → Calls Tryd.prog 13 #[.slice A 0 c, .slice B 0 c'] w' (BooK w' true)) := fun w' A B c c' h h' => by
                  have := ritems_any (la := []) (lb := []) (RdI6.void (w := w') (S := Lt w') A h) (RdI6.void (w := w') (S := Lt w') B h')
                  rwa [eqIs_iff.2 rfl] at this
                have hcm7 : c7 ≤ maxLen := HRZ.out.capm
                have hcm1 : c1 ≤ maxLen := HRA7.out.capm
                have hcm2 : c2 ≤ maxLen := HRB7.out.capm
                clear HRZ HRA7 HRB7 HEQ HAT HNA HNB
                go_wp2_with fail
                refine (HC1.out w7 A7 A1 c7 c1 hcm7 hcm1).mono ?_
                rintro en w8 ⟨rfl, hb8⟩
                have HB8 := Lib.hid (HB7.out.trans (hb8.mono HB7.out.size))
                clear hb8 hcm1
                go_wp2_with fail
                refine (HC1.out w8 _ A2 _ c2 (by first | exact hcm7 | omega) hcm2).mono ?_
                rintro en w9 ⟨rfl, hb9⟩
                have HB9 := Lib.hid (HB8.out.trans (hb9.mono HB8.out.size))
                clear hb9 HC1
                go_wp2_with fail
                go_loopw [14] (fun iv wx => iv = .int .i64 0 ∧ wx = w9) (fun _ _ => 0)
                case atStart => exact ⟨rfl, rfl⟩
                case round =>
                  obtain ⟨rfl, rfl⟩ := hrel
                  go_wp2_with fail
                  go_ret
                  exact ⟨rfl, HB9.out⟩
              · obtain ⟨b7, o7, hA7⟩ : ∃ b o, A7 = some ⟨b, o, none⟩ := by
                  obtain ⟨b, o, _, _, _, _, _, _, _, e, _⟩ := HRZ.out.got (i := 0) (by omega)
                  exact ⟨b, o, e⟩
                subst hA7
                have HT1 : Hid (RdI6 w7 (Lt w7) (some ⟨b7, o7, none⟩) na c7 (lz.take na)) := HRZ.out.take (by omega)
                have HT2 : Hid (RdI6 w7 (Lt w7) (some ⟨b7, o7 + na * 15, none⟩) nb (c7 - na) (lz.drop na)) := by
                  have := HRZ.out.drop (m := na) (by omega)
                  rwa [Nat.add_sub_cancel_left] at this
                have HC1 : Hid (Calls Tryd.prog 13 #[.slice (some ⟨b7, o7, none⟩) na c7, .slice A1 na c1] w7 (BooK w7 true)) := by
                  have := ritems_any HT1.out HRA7.out
                  rwa [HEQ.out.1] at this
                have HC2 : Hid (∀ w', Below w7.heap.size w7 w' → Calls Tryd.prog 13 #[.slice (some ⟨b7, o7 + na * 15, none⟩) nb (c7 - na), .slice A2 nb c2] w' (BooK w' true)) := fun w' h => by
                  have := ritems_any (HT2.out.on h) (HRB7.out.on h)
                  rwa [HEQ.out.2] at this
                have HC3 : Hid (∀ w', Below w7.heap.size w7 w' → c7 = na → Calls Tryd.prog 13 #[.slice (some ⟨b7, o7, none⟩) nb 0, .slice A2 nb c2] w' (BooK w' true)) := fun w' h he => by
                  have e : nb = 0 := by omega
                  have hr := HRB7.out.on h
                  have e2 : lb = [] := List.eq_nil_of_length_eq_zero (by rw [← HNB.out, e])
                  rw [e, e2] at hr
                  rw [e]
                  have := ritems_any (la := []) (lb := []) (RdI6.void (w := w') (S := Lt w') (some ⟨b7, o7, none⟩) (c := 0) (by simp)) hr
                  rwa [eqIs_iff.2 rfl] at this
                clear HT1 HT2 HEQ HRA7
                have hna1 : na ≤ c7 := by omega
                go_wp2_with fail
                refine HC1.out.mono ?_
                rintro en w8 ⟨rfl, hb8⟩
                have HB8 := Lib.hid (HB7.out.trans (hb8.mono HB7.out.size))
                have HS8 := Lib.hid hb8
                clear hb8 HC1
                by_cases hc7 : c7 = na
                · have hk := HC3.out w8 HS8.out hc7
                  have HK := Lib.hid hk
                  have hnb0 : nb = 0 := by omega
                  clear hk HC2 HC3
                  subst hc7
                  subst hnb0
                  go_wp2_with fail
                  refine HK.out.mono ?_
                  rintro en w9 ⟨rfl, hb9⟩
                  have HB9 := Lib.hid (HB8.out.trans (hb9.mono HB8.out.size))
                  clear hb9 HK HB8 HS8 hz hnz hcz HNA HNB HAT HRB7 HRZ
                  go_wp2_with fail
                  go_loopw [14] (fun iv wx => iv = .int .i64 0 ∧ wx = w9) (fun _ _ => 0)
                  case atStart => exact ⟨rfl, rfl⟩
                  case round =>
                    obtain ⟨rfl, rfl⟩ := hrel
                    go_wp2_with fail
                    go_ret
                    exact ⟨rfl, HB9.out⟩
                · have HK := Lib.hid (HC2.out w8 HS8.out)
                  clear HC2 HC3
                  go_wp2_with fail
                  refine HK.out.mono ?_
                  rintro en w9 ⟨rfl, hb9⟩
                  have HB9 := Lib.hid (HB8.out.trans (hb9.mono HB8.out.size))
                  have HS9 := Lib.hid (HS8.out.trans (hb9.mono HS8.out.size))
                  clear hb9 HK HB8 HS8
                  go_wp2_with fail
                  go_loopw [14] (fun iv wx => ∃ i : Nat, i ≤ nb ∧ iv = .int .i64 i ∧ Hid (Below w7.heap.size w7 wx) ∧ Hid (Below w.heap.size w wx)) (fun iv _ => nb - (intOf iv).toNat)
                  case atStart => exact ⟨0, by omega, rfl, HS9.out, HB9.out⟩
                  case round =>
                    obtain ⟨i, hi, rfl, HS, HB⟩ := hrel
                    by_cases hlt : i < nb
                    · obtain ⟨b2, o2, y, Ab, Aa, nb1, cb1, na1, ca1, rfl, hb2, hy, _, _, hc2⟩ := (HRB7.out.on HS.out).got hlt
                      obtain ⟨b3, o3, y3, Ab3, Aa3, nb3, cb3, na3, ca3, hA3, hb3, hy3, _, _, hc3⟩ := (HRZ.out.on HS.out).got (i := na + i) (by omega)
                      injection hA3 with hA3
                      injection hA3 with e1 e2 _
                      subst e1 e2
                      have e3 := HAT.out i y hy
                      rw [hy3] at e3
                      obtain rfl := Option.some.inj e3
                      have k2 := (it_cells hc2).2.2.2.2.2.2.2.2.2.2.2.2.2.2
                      have k3 : wr.cell? ⟨b7, o7 + (na + i) * 15 + 14, none⟩ = some (.int .i64 (y.pos + ((n : Int) + 1))) := (it_cells hc3).2.2.2.2.2.2.2.2.2.2.2.2.2.2
                      obtain ⟨hy0, hy1⟩ := HPOS.out y (List.mem_of_getElem? hy)
                      clear hy hy3 e3 hc2 hc3 hb2 hb3
                      go_wp2_with fail
                      go_quiet (fail)
                      go_wp2_with fail
                      go_roundw
                      case rel => exact ⟨i + 1, by omega, by go_num, kbelow_drewN HS.out _, kbelow_drewN HB.out _⟩
                      case measure => simp [intOf]; omega
                    · go_wp2_with fail
                      go_ret
                      exact ⟨rfl, HB.out⟩
      · have g5 : (50 : Int) < (la.length : Int) := by omega
        go_wp2_with fail
        go_ret
        exact ⟨rfl, HB2.out⟩
    · have g5 : (ea != 0) = true := by rw [bne_iff_ne]; exact he
      go_wp2_with fail
      go_ret
      exact ⟨rfl, HB2.out⟩
  · have g1 : (2000 : Int) < (n : Int) + (m : Int) := by omega
    go_wp2_with fail
    go_ret
    exact ⟨rfl, HB1.out⟩
end Go.Proofs.YtdbjjakkjmhdgaaDoor
