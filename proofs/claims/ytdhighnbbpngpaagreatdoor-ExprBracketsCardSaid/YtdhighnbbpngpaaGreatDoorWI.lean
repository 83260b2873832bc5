/- The reader of word: name. -/
import Derived.Test.YtdhighnbbpngpaaGreatDoorMU
set_option maxRecDepth 100000
namespace Go.Proofs.YtdhighnbbpngpaaGreatDoor
open Go.RowKit
open W (Tk St lexS opn nameS many nmB ltB)

theorem nm_iff (c : Int) : nmB c = (Q.plainB c || (c == 95)) := by unfold W.nmB; rw [Bool.eq_iff_iff]; simp
theorem chV_drop (L : List Int) (i j : Nat) : chV L (i + j) = chV (L.drop i) j := by unfold chV; rw [List.drop_drop]
theorem chV_get {L : List Int} {i : Nat} {x : Int} (h : chV L i = x) (hx : x ≠ -1) : L[i]? = some x := by
  unfold chV at h
  cases hd : L.drop i with
  | nil => rw [hd] at h; exact absurd h.symm hx
  | cons y t =>
    rw [hd] at h
    have hlt : i < L.length := by
      rcases Nat.lt_or_ge i L.length with h1 | h1
      · exact h1
      · rw [List.drop_eq_nil_of_le h1] at hd; cases hd
    rw [List.drop_eq_getElem_cons hlt] at hd
    injection hd with h1 h2
    rw [List.getElem?_eq_getElem hlt, h1]
    exact congrArg some h
theorem nm_end : nmB (-1) = false := by decide
section
variable {X : Cx} {b : Nat} {w : World} {p o : Nat} {tv : Value} {ts : List Tk}
/-- The bytes of a run of plain characters. -/
theorem Rdv.run (h : Rdv X b w p o tv ts) {i j : Nat} (hj : 0 < j) (hij : i + j ≤ X.nc) {l : List Int} (hl : (X.L.drop i).take j = l) (hf : E.flat l = l) : ∃ b2 off, X.At = some ⟨b2, off, none⟩ ∧ plc X.L i < plc X.L (i + j) ∧ plc X.L (i + j) ≤ X.nt ∧ X.nt ≤ X.ct ∧ RdK .u8 w b (some ⟨b2, off + plc X.L i, none⟩) (plc X.L (i + j) - plc X.L i) (X.ct - plc X.L i) l := by
  obtain ⟨n1, n2, n3, n4⟩ := h.nc
  obtain ⟨b2, off, hA, hlt, hcap, _⟩ := (show Rdv X b w p o tv ts from h) |>.txt0 (by omega)
  have e := flat_mid X.L (i := i) (j := i + j) (by omega)
  rw [show i + j - i = j by omega, hl, hf, ← h.ok.flat] at e
  have hll : l.length = j := by rw [← hl, List.length_take, List.length_drop]; omega
  have h1 : plc X.L (i + j) ≤ X.nt := by rw [← h.text.len, h.ok.flat]; exact plc_le _ _
  have h2 : plc X.L i ≤ plc X.L (i + j) := plc_mono _ (by omega)
  have h3 : plc X.L (i + j) - plc X.L i = j := by
    have := congrArg List.length e
    rw [List.length_take, List.length_drop, h.text.len, hll] at this
    omega
  have ht := h.text
  rw [hA] at ht
  have hm := ht.mid (lo := plc X.L i) (m := plc X.L (i + j) - plc X.L i) (by omega)
  rw [e] at hm
  exact ⟨b2, off, hA, by omega, h1, ht.cap, hm⟩
set_option maxHeartbeats 4000000 in
theorem name_any (h : Rdv X b w p o tv ts) (hp : p < X.nc) (hts : ts.length ≤ p) :
    Calls Tryz.prog 165 #[.pointer (some ⟨b, 0, none⟩)] w (StepP X b w p o ts (nameS (X.L.drop (p + 1)))) := by
  obtain ⟨n1, n2, n3, n4⟩ := h.nc
  obtain ⟨c0, c1, c2, c3, c4, c5⟩ := h.cells
  have HH := Lib.hid h
  have HCH := Lib.hid fun (i : Nat) (hi : i ≤ X.nc) => char_any HH.out hi
  have hch1 := Lib.hid (HCH.out (p + 1) (by omega))
  have hlet := Lib.hid (letter_any (chV X.L (p + 1)) w)
  have HL1 : Hid ((X.L.drop (p + 1)).headD (-1) = chV X.L (p + 1)) := rfl
  have HN1 := Lib.hid n1
  have HN3 := Lib.hid n3
  clear h n1 n3
  cases hl : ltB (chV X.L (p + 1)) with
  | false =>
    have HE : Hid (nameS (X.L.drop (p + 1)) = .bad 0 4) := by show _ = _; unfold W.nameS; rw [HL1.out, hl]; rfl
    rw [HE.out]
    rw [hl] at hlet
    have hfail := Lib.hid (fail_any HH.out (i := p) (by omega) 4)
    clear hl HL1 HE
    generalize chV X.L (p + 1) = x at *
    go_enter Tryz.func165, Tryz.ntmps165
    go_wp2_with fail
    refine hch1.out.mono ?_
    rintro e w1 ⟨rfl, rfl⟩
    go_wp2_with fail
    refine hlet.out.mono ?_
    rintro e w1 ⟨rfl, rfl⟩
    go_wp2_with fail
    refine hfail.out.mono ?_
    rintro e w1 ⟨rfl, rfl⟩
    go_wp2_with fail
    exact ⟨rfl, rfl, Fr.refl _ _⟩
  | true =>
    rw [hl] at hlet
    have HE : Hid (nameS (X.L.drop (p + 1)) = if 16 < many nmB (X.L.drop (p + 1)) then .bad 0 2 else .tok 1 ((X.L.drop (p + 1)).takeWhile nmB) 0 0 (many nmB (X.L.drop (p + 1)))) := by show _ = _; unfold W.nameS; rw [HL1.out, hl, if_pos rfl]
    have HFST : Hid (0 < many nmB (X.L.drop (p + 1))) := by
      show 0 < _
      have hx : (X.L.drop (p + 1))[0]? = some (chV X.L (p + 1)) := by
        have := chV_get (L := X.L) (i := p + 1) rfl (fun e => by rw [e] at hl; exact absurd hl (by decide))
        simpa using this
      cases hd : X.L.drop (p + 1) with
      | nil => rw [hd] at hx; cases hx
      | cons y t =>
        rw [hd] at hx
        simp at hx
        rw [W.many_cons]; · omega
        rw [hx, nm_iff, Bool.or_eq_true]
        left
        rw [Q.plain_iff]
        unfold W.ltB at hl; rw [decide_eq_true_eq] at hl; omega
    have HXX : Hid (Value.int .i64 (chV X.L (p + 1)) = .int .i64 (chV X.L (p + 1))) := rfl
    obtain ⟨x1, hx1⟩ : ∃ x1, chV X.L (p + 1) = x1 := ⟨_, rfl⟩
    have HX1 := Lib.hid hx1
    rw [hx1] at hch1 hlet
    clear hl HL1 hx1 HXX
    generalize nameS (X.L.drop (p + 1)) = r at HE ⊢
    generalize hkk : many nmB (X.L.drop (p + 1)) = kk at HFST HE
    have HKK := Lib.hid hkk
    have hkn : p + 1 + kk ≤ X.nc := by have := W.many_le nmB (X.L.drop (p + 1)); rw [hkk, List.length_drop, HN1.out] at this; omega
    have hk1 : 0 < kk := HFST.out
    clear hkk HFST
    go_enter Tryz.func165, Tryz.ntmps165
    go_wp2_with fail
    refine hch1.out.mono ?_
    rintro e w1 ⟨rfl, rfl⟩
    go_wp2_with fail
    refine hlet.out.mono ?_
    rintro e w1 ⟨rfl, rfl⟩
    go_wp2_with fail
    refine hch1.out.mono ?_
    rintro e w1 ⟨rfl, rfl⟩
    go_wp2_with fail
    go_loopw [3, 4] (fun tv cv wx => ∃ t : Nat, p + 1 ≤ t ∧ t ≤ p + 1 + kk ∧ tv = .int .i64 t ∧ cv = .int .i64 (chV X.L t) ∧ w = wx) (fun tv _ _ => X.nc - (intOf tv).toNat)
    case atStart => exact ⟨p + 1, by omega, by omega, rfl, by rw [HX1.out], by trivial⟩
    case round =>
      obtain ⟨t, ht0, ht1, rfl, rfl, rfl⟩ := hrel
      have HCV : Hid (chV X.L t = chV (X.L.drop (p + 1)) (t - (p + 1))) := by
        have := chV_drop X.L (p + 1) (t - (p + 1)); rwa [show p + 1 + (t - (p + 1)) = t by omega] at this
      by_cases hlt : t < p + 1 + kk
      · have hnm : nmB (chV X.L t) = true := by
          rw [HCV.out]
          have hl : t - (p + 1) < (X.L.drop (p + 1)).length := by have := W.many_le nmB (X.L.drop (p + 1)); rw [HKK.out] at this; omega
          rw [chV_at (List.getElem?_eq_getElem hl)]
          exact W.many_all (by rw [HKK.out]; omega) (List.getElem?_eq_getElem hl)
        have hch := Lib.hid (HCH.out (t + 1) (by omega))
        rw [nm_iff, Bool.or_eq_true] at hnm
        have hpl := Lib.hid (plain_any (chV X.L t) w)
        generalize chV X.L t = x at *
        rcases hnm with hnm | hnm
        · rw [hnm] at hpl
          go_wp2_with fail
          refine hpl.out.mono ?_
          rintro e w1 ⟨rfl, rfl⟩
          go_wp2_with fail
          refine hch.out.mono ?_
          rintro e w1 ⟨rfl, rfl⟩
          go_wp2_with fail
          go_roundw
          case rel => exact ⟨t + 1, by omega, by omega, by go_num, rfl, by trivial⟩
          case measure => simp [intOf]; omega
        · cases hpb : Q.plainB x with
          | true =>
            rw [hpb] at hpl
            go_wp2_with fail
            refine hpl.out.mono ?_
            rintro e w1 ⟨rfl, rfl⟩
            go_wp2_with fail
            refine hch.out.mono ?_
            rintro e w1 ⟨rfl, rfl⟩
            go_wp2_with fail
            go_roundw
            case rel => exact ⟨t + 1, by omega, by omega, by go_num, rfl, by trivial⟩
            case measure => simp [intOf]; omega
          | false =>
            rw [hpb] at hpl
            go_wp2_with fail
            refine hpl.out.mono ?_
            rintro e w1 ⟨rfl, rfl⟩
            go_wp2_with fail
            refine hch.out.mono ?_
            rintro e w1 ⟨rfl, rfl⟩
            go_wp2_with fail
            go_roundw
            case rel => exact ⟨t + 1, by omega, by omega, by go_num, rfl, by trivial⟩
            case measure => simp [intOf]; omega
      · have hte : t = p + 1 + kk := by omega
        have hnm : nmB (chV X.L t) = false := by
          rw [HCV.out]
          rcases Nat.lt_or_ge (t - (p + 1)) (X.L.drop (p + 1)).length with hl | hl
          · rw [chV_at (List.getElem?_eq_getElem hl)]
            refine W.many_end (l := X.L.drop (p + 1)) ?_
            rw [HKK.out, show kk = t - (p + 1) by omega]; exact List.getElem?_eq_getElem hl
          · rw [chV_end hl]; exact nm_end
        rw [nm_iff, Bool.or_eq_false_iff] at hnm
        obtain ⟨hpb, h95⟩ := hnm
        have hpl := Lib.hid (plain_any (chV X.L t) w)
        generalize chV X.L t = x at *
        rw [hpb] at hpl
        have HTE := Lib.hid hte
        by_cases h16 : 16 < kk
        · have hfail := Lib.hid (fail_any HH.out (i := p) (by omega) 2)
          have HR : Hid (r = .bad 0 2) := by show _ = _; rw [HE.out, if_pos h16]
          have ht16 : (16 : Int) < (t : Int) - ((p : Int) + 1) := by omega
          clear hlt hte
          go_wp2_with fail
          refine hpl.out.mono ?_
          rintro e w1 ⟨rfl, rfl⟩
          go_wp2_with fail
          refine hfail.out.mono ?_
          rintro e w1 ⟨rfl, rfl⟩
          go_wp2_with fail
          refine ⟨rfl, ?_⟩
          rw [HR.out]
          exact ⟨rfl, Fr.refl _ _⟩
        · have HR : Hid (r = .tok 1 ((X.L.drop (p + 1)).takeWhile nmB) 0 0 kk) := by show _ = _; rw [HE.out, if_neg h16]
          have ht16 : ¬ (16 : Int) < (t : Int) - ((p : Int) + 1) := by omega
          have htn : t ≤ X.nc := by omega
          clear hlt hte
          go_wp2_with fail
          refine hpl.out.mono ?_
          rintro e w1 ⟨rfl, rfl⟩
          go_wp2_with fail
          have hfl : E.flat ((X.L.drop (p + 1)).takeWhile nmB) = (X.L.drop (p + 1)).takeWhile nmB := W.flat_same W.low_nm (W.all_takeW (W.all_drop HH.out.ok.ok _)) List.all_takeWhile
          have htk : (X.L.drop (p + 1)).take kk = (X.L.drop (p + 1)).takeWhile nmB := by rw [← HKK.out, W.take_many]
          obtain ⟨b3, off3, hA3, hq1, hq2, hq3, hrun⟩ := HH.out.run hk1 hkn htk hfl
          rw [← HTE.out] at hq1 hq2 hrun
          obtain ⟨b2, off2, hA2, _, hcA⟩ := HH.out.place (i := p + 1) (by omega)
          obtain ⟨b2', off2', hA2', _, hcB⟩ := HH.out.place (i := t) (by omega)
          rw [hA2] at hA2'
          injection hA2' with hA2'
          injection hA2' with e1 e2
          subst e1 e2
          rw [hA3] at c0
          rw [hA2] at c2
          have hpbA := HH.out.pbd (p + 1)
          have hpbB := HH.out.pbd t
          have hcv : (convert 22 9 (.slice (some ⟨b3, off3 + plc X.L (p + 1), none⟩) (plc X.L t - plc X.L (p + 1)) (X.ct - plc X.L (p + 1)))).run Tryz.prog w.drew = .ok (.string (strOfNums ((X.L.drop (p + 1)).takeWhile nmB))) w.drew := conv_any (hrun.drewN 1) _ 5 _ Tryz.underlying22 Tryz.underlying5 Tryz.underlying9
          have hput := Lib.hid (put_any (HH.out.drewN 1) 1 0 0 0 ((X.L.drop (p + 1)).takeWhile nmB) (q := t) htn (by omega))
          rw [HR.out]
          generalize plc X.L (p + 1) = plA at *
          generalize plc X.L t = plB at *
          generalize hss : strOfNums ((X.L.drop (p + 1)).takeWhile nmB) = ss at hcv hput
          generalize (X.L.drop (p + 1)).takeWhile nmB = nm at *
          have hnpA : ((p : Int) + 1) < (X.np : Int) := by have := HN3.out; omega
          have hnpB : (t : Int) < (X.np : Int) := by have := HN3.out; omega
          have hp0 : (0 : Int) ≤ (p : Int) + 1 := by omega
          have hp1 : (0 : Int) ≤ (t : Int) := by omega
          have hct : ¬ X.ct = plA := by omega
          have hle1 : plA ≤ plB := by omega
          have hle2 : plB ≤ X.ct := by omega
          have hle3 : plA ≤ X.ct := by omega
          clear hrun hfl htk hA2 hA3 HE HR hss c1 c4 c5 hlet HCV
          go_still_tail 23, (by kernel_rfl)
          change wpList _ _ _ _ _ w.drew
          go_wp2_with fail
          refine hput.out.mono ?_
          intro e w1 hP
          have HE := Lib.hid (stepP_tok (o := o) (m := kk) hP ((Fr.refl b w).drewN 1) rfl (by have := HTE.out; omega))
          obtain ⟨rfl, _, _⟩ := hP
          go_wp2_with fail
          exact bodyPost_ret (v := .tuple #[]) (by simp [results, Tryz.results165, go_sem]) rfl HE.out
end
end Go.Proofs.YtdhighnbbpngpaaGreatDoor
