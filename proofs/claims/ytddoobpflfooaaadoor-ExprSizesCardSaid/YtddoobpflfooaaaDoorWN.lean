/- The reader of word: a note. -/
import Derived.Test.YtddoobpflfooaaaDoorWL
import Derived.Test.YtddoobpflfooaaaDoorWM2
import Derived.Test.YtddoobpflfooaaaDoorLit
import Derived.Deep.RegionHeldLaw
set_option maxRecDepth 100000
namespace Go.Proofs.YtddoobpflfooaaaDoor
open Go.RowKit
open W (Tk St C lexS opn noLf many noteS allowB allowP)

theorem noLf_iff (c : Int) : noLf c = true ↔ c ≠ 10 := by unfold W.noLf; exact decide_eq_true_iff
/-- The cells that note loads. -/
def HeldN (b b2 off2 p t : Nat) (v0 v2 : Value) (plA plB : Nat) (w : World) : Prop :=
  w.cell? ⟨b, 0, none⟩ = some v0 ∧ w.cell? ⟨b, 2, none⟩ = some v2 ∧ w.cell? ⟨b, 3, none⟩ = some (.int .i64 p) ∧ w.cell? ⟨b2, off2 + p, none⟩ = some (.int .i64 plA) ∧ w.cell? ⟨b2, off2 + t, none⟩ = some (.int .i64 plB)
theorem HeldN.push {b b2 off2 p t : Nat} {v0 v2 : Value} {plA plB : Nat} {w : World} (h : HeldN b b2 off2 p t v0 v2 plA plB w) (o : Obj) : HeldN b b2 off2 p t v0 v2 plA plB (w.alloc o) := by
  obtain ⟨h0, h1, h2, h3, h4⟩ := h
  have hk : ∀ {a : Addr} {v : Value}, w.cell? a = some v → (w.alloc o).cell? a = some v := fun {a} {v} hc => ((kbelow_push w o).cell (klt_of_cell hc)).trans hc
  exact ⟨hk h0, hk h1, hk h2, hk h3, hk h4⟩
section
variable {X : Cx} {b : Nat} {w : World} {p o : Nat} {tv : Value} {ts : List Tk}
/-- The bytes of a run of characters. -/
theorem Rdv.run2 (h : Rdv X b w p o tv ts) {i j : Nat} (hj : 0 < j) (hij : i + j ≤ X.nc) : ∃ b2 off, X.At = some ⟨b2, off, none⟩ ∧ plc X.L i < plc X.L (i + j) ∧ plc X.L (i + j) ≤ X.nt ∧ X.nt ≤ X.ct ∧ RdK .u8 w b (some ⟨b2, off + plc X.L i, none⟩) (plc X.L (i + j) - plc X.L i) (X.ct - plc X.L i) (E.flat ((X.L.drop i).take j)) := by
  obtain ⟨n1, n2, n3, n4⟩ := h.nc
  obtain ⟨b2, off, hA, hlt, hcap, _⟩ := h.txt0 (by omega)
  have e := flat_mid X.L (i := i) (j := i + j) (by omega)
  rw [show i + j - i = j by omega, ← h.ok.flat] at e
  have hll : ((X.L.drop i).take j).length = j := by rw [List.length_take, List.length_drop]; omega
  have h1 : plc X.L (i + j) ≤ X.nt := by rw [← h.text.len, h.ok.flat]; exact plc_le _ _
  have h2 : plc X.L i ≤ plc X.L (i + j) := plc_mono _ (by omega)
  have hall : ((X.L.drop i).take j).all E.okb = true := List.all_eq_true.2 fun x hx => List.all_eq_true.1 h.ok.ok x (List.mem_of_mem_drop (List.mem_of_mem_take hx))
  have h3 : j ≤ plc X.L (i + j) - plc X.L i := by
    have h4 := congrArg List.length e
    rw [List.length_take, List.length_drop, h.text.len] at h4
    have h5 := W.flat_len hall
    omega
  have ht := h.text
  rw [hA] at ht
  have hm := ht.mid (lo := plc X.L i) (m := plc X.L (i + j) - plc X.L i) (by omega)
  rw [e] at hm
  exact ⟨b2, off, hA, by omega, h1, ht.cap, hm⟩
set_option maxHeartbeats 4000000 in
theorem note_any (h : Rdv X b w p o tv ts) (hp : p < X.nc) (hts : ts.length ≤ p) (hd : chV X.L p = 35) :
    Calls Tryd.prog 46 #[.pointer (some ⟨b, 0, none⟩)] w (StepP X b w p o ts (noteS (X.L.drop p))) := by
  obtain ⟨n1, n2, n3, n4⟩ := h.nc
  obtain ⟨c0, c1, c2, c3, c4, c5⟩ := h.cells
  have hsz := h.size
  have hok := Lib.hid h.ok.ok
  obtain ⟨bc, offc, xc, hAc, _, _, _⟩ := h.chars.got hp
  have HCC : Hid (∀ i x, X.L[i]? = some x → w.cell? ⟨bc, offc + i, none⟩ = some (.int .i64 x)) := fun i x hx => by
    obtain ⟨b', off', e, _, hc⟩ := h.chars.at_ (by omega)
    rw [hAc] at e
    injection e with e; injection e with e1 e2 _; subst e1 e2
    exact hc i x hx
  rw [hAc] at c1
  have HH := Lib.hid h
  have HN1 := Lib.hid n1
  have HN3 := Lib.hid n3
  have hk1 : 0 < many noLf (X.L.drop p) := by
    have h0 : X.L[p]? = some 35 := chV_get hd (by decide)
    obtain ⟨hi, e⟩ := List.getElem?_eq_some_iff.1 h0
    rw [drop_cons hi, e, W.many_cons (by decide)]; omega
  have hkn : p + many noLf (X.L.drop p) ≤ X.nc := by have := W.many_le noLf (X.L.drop p); rw [List.length_drop, n1] at this; omega
  generalize hkk : many noLf (X.L.drop p) = kk at hk1 hkn
  have HKK := Lib.hid hkk
  generalize hr : noteS (X.L.drop p) = r
  unfold W.noteS at hr
  rw [hkk, ← W.take_many, hkk] at hr
  have HR := Lib.hid hr
  clear h n1 n3 hAc hkk hr hd
  go_enter Tryd.func46, Tryd.ntmps46
  go_wp2_with fail
  go_loopw [2] (fun tv wx => ∃ t : Nat, p ≤ t ∧ t ≤ p + kk ∧ tv = .int .i64 t ∧ w = wx) (fun tv _ => X.nc - (intOf tv).toNat)
  case atStart => exact ⟨p, by omega, by omega, rfl, by trivial⟩
  case round =>
    obtain ⟨t, ht0, ht1, rfl, rfl⟩ := hrel
    by_cases hlt : t < p + kk
    · have hl : t - p < (X.L.drop p).length := by have := W.many_le noLf (X.L.drop p); rw [HKK.out] at this; omega
      have hx : X.L[t]? = some ((X.L.drop p)[t - p]'hl) := by rw [← List.getElem?_eq_getElem hl, List.getElem?_drop, show p + (t - p) = t by omega]
      have hnl : noLf ((X.L.drop p)[t - p]'hl) = true := W.many_all (by rw [HKK.out]; omega) (List.getElem?_eq_getElem hl)
      have hc := HCC.out t _ hx
      generalize (X.L.drop p)[t - p]'hl = x at hx hnl hc
      rw [noLf_iff] at hnl
      have g10 : (x != 10) = true := by simpa using hnl
      have htn : (t : Int) < (X.nc : Int) := by omega
      have ht00 : (0 : Int) ≤ (t : Int) := by omega
      clear hx hnl hl
      go_wp2_with fail
      go_roundw
      case rel => exact ⟨t + 1, by omega, by omega, by go_num, by trivial⟩
      case measure => simp [intOf]; omega
    · have hte : t = p + kk := by omega
      have HTE := Lib.hid hte
      have htn : t ≤ X.nc := by omega
      have hend : t = X.nc ∨ t < X.nc ∧ X.L[t]? = some 10 := by
        rcases Nat.lt_or_ge t X.nc with h1 | h1
        · right
          refine ⟨h1, ?_⟩
          have hl : kk < (X.L.drop p).length := by rw [List.length_drop, HN1.out]; omega
          have h2 := W.many_end (p := noLf) (l := X.L.drop p) (x := (X.L.drop p)[kk]'hl) (by rw [HKK.out]; exact List.getElem?_eq_getElem hl)
          have h3 : (X.L.drop p)[kk]'hl = 10 := by
            have h4 : ¬ noLf ((X.L.drop p)[kk]'hl) = true := by rw [h2]; decide
            rw [noLf_iff] at h4
            omega
          rw [hte, ← h3, ← List.getElem?_eq_getElem hl, List.getElem?_drop]
        · left; omega
      clear hlt hte
      go_upto_region 1 with fail
      go_cut [27] (fun v wx => v = .bool false ∧ w = wx)
      case first =>
        rcases hend with h1 | ⟨h1, h2⟩
        · subst h1
          go_wp2_with fail
          go_meet
          exact ⟨rfl, rfl⟩
        · have hc := HCC.out t _ h2
          have htn2 : (t : Int) < (X.nc : Int) := by omega
          have ht00 : (0 : Int) ≤ (t : Int) := by omega
          go_wp2_with fail
          go_meet
          exact ⟨rfl, rfl⟩
      case rest =>
        obtain ⟨rfl, rfl⟩ := hcut
        clear hend
        obtain ⟨b3, off3, hA3, hq1, hq2, hq3, hrun⟩ := HH.out.run2 hk1 hkn
        rw [← HTE.out] at hq1 hq2 hrun
        obtain ⟨b2, off2, hA2, _, hcA⟩ := HH.out.place (i := p) (by omega)
        obtain ⟨b2', off2', hA2', _, hcB⟩ := HH.out.place (i := t) htn
        rw [hA2] at hA2'
        injection hA2' with hA2'
        injection hA2' with e1 e2
        subst e1 e2
        rw [hA3] at c0
        rw [hA2] at c2
        have hpbA := HH.out.pbd p
        have hpbB := HH.out.pbd t
        have hB1 := kbelow_push w.drew (.cells #[.int .u8 35, .int .u8 97, .int .u8 108, .int .u8 108, .int .u8 111, .int .u8 119, .int .u8 32] 5)
        have hlit := rd_lit_m w.drew (7, 8) .u8 allowP 5 #[.int .u8 35, .int .u8 97, .int .u8 108, .int .u8 108, .int .u8 111, .int .u8 119, .int .u8 32] rfl (by decide)
        have q0 : (convert 34 34 (.slice (some ⟨w.heap.size, 0, none⟩) 7 7)).run Tryd.prog (w.alloc (.cells #[.int .u8 35, .int .u8 97, .int .u8 108, .int .u8 108, .int .u8 111, .int .u8 119, .int .u8 32] 5)).drew = .ok (.slice (some ⟨w.heap.size, 0, none⟩) 7 7) (w.alloc (.cells #[.int .u8 35, .int .u8 97, .int .u8 108, .int .u8 108, .int .u8 111, .int .u8 119, .int .u8 32] 5 (7, 8))).drew := Lib.run_convert_bytes_const w.drew 34 5 #[.int .u8 35, .int .u8 97, .int .u8 108, .int .u8 108, .int .u8 111, .int .u8 119, .int .u8 32] 7 7 Tryd.underlying34 Tryd.underlying5
        have hrun1 := ((hrun.drewN 1).more (B' := w.heap.size) (by omega)).push (.cells #[.int .u8 35, .int .u8 97, .int .u8 108, .int .u8 108, .int .u8 111, .int .u8 119, .int .u8 32] 5 (7, 8))
        have hpre := Lib.hid (pre_any hrun1 (HH.out.byt _) hlit)
        have HK0 : Hid (HeldN b b2 off2 p t (.slice (some ⟨b3, off3, none⟩) X.nt X.ct) (.slice (some ⟨b2, off2, none⟩) X.np X.cp) (plc X.L p) (plc X.L t) w.drew) := ⟨c0, c2, c3, hcA, hcB⟩
        have HK1 := Lib.hid (HK0.out.push (.cells #[.int .u8 35, .int .u8 97, .int .u8 108, .int .u8 108, .int .u8 111, .int .u8 119, .int .u8 32] 5))
        have HK2 := Lib.hid (HK0.out.push (.cells #[.int .u8 35, .int .u8 97, .int .u8 108, .int .u8 108, .int .u8 111, .int .u8 119, .int .u8 32] 5 (7, 8)))
        have HB1 := Lib.hid (kbelow_push w.drew (.cells #[.int .u8 35, .int .u8 97, .int .u8 108, .int .u8 108, .int .u8 111, .int .u8 119, .int .u8 32] 5 (7, 8)))
        have hnpA : (p : Int) < (X.np : Int) := by have := HN3.out; omega
        have hnpB : (t : Int) < (X.np : Int) := by have := HN3.out; omega
        have hp0 : (0 : Int) ≤ (p : Int) := by omega
        have hp1 : (0 : Int) ≤ (t : Int) := by omega
        generalize hplA : plc X.L p = plA at *
        generalize hplB : plc X.L t = plB at *
        have hct : ¬ X.ct = plA := by omega
        have hle1 : plA ≤ plB := by omega
        have hle2 : plB ≤ X.ct := by omega
        have hle3 : plA ≤ X.ct := by omega
        have HPA := Lib.hid hplA
        clear hrun hrun1 hlit hA2 hA3 hB1 hplA hplB c0 c2 hcA hcB c1 c4 c5
        go_wp2_with fail
        go_region_held_law (fun w' => w'.cell? ⟨b, 0, none⟩ = some (.slice (some ⟨b3, off3, none⟩) X.nt X.ct) ∧ w'.cell? ⟨b, 2, none⟩ = some (.slice (some ⟨b2, off2, none⟩) X.np X.cp) ∧ w'.cell? ⟨b, 3, none⟩ = some (.int .i64 p) ∧ w'.cell? ⟨b2, off2 + p, none⟩ = some (.int .i64 plA) ∧ w'.cell? ⟨b2, off2 + t, none⟩ = some (.int .i64 plB)) (first | exact HK0.out | exact HK1.out | exact HK2.out) ((go_at_call 56; refine hpre.out.mono ?_; rintro e w5 ⟨b5, off5, n5, c5, rfl, rfl, h5⟩; have H5 := Lib.hid h5; clear h5))
        generalize hW5 : (w.drewN 1).alloc (.cells #[.int .u8 35, .int .u8 97, .int .u8 108, .int .u8 108, .int .u8 111, .int .u8 119, .int .u8 32] 5 (7, 8)) = W5
        have H5' : Hid ((E.flat ((X.L.drop p).take kk)).take 7 = allowP → RdK .u8 W5 W5.heap.size (some ⟨b5, off5, none⟩) n5 c5 ((E.flat ((X.L.drop p).take kk)).drop 7)) := by rw [← hW5]; exact H5.out
        have HB5 : Hid (Below w.heap.size w W5) := by rw [← hW5]; exact ⟨HB1.out.os, HB1.out.tape, HB1.out.output, HB1.out.size, HB1.out.block⟩
        have hall : ((X.L.drop p).take kk).all E.okb = true := List.all_eq_true.2 fun x hx => List.all_eq_true.1 hok.out x (List.mem_of_mem_drop (List.mem_of_mem_take hx))
        have hfp := W.flat_pre allowP W.allow_low hall
        rw [show allowP.length = 7 from rfl] at hfp
        have hlen7 : (E.flat ((X.L.drop p).take kk)).length ≤ 3000 := by
          have h1 := E.flat_mono (X.L.drop p) kk
          have h2 := congrArg List.length (flat_cut X.L p)
          rw [List.length_drop, ← HH.out.ok.flat] at h2
          have h3 := HH.out.ok.few
          omega
        clear hW5 H5 HB1 HK0 HK1 HK2 hpre q0
        have HR5 := Lib.hid (HH.out.below HB5.out)
        have HF5 := Lib.hid (Fr.below HB5.out hsz)
        have hsz5 : b + 4 ≤ W5.heap.size := HR5.out.size
        have c35 : W5.cell? ⟨b, 3, none⟩ = some (.int .i64 p) := HR5.out.cells.2.2.2.1
        have f35 := HR5.out.fr 3
        generalize hs : (X.L.drop p).take kk = s at *
        by_cases hpf : s.take 7 = allowP
        · have hpf2 := hfp.1.2 hpf
          have hrw := H5'.out hpf2
          rw [hfp.2 hpf] at hrw
          rw [decide_eq_true hpf2]
          have hbyt : Byt (E.flat (s.drop 7)) := HH.out.byt _
          have hn5 : n5 ≤ 3000 := by
            have h1 := hrw.len
            rw [← hfp.2 hpf, List.length_drop] at h1
            omega
          have hal := allow_any hrw hbyt hn5
          have HR2 := Lib.hid HR.out
          rw [if_pos hpf] at HR2
          have hfa : allowB (E.flat (s.drop 7)) = allowB (s.drop 7) := W.flat_allow (W.all_drop hall 7)
          unfold AllP at hal
          rw [hfa] at hal
          have HAL := Lib.hid hal
          clear hal hrw hfp hpf hpf2 hbyt hfa hall hlen7 H5' HR
          cases hav : allowB (s.drop 7) with
          | none =>
            rw [hav] at HAL HR2
            have hr2 := HR2.out
            simp only at hr2
            subst hr2
            go_wp2_with fail
            refine HAL.out.mono ?_
            rintro e w6 ⟨hb6, rfl⟩
            have HF6 := Lib.hid (HF5.out.trans (Fr.below hb6 hsz5))
            have hb7 := hb6.trans ((kbelow_push w6 (.cells #[.int .i64 0, .string { data := #[] }, .int .i64 0, .int .i64 0, .int .i64 0] 64)).mono hb6.size)
            have hR7 := HR5.out.below hb7
            have c37 : (w6.alloc (.cells #[.int .i64 0, .string { data := #[] }, .int .i64 0, .int .i64 0, .int .i64 0] 64)).cell? ⟨b, 3, none⟩ = some (.int .i64 p) := hR7.cells.2.2.2.1
            have hfail := Lib.hid (fail_any hR7 (i := p) (by omega) 4)
            have HF7 := Lib.hid (HF5.out.trans (Fr.below hb7 hsz5))
            have hne : ¬ b = w6.heap.size := by have := hb6.size; omega
            clear hb6 hb7 hR7 hav
            unfold tokV
            go_wp2_with fail
            refine hfail.out.mono ?_
            rintro e w8 ⟨rfl, rfl⟩
            go_wp2_with fail
            exact ⟨rfl, rfl, HF7.out⟩
          | some x =>
            obtain ⟨kx, vx⟩ := x
            rw [hav] at HAL HR2
            have hr2 := HR2.out
            simp only at hr2
            subst hr2
            have HAL2 := Lib.hid HAL.out
            simp only at HAL2
            clear HAL
            go_wp2_with fail
            refine HAL2.out.mono ?_
            rintro e w6 ⟨hb6, rfl⟩
            generalize hks : strOfNums kx = ks
            have hb7 := hb6.trans ((kbelow_push w6 (.cells #[.int .i64 19, .string ks, .int .i64 vx, .int .i64 0, .int .i64 0] 64)).mono hb6.size)
            have hR7 := HR5.out.below hb7
            have hput := put_any hR7 19 vx 0 0 kx (q := t) htn (by omega)
            rw [hks] at hput
            have HPUT := Lib.hid hput
            have HF7 := Lib.hid (HF5.out.trans (Fr.below hb7 hsz5))
            clear hb6 hb7 hR7 hav hks hput
            unfold tokV
            go_wp2_with fail
            refine HPUT.out.mono ?_
            intro e w8 hP
            have HE := Lib.hid (stepP_tok (o := o) (m := kk - 1) hP HF7.out rfl (by have := HTE.out; omega))
            obtain ⟨rfl, _, _⟩ := hP
            go_wp2_with fail
            exact bodyPost_ret (v := .tuple #[]) (by simp [results, Tryd.results46, go_sem]) rfl HE.out
        · rw [decide_eq_false (fun h' => hpf (hfp.1.1 h'))]
          have hr2 := HR.out
          rw [if_neg hpf] at hr2
          subst hr2
          have HE : Hid (StepP X b w p o ts (.skip (kk - 1)) (.returned (.tuple #[])) (W5.setCell ⟨b, 3, none⟩ (.int .i64 t))) := by
            refine ⟨rfl, ?_, HF5.out.set 3 _⟩
            rw [show p + (kk - 1) + 1 = t by have := HTE.out; omega]
            exact ⟨_, HR5.out.at_ htn⟩
          clear hfp hpf hall hlen7 H5' HR
          go_wp2_with fail
          exact bodyPost_ret (v := .tuple #[]) (by simp [results, Tryd.results46, go_sem]) rfl HE.out
end
end Go.Proofs.YtddoobpflfooaaaDoor
