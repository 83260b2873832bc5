/- The reader of word: a note. The reader of word: the next token, outside of sets and in one. The reader of word: the next token in a set. word.read catches what its reader panics with. word.read: all of a text. The program's word.Of. -/
import Derived.Test.YtdhighnbbpngpaaGreatDoorWL
import Derived.Test.YtdhighnbbpngpaaGreatDoorWM2
import Derived.Test.YtdhighnbbpngpaaGreatDoorLit
import Derived.Deep.RegionHeldLaw
import Derived.Test.YtdhighnbbpngpaaGreatDoorB8d
set_option maxRecDepth 100000
namespace Go.Proofs.YtdhighnbbpngpaaGreatDoor
open Go.RowKit
open W (Tk St C lexS opn noLf many noteS allowB allowP)

theorem noLf_iff (c : Int) : noLf c = true ↔ c ≠ 10 := by unfold W.noLf; exact decide_eq_true_iff
/-- The cells that note loads. -/
def HeldN (b b2 off2 p t : Nat) (v0 v2 : Value) (plA plB : Nat) (w : World) : Prop :=
  w.cell? ⟨b, 0, none⟩ = some v0 ∧ w.cell? ⟨b, 2, none⟩ = some v2 ∧ w.cell? ⟨b, 3, none⟩ = some (.int .i64 p) ∧ w.cell? ⟨b2, off2 + p, none⟩ = some (.int .i64 plA) ∧ w.cell? ⟨b2, off2 + t, none⟩ = some (.int .i64 plB)
theorem HeldN.push {b b2 off2 p t : Nat} {v0 v2 : Value} {plA plB : Nat} {w : World} (h : HeldN b b2 off2 p t v0 v2 plA plB w) (o : Obj) : HeldN b b2 off2 p t v0 v2 plA plB (w.alloc o) := by
  obtain ⟨h0, h1, h2, h3, h4⟩ := h
  have hk : ∀ {a : Addr} {v : Value}, w.cell? a = some v → (w.alloc o).cell? a = some v := fun {a} {v} hc => ((kbelow_push w o).cell (klt_of_cell hc)).trans hc
  exact ⟨hk h0, hk h1, hk h2, hk h3, hk h4⟩
section
variable {X : Cx} {b : Nat} {w : World} {p o : Nat} {tv : Value} {ts : List Tk}
/-- The bytes of a run of characters. -/
theorem Rdv.run2 (h : Rdv X b w p o tv ts) {i j : Nat} (hj : 0 < j) (hij : i + j ≤ X.nc) : ∃ b2 off, X.At = some ⟨b2, off, none⟩ ∧ plc X.L i < plc X.L (i + j) ∧ plc X.L (i + j) ≤ X.nt ∧ X.nt ≤ X.ct ∧ RdK .u8 w b (some ⟨b2, off + plc X.L i, none⟩) (plc X.L (i + j) - plc X.L i) (X.ct - plc X.L i) (E.flat ((X.L.drop i).take j)) := by
  obtain ⟨n1, n2, n3, n4⟩ := h.nc
  obtain ⟨b2, off, hA, hlt, hcap, _⟩ := h.txt0 (by omega)
  have e := flat_mid X.L (i := i) (j := i + j) (by omega)
  rw [show i + j - i = j by omega, ← h.ok.flat] at e
  have hll : ((X.L.drop i).take j).length = j := by rw [List.length_take, List.length_drop]; omega
  have h1 : plc X.L (i + j) ≤ X.nt := by rw [← h.text.len, h.ok.flat]; exact plc_le _ _
  have h2 : plc X.L i ≤ plc X.L (i + j) := plc_mono _ (by omega)
  have hall : ((X.L.drop i).take j).all E.okb = true := List.all_eq_true.2 fun x hx => List.all_eq_true.1 h.ok.ok x (List.mem_of_mem_drop (List.mem_of_mem_take hx))
  have h3 : j ≤ plc X.L (i + j) - plc X.L i := by
    have h4 := congrArg List.length e
    rw [List.length_take, List.length_drop, h.text.len] at h4
    have h5 := W.flat_len hall
    omega
  have ht := h.text
  rw [hA] at ht
  have hm := ht.mid (lo := plc X.L i) (m := plc X.L (i + j) - plc X.L i) (by omega)
  rw [e] at hm
  exact ⟨b2, off, hA, by omega, h1, ht.cap, hm⟩
set_option maxHeartbeats 4000000 in
theorem note_any (h : Rdv X b w p o tv ts) (hp : p < X.nc) (hts : ts.length ≤ p) (hd : chV X.L p = 35) :
    Calls Tryz.prog 171 #[.pointer (some ⟨b, 0, none⟩)] w (StepP X b w p o ts (noteS (X.L.drop p))) := by
  obtain ⟨n1, n2, n3, n4⟩ := h.nc
  obtain ⟨c0, c1, c2, c3, c4, c5⟩ := h.cells
  have hsz := h.size
  have hok := Lib.hid h.ok.ok
  obtain ⟨bc, offc, xc, hAc, _, _, _⟩ := h.chars.got hp
  have HCC : Hid (∀ i x, X.L[i]? = some x → w.cell? ⟨bc, offc + i, none⟩ = some (.int .i64 x)) := fun i x hx => by
    obtain ⟨b', off', e, _, hc⟩ := h.chars.at_ (by omega)
    rw [hAc] at e
    injection e with e; injection e with e1 e2 _; subst e1 e2
    exact hc i x hx
  rw [hAc] at c1
  have HH := Lib.hid h
  have HN1 := Lib.hid n1
  have HN3 := Lib.hid n3
  have hk1 : 0 < many noLf (X.L.drop p) := by
    have h0 : X.L[p]? = some 35 := chV_get hd (by decide)
    obtain ⟨hi, e⟩ := List.getElem?_eq_some_iff.1 h0
    rw [drop_cons hi, e, W.many_cons (by decide)]; omega
  have hkn : p + many noLf (X.L.drop p) ≤ X.nc := by have := W.many_le noLf (X.L.drop p); rw [List.length_drop, n1] at this; omega
  generalize hkk : many noLf (X.L.drop p) = kk at hk1 hkn
  have HKK := Lib.hid hkk
  generalize hr : noteS (X.L.drop p) = r
  unfold W.noteS at hr
  rw [hkk, ← W.take_many, hkk] at hr
  have HR := Lib.hid hr
  clear h n1 n3 hAc hkk hr hd
  go_enter Tryz.func171, Tryz.ntmps171
  go_wp2_with fail
  go_loopw [2] (fun tv wx => ∃ t : Nat, p ≤ t ∧ t ≤ p + kk ∧ tv = .int .i64 t ∧ w = wx) (fun tv _ => X.nc - (intOf tv).toNat)
  case atStart => exact ⟨p, by omega, by omega, rfl, by trivial⟩
  case round =>
    obtain ⟨t, ht0, ht1, rfl, rfl⟩ := hrel
    by_cases hlt : t < p + kk
    · have hl : t - p < (X.L.drop p).length := by have := W.many_le noLf (X.L.drop p); rw [HKK.out] at this; omega
      have hx : X.L[t]? = some ((X.L.drop p)[t - p]'hl) := by rw [← List.getElem?_eq_getElem hl, List.getElem?_drop, show p + (t - p) = t by omega]
      have hnl : noLf ((X.L.drop p)[t - p]'hl) = true := W.many_all (by rw [HKK.out]; omega) (List.getElem?_eq_getElem hl)
      have hc := HCC.out t _ hx
      generalize (X.L.drop p)[t - p]'hl = x at hx hnl hc
      rw [noLf_iff] at hnl
      have g10 : (x != 10) = true := by simpa using hnl
      have htn : (t : Int) < (X.nc : Int) := by omega
      have ht00 : (0 : Int) ≤ (t : Int) := by omega
      clear hx hnl hl
      go_wp2_with fail
      go_roundw
      case rel => exact ⟨t + 1, by omega, by omega, by go_num, by trivial⟩
      case measure => simp [intOf]; omega
    · have hte : t = p + kk := by omega
      have HTE := Lib.hid hte
      have htn : t ≤ X.nc := by omega
      have hend : t = X.nc ∨ t < X.nc ∧ X.L[t]? = some 10 := by
        rcases Nat.lt_or_ge t X.nc with h1 | h1
        · right
          refine ⟨h1, ?_⟩
          have hl : kk < (X.L.drop p).length := by rw [List.length_drop, HN1.out]; omega
          have h2 := W.many_end (p := noLf) (l := X.L.drop p) (x := (X.L.drop p)[kk]'hl) (by rw [HKK.out]; exact List.getElem?_eq_getElem hl)
          have h3 : (X.L.drop p)[kk]'hl = 10 := by
            have h4 : ¬ noLf ((X.L.drop p)[kk]'hl) = true := by rw [h2]; decide
            rw [noLf_iff] at h4
            omega
          rw [hte, ← h3, ← List.getElem?_eq_getElem hl, List.getElem?_drop]
        · left; omega
      clear hlt hte
      go_upto_region 1 with fail
      go_cut [27] (fun v wx => v = .bool false ∧ w = wx)
      case first =>
        rcases hend with h1 | ⟨h1, h2⟩
        · subst h1
          go_wp2_with fail
          go_meet
          exact ⟨rfl, rfl⟩
        · have hc := HCC.out t _ h2
          have htn2 : (t : Int) < (X.nc : Int) := by omega
          have ht00 : (0 : Int) ≤ (t : Int) := by omega
          go_wp2_with fail
          go_meet
          exact ⟨rfl, rfl⟩
      case rest =>
        obtain ⟨rfl, rfl⟩ := hcut
        clear hend
        obtain ⟨b3, off3, hA3, hq1, hq2, hq3, hrun⟩ := HH.out.run2 hk1 hkn
        rw [← HTE.out] at hq1 hq2 hrun
        obtain ⟨b2, off2, hA2, _, hcA⟩ := HH.out.place (i := p) (by omega)
        obtain ⟨b2', off2', hA2', _, hcB⟩ := HH.out.place (i := t) htn
        rw [hA2] at hA2'
        injection hA2' with hA2'
        injection hA2' with e1 e2
        subst e1 e2
        rw [hA3] at c0
        rw [hA2] at c2
        have hpbA := HH.out.pbd p
        have hpbB := HH.out.pbd t
        have hB1 := kbelow_push w.drew (.cells #[.int .u8 35, .int .u8 97, .int .u8 108, .int .u8 108, .int .u8 111, .int .u8 119, .int .u8 32] 5)
        have hlit := rd_lit_m w.drew (7, 8) .u8 allowP 5 #[.int .u8 35, .int .u8 97, .int .u8 108, .int .u8 108, .int .u8 111, .int .u8 119, .int .u8 32] rfl (by decide)
        have q0 : (convert 22 22 (.slice (some ⟨w.heap.size, 0, none⟩) 7 7)).run Tryz.prog (w.alloc (.cells #[.int .u8 35, .int .u8 97, .int .u8 108, .int .u8 108, .int .u8 111, .int .u8 119, .int .u8 32] 5)).drew = .ok (.slice (some ⟨w.heap.size, 0, none⟩) 7 7) (w.alloc (.cells #[.int .u8 35, .int .u8 97, .int .u8 108, .int .u8 108, .int .u8 111, .int .u8 119, .int .u8 32] 5 (7, 8))).drew := Lib.run_convert_bytes_const w.drew 22 5 #[.int .u8 35, .int .u8 97, .int .u8 108, .int .u8 108, .int .u8 111, .int .u8 119, .int .u8 32] 7 7 Tryz.underlying22 Tryz.underlying5
        have hrun1 := ((hrun.drewN 1).more (B' := w.heap.size) (by omega)).push (.cells #[.int .u8 35, .int .u8 97, .int .u8 108, .int .u8 108, .int .u8 111, .int .u8 119, .int .u8 32] 5 (7, 8))
        have hpre := Lib.hid (pre_any hrun1 (HH.out.byt _) hlit)
        have HK0 : Hid (HeldN b b2 off2 p t (.slice (some ⟨b3, off3, none⟩) X.nt X.ct) (.slice (some ⟨b2, off2, none⟩) X.np X.cp) (plc X.L p) (plc X.L t) w.drew) := ⟨c0, c2, c3, hcA, hcB⟩
        have HK1 := Lib.hid (HK0.out.push (.cells #[.int .u8 35, .int .u8 97, .int .u8 108, .int .u8 108, .int .u8 111, .int .u8 119, .int .u8 32] 5))
        have HK2 := Lib.hid (HK0.out.push (.cells #[.int .u8 35, .int .u8 97, .int .u8 108, .int .u8 108, .int .u8 111, .int .u8 119, .int .u8 32] 5 (7, 8)))
        have HB1 := Lib.hid (kbelow_push w.drew (.cells #[.int .u8 35, .int .u8 97, .int .u8 108, .int .u8 108, .int .u8 111, .int .u8 119, .int .u8 32] 5 (7, 8)))
        have hnpA : (p : Int) < (X.np : Int) := by have := HN3.out; omega
        have hnpB : (t : Int) < (X.np : Int) := by have := HN3.out; omega
        have hp0 : (0 : Int) ≤ (p : Int) := by omega
        have hp1 : (0 : Int) ≤ (t : Int) := by omega
        generalize hplA : plc X.L p = plA at *
        generalize hplB : plc X.L t = plB at *
        have hct : ¬ X.ct = plA := by omega
        have hle1 : plA ≤ plB := by omega
        have hle2 : plB ≤ X.ct := by omega
        have hle3 : plA ≤ X.ct := by omega
        have HPA := Lib.hid hplA
        clear hrun hrun1 hlit hA2 hA3 hB1 hplA hplB c0 c2 hcA hcB c1 c4 c5
        go_wp2_with fail
        go_region_held_law (fun w' => w'.cell? ⟨b, 0, none⟩ = some (.slice (some ⟨b3, off3, none⟩) X.nt X.ct) ∧ w'.cell? ⟨b, 2, none⟩ = some (.slice (some ⟨b2, off2, none⟩) X.np X.cp) ∧ w'.cell? ⟨b, 3, none⟩ = some (.int .i64 p) ∧ w'.cell? ⟨b2, off2 + p, none⟩ = some (.int .i64 plA) ∧ w'.cell? ⟨b2, off2 + t, none⟩ = some (.int .i64 plB)) (first | exact HK0.out | exact HK1.out | exact HK2.out) ((go_at_call 188; refine hpre.out.mono ?_; rintro e w5 ⟨b5, off5, n5, c5, rfl, rfl, h5⟩; have H5 := Lib.hid h5; clear h5))
        generalize hW5 : (w.drewN 1).alloc (.cells #[.int .u8 35, .int .u8 97, .int .u8 108, .int .u8 108, .int .u8 111, .int .u8 119, .int .u8 32] 5 (7, 8)) = W5
        have H5' : Hid ((E.flat ((X.L.drop p).take kk)).take 7 = allowP → RdK .u8 W5 W5.heap.size (some ⟨b5, off5, none⟩) n5 c5 ((E.flat ((X.L.drop p).take kk)).drop 7)) := by rw [← hW5]; exact H5.out
        have HB5 : Hid (Below w.heap.size w W5) := by rw [← hW5]; exact ⟨HB1.out.os, HB1.out.tape, HB1.out.output, HB1.out.size, HB1.out.block⟩
        have hall : ((X.L.drop p).take kk).all E.okb = true := List.all_eq_true.2 fun x hx => List.all_eq_true.1 hok.out x (List.mem_of_mem_drop (List.mem_of_mem_take hx))
        have hfp := W.flat_pre allowP W.allow_low hall
        rw [show allowP.length = 7 from rfl] at hfp
        have hlen7 : (E.flat ((X.L.drop p).take kk)).length ≤ 3000 := by
          have h1 := E.flat_mono (X.L.drop p) kk
          have h2 := congrArg List.length (flat_cut X.L p)
          rw [List.length_drop, ← HH.out.ok.flat] at h2
          have h3 := HH.out.ok.few
          omega
        clear hW5 H5 HB1 HK0 HK1 HK2 hpre q0
        have HR5 := Lib.hid (HH.out.below HB5.out)
        have HF5 := Lib.hid (Fr.below HB5.out hsz)
        have hsz5 : b + 4 ≤ W5.heap.size := HR5.out.size
        have c35 : W5.cell? ⟨b, 3, none⟩ = some (.int .i64 p) := HR5.out.cells.2.2.2.1
        have f35 := HR5.out.fr 3
        generalize hs : (X.L.drop p).take kk = s at *
        by_cases hpf : s.take 7 = allowP
        · have hpf2 := hfp.1.2 hpf
          have hrw := H5'.out hpf2
          rw [hfp.2 hpf] at hrw
          rw [decide_eq_true hpf2]
          have hbyt : Byt (E.flat (s.drop 7)) := HH.out.byt _
          have hn5 : n5 ≤ 3000 := by
            have h1 := hrw.len
            rw [← hfp.2 hpf, List.length_drop] at h1
            omega
          have hal := allow_any hrw hbyt hn5
          have HR2 := Lib.hid HR.out
          rw [if_pos hpf] at HR2
          have hfa : allowB (E.flat (s.drop 7)) = allowB (s.drop 7) := W.flat_allow (W.all_drop hall 7)
          unfold AllP at hal
          rw [hfa] at hal
          have HAL := Lib.hid hal
          clear hal hrw hfp hpf hpf2 hbyt hfa hall hlen7 H5' HR
          cases hav : allowB (s.drop 7) with
          | none =>
            rw [hav] at HAL HR2
            have hr2 := HR2.out
            simp only at hr2
            subst hr2
            go_wp2_with fail
            refine HAL.out.mono ?_
            rintro e w6 ⟨hb6, rfl⟩
            have HF6 := Lib.hid (HF5.out.trans (Fr.below hb6 hsz5))
            have hb7 := hb6.trans ((kbelow_push w6 (.cells #[.int .i64 0, .string { data := #[] }, .int .i64 0, .int .i64 0, .int .i64 0] 95)).mono hb6.size)
            have hR7 := HR5.out.below hb7
            have c37 : (w6.alloc (.cells #[.int .i64 0, .string { data := #[] }, .int .i64 0, .int .i64 0, .int .i64 0] 95)).cell? ⟨b, 3, none⟩ = some (.int .i64 p) := hR7.cells.2.2.2.1
            have hfail := Lib.hid (fail_any hR7 (i := p) (by omega) 4)
            have HF7 := Lib.hid (HF5.out.trans (Fr.below hb7 hsz5))
            have hne : ¬ b = w6.heap.size := by have := hb6.size; omega
            clear hb6 hb7 hR7 hav
            unfold tokV
            go_wp2_with fail
            refine hfail.out.mono ?_
            rintro e w8 ⟨rfl, rfl⟩
            go_wp2_with fail
            exact ⟨rfl, rfl, HF7.out⟩
          | some x =>
            obtain ⟨kx, vx⟩ := x
            rw [hav] at HAL HR2
            have hr2 := HR2.out
            simp only at hr2
            subst hr2
            have HAL2 := Lib.hid HAL.out
            simp only at HAL2
            clear HAL
            go_wp2_with fail
            refine HAL2.out.mono ?_
            rintro e w6 ⟨hb6, rfl⟩
            generalize hks : strOfNums kx = ks
            have hb7 := hb6.trans ((kbelow_push w6 (.cells #[.int .i64 19, .string ks, .int .i64 vx, .int .i64 0, .int .i64 0] 95)).mono hb6.size)
            have hR7 := HR5.out.below hb7
            have hput := put_any hR7 19 vx 0 0 kx (q := t) htn (by omega)
            rw [hks] at hput
            have HPUT := Lib.hid hput
            have HF7 := Lib.hid (HF5.out.trans (Fr.below hb7 hsz5))
            clear hb6 hb7 hR7 hav hks hput
            unfold tokV
            go_wp2_with fail
            refine HPUT.out.mono ?_
            intro e w8 hP
            have HE := Lib.hid (stepP_tok (o := o) (m := kk - 1) hP HF7.out rfl (by have := HTE.out; omega))
            obtain ⟨rfl, _, _⟩ := hP
            go_wp2_with fail
            exact bodyPost_ret (v := .tuple #[]) (by simp [results, Tryz.results171, go_sem]) rfl HE.out
        · rw [decide_eq_false (fun h' => hpf (hfp.1.1 h'))]
          have hr2 := HR.out
          rw [if_neg hpf] at hr2
          subst hr2
          have HE : Hid (StepP X b w p o ts (.skip (kk - 1)) (.returned (.tuple #[])) (W5.setCell ⟨b, 3, none⟩ (.int .i64 t))) := by
            refine ⟨rfl, ?_, HF5.out.set 3 _⟩
            rw [show p + (kk - 1) + 1 = t by have := HTE.out; omega]
            exact ⟨_, HR5.out.at_ htn⟩
          clear hfp hpf hall hlen7 H5' HR
          go_wp2_with fail
          exact bodyPost_ret (v := .tuple #[]) (by simp [results, Tryz.results171, go_sem]) rfl HE.out
end
end Go.Proofs.YtdhighnbbpngpaaGreatDoor
namespace Go.Proofs.YtdhighnbbpngpaaGreatDoor
open Go.RowKit
open W (Tk St C lexS opn dgB signK outS inS stepS lastK nameS setS numT noteS charsS)

section
variable {X : Cx} {b : Nat} {w : World} {p o : Nat} {tv : Value} {ts : List Tk}
theorem StepP.on {w0 : World} {r : St} {e : Ending} {w' : World} (h : StepP X b w p o ts r e w') (hf : Fr b w0 w) : StepP X b w0 p o ts r e w' := by
  cases r with
  | tok k x lo hi m => exact ⟨h.1, h.2.1, hf.trans h.2.2⟩
  | skip m => exact ⟨h.1, h.2.1, hf.trans h.2.2⟩
  | bad k er => exact ⟨h.1, hf.trans h.2⟩
/-- How a method that reads a token ends. -/
theorem StepP.ends {r : St} {e : Ending} {w' : World} (h : StepP X b w p o ts r e w') : e = .returned (.tuple #[]) ∨ ∃ c, e = .panicked c := by
  cases r with
  | tok k x lo hi m => exact .inl h.1
  | skip m => exact .inl h.1
  | bad k er => exact .inr ⟨_, h.1⟩
theorem signK_rest {c : Int} (h : c ≠ 36) (h2 : dgB c = false) (h3 : c ≠ 91) (h4 : c ≠ 35) (t : List Int) : outS c t = if signK c = 0 then .bad 0 4 else .tok (signK c) [] 0 0 0 := by
  unfold W.outS; rw [if_neg h, if_neg (by rw [h2]; decide), if_neg h3, if_neg h4]
theorem sign_opn {c : Int} (o : Nat) : opn (signK c) o = o := by
  have h : signK c ≠ 13 ∧ signK c ≠ 14 := by unfold W.signK; (repeat' split) <;> omega
  unfold W.opn; rw [if_neg h.1, if_neg h.2]
set_option maxHeartbeats 2000000 in
theorem outside_any (h : Rdv X b w p o tv ts) (hp : p < X.nc) (ho : o ≤ p) (hts : ts.length ≤ p) {c : Int} (hc : X.L[p]? = some c) :
    Calls Tryz.prog 142 #[.pointer (some ⟨b, 0, none⟩)] w (StepP X b w p o ts (outS c (X.L.drop (p + 1)))) := by
  obtain ⟨c0, c1, c2, c3, c4, c5⟩ := h.cells
  have hsz := h.size
  obtain ⟨bc, offc, xc, hAc, _, hxc, hcell⟩ := h.chars.got hp
  obtain rfl : c = xc := by rw [hc] at hxc; exact Option.some.inj hxc
  rw [hAc] at c1
  have hpn : (p : Int) < (X.nc : Int) := by omega
  have hp0 : (0 : Int) ≤ (p : Int) := by omega
  have hcons : X.L.drop p = c :: X.L.drop (p + 1) := by
    obtain ⟨hi, e⟩ := List.getElem?_eq_some_iff.1 hc
    rw [drop_cons hi, e]
  have HH := Lib.hid h
  have hdg := Lib.hid fun q => isdigit_any c (w.drewN q)
  have HHd : Hid (chV X.L p = c) := chV_at hc
  have HF := Lib.hid fun q => (Fr.refl b w).drewN q
  clear h hAc hxc hc
  by_cases h36 : c = 36
  · have HE : Hid (outS c (X.L.drop (p + 1)) = nameS (X.L.drop (p + 1))) := by show _ = _; unfold W.outS; rw [if_pos h36]
    rw [HE.out]
    subst h36
    go_enter Tryz.func142, Tryz.ntmps142
    go_wp2_with fail
    go_quiet (fail)
    have hcon := Lib.hid (name_any (HH.out.drewN nq) hp hts)
    go_wp2_with fail
    refine hcon.out.mono ?_
    intro e w1 hP
    have HP := Lib.hid (hP.on (HF.out nq))
    rcases hP.ends with rfl | ⟨ch, rfl⟩
    · go_wp2_with fail
      exact bodyPost_ret (v := .tuple #[]) (by simp [results, Tryz.results142, go_sem]) rfl HP.out
    · go_wp2_with fail
      exact ⟨rfl, HP.out⟩
  · have g36 : (c == 36) = false := by simpa using h36
    cases hd : dgB c with
    | true =>
      have HE : Hid (outS c (X.L.drop (p + 1)) = numT (X.L.drop p)) := by show _ = _; unfold W.outS; rw [if_neg h36, if_pos hd, hcons]
      rw [HE.out]
      rw [hd] at hdg
      clear hd h36 hcons
      go_enter Tryz.func142, Tryz.ntmps142
      go_wp2_with fail
      go_quiet (fail)
      have hcon := Lib.hid (number_step (HH.out.drewN nq) hp hts)
      go_wp2_with fail
      refine (hdg.out nq).mono ?_
      rintro e w1 ⟨rfl, rfl⟩
      go_wp2_with fail
      refine hcon.out.mono ?_
      intro e w1 hP
      have HP := Lib.hid (hP.on (HF.out nq))
      rcases hP.ends with rfl | ⟨ch, rfl⟩
      · go_wp2_with fail
        exact bodyPost_ret (v := .tuple #[]) (by simp [results, Tryz.results142, go_sem]) rfl HP.out
      · go_wp2_with fail
        exact ⟨rfl, HP.out⟩
    | false =>
      rw [hd] at hdg
      by_cases h91 : c = 91
      · have HE : Hid (outS c (X.L.drop (p + 1)) = setS (X.L.drop (p + 1))) := by show _ = _; unfold W.outS; rw [if_neg h36, if_neg (by rw [hd]; decide), if_pos h91]
        rw [HE.out]
        subst h91
        clear hd
        go_enter Tryz.func142, Tryz.ntmps142
        go_wp2_with fail
        go_quiet (fail)
        have hcon := Lib.hid (set_any (HH.out.drewN nq) hp ho hts)
        go_wp2_with fail
        refine (hdg.out nq).mono ?_
        rintro e w1 ⟨rfl, rfl⟩
        go_wp2_with fail
        refine hcon.out.mono ?_
        intro e w1 hP
        have HP := Lib.hid (hP.on (HF.out nq))
        rcases hP.ends with rfl | ⟨ch, rfl⟩
        · go_wp2_with fail
          exact bodyPost_ret (v := .tuple #[]) (by simp [results, Tryz.results142, go_sem]) rfl HP.out
        · go_wp2_with fail
          exact ⟨rfl, HP.out⟩
      · have g91 : (c == 91) = false := by simpa using h91
        by_cases h35 : c = 35
        · have HE : Hid (outS c (X.L.drop (p + 1)) = noteS (X.L.drop p)) := by show _ = _; unfold W.outS; rw [if_neg h36, if_neg (by rw [hd]; decide), if_neg h91, if_pos h35, hcons]
          rw [HE.out]
          subst h35
          clear hd hcons
          go_enter Tryz.func142, Tryz.ntmps142
          go_wp2_with fail
          go_quiet (fail)
          have hcon := Lib.hid (note_any (HH.out.drewN nq) hp hts HHd.out)
          go_wp2_with fail
          refine (hdg.out nq).mono ?_
          rintro e w1 ⟨rfl, rfl⟩
          go_wp2_with fail
          refine hcon.out.mono ?_
          intro e w1 hP
          have HP := Lib.hid (hP.on (HF.out nq))
          rcases hP.ends with rfl | ⟨ch, rfl⟩
          · go_wp2_with fail
            exact bodyPost_ret (v := .tuple #[]) (by simp [results, Tryz.results142, go_sem]) rfl HP.out
          · go_wp2_with fail
            exact ⟨rfl, HP.out⟩
        · have g35 : (c == 35) = false := by simpa using h35
          rw [signK_rest h36 hd h91 h35]
          have hsg := Lib.hid fun q => sign_any c (w.drewN q)
          have HO := Lib.hid (sign_opn (c := c) o)
          generalize signK c = k at *
          clear hd h36 h91 h35
          by_cases hk : k = 0
          · rw [if_pos hk]
            subst hk
            go_enter Tryz.func142, Tryz.ntmps142
            go_wp2_with fail
            go_quiet (fail)
            have hfail := Lib.hid (fail_any (HH.out.drewN nq) (i := p) (by omega) 4)
            have c3q : (w.drewN nq).cell? ⟨b, 3, none⟩ = some (.int .i64 p) := c3
            go_wp2_with fail
            refine (hdg.out nq).mono ?_
            rintro e w1 ⟨rfl, rfl⟩
            go_wp2_with fail
            refine (hsg.out nq).mono ?_
            rintro e w1 ⟨rfl, rfl⟩
            go_wp2_with fail
            refine hfail.out.mono ?_
            rintro e w1 ⟨rfl, rfl⟩
            go_wp2_with fail
            exact ⟨rfl, rfl, HF.out nq⟩
          · rw [if_neg hk]
            have gk : (k == 0) = false := by simpa using hk
            have hn2 := HH.out.nc.2.1
            clear hk
            go_enter Tryz.func142, Tryz.ntmps142
            go_wp2_with fail
            go_quiet (fail)
            have hput := Lib.hid (put_any (HH.out.drewN nq) k 0 0 0 [] (q := p + 1) (by omega) (by omega))
            have c3q : (w.drewN nq).cell? ⟨b, 3, none⟩ = some (.int .i64 p) := c3
            go_wp2_with fail
            refine (hdg.out nq).mono ?_
            rintro e w1 ⟨rfl, rfl⟩
            go_wp2_with fail
            refine (hsg.out nq).mono ?_
            rintro e w1 ⟨rfl, rfl⟩
            go_wp2_with fail
            refine hput.out.mono ?_
            intro e w1 hP
            have HE := Lib.hid (stepP_tok (o := o) (m := 0) hP (HF.out nq) HO.out.symm rfl)
            obtain ⟨rfl, _, _⟩ := hP
            go_wp2_with fail
            exact bodyPost_ret (v := .tuple #[]) (by simp [results, Tryz.results142, go_sem]) rfl HE.out
end
end Go.Proofs.YtdhighnbbpngpaaGreatDoor
namespace Go.Proofs.YtdhighnbbpngpaaGreatDoor
open Go.RowKit
open W (Tk St C lexS opn dgB signK outS inS stepS lastK nameS setS numT noteS charsS)

section
variable {X : Cx} {b : Nat} {w : World} {p o : Nat} {tv : Value} {ts : List Tk}
/-- The last token's kind lies in memory. -/
theorem Rdv.last (h : Rdv X b w p o tv ts) (hne : ts ≠ []) : ∃ (g off c m : Nat), tv = .slice (some ⟨g, off, none⟩) (m + 1) c ∧ m < ts.length ∧ m + 1 = ts.length ∧ w.cell? ⟨g, off + m * 5, none⟩ = some (.int .i64 (lastK ts)) := by
  obtain ⟨A, c, rfl, hr⟩ := h.row.rd
  have hl : 0 < ts.length := List.length_pos_iff.2 hne
  rw [List.length_map] at hr ⊢
  obtain ⟨g, off, rfl, _, hc⟩ := hr.at_ hl
  obtain ⟨m, hm⟩ : ∃ m, ts.length = m + 1 := ⟨ts.length - 1, by omega⟩
  refine ⟨g, off, c, m, by rw [hm], by omega, hm.symm, ?_⟩
  have hlast : ts[m]? = ts.getLast? := by rw [List.getLast?_eq_getElem?, hm]; rfl
  have hmt : m < ts.length := by omega
  have e1 : ts[m]? = some ts[m] := List.getElem?_eq_getElem hmt
  have e2 : (ts.map X.put)[m]? = some (X.put ts[m]) := by rw [List.getElem?_map, e1]; rfl
  have := cellsP_at e2 (j := 0) (by decide)
  rw [Nat.add_zero] at this
  refine (hc (m * 5) _ this).trans ?_
  unfold W.lastK
  rw [← hlast, e1]
  rfl
set_option maxHeartbeats 2000000 in
theorem inSet_any (h : Rdv X b w p o tv ts) (hp : p < X.nc) (ho : o ≤ p) (ho0 : 0 < o) (hts : ts.length ≤ p) (hne : ts ≠ []) {c : Int} (hc : X.L[p]? = some c) :
    Calls Tryz.prog 141 #[.pointer (some ⟨b, 0, none⟩)] w (StepP X b w p o ts (inS (lastK ts) c (X.L.drop (p + 1)))) := by
  obtain ⟨c0, c1, c2, c3, c4, c5⟩ := h.cells
  have hsz := h.size
  have hn2 := h.nc.2.1
  have f4 := h.fr 4
  obtain ⟨bc, offc, xc, hAc, _, hxc, hcell⟩ := h.chars.got hp
  obtain rfl : c = xc := by rw [hc] at hxc; exact Option.some.inj hxc
  rw [hAc] at c1
  have hpn : (p : Int) < (X.nc : Int) := by omega
  have hp0 : (0 : Int) ≤ (p : Int) := by omega
  have hcons : X.L.drop p = c :: X.L.drop (p + 1) := by
    obtain ⟨hi, e⟩ := List.getElem?_eq_some_iff.1 hc
    rw [drop_cons hi, e]
  obtain ⟨g, offg, cg, m, htv, hm1, hm2, hlast⟩ := h.last hne
  have HH := Lib.hid h
  have HF := Lib.hid fun q => (Fr.refl b w).drewN q
  generalize hlk : lastK ts = lk at *
  clear h hAc hxc hc hlk
  by_cases h36 : c = 36
  · have HE : Hid (inS lk c (X.L.drop (p + 1)) = nameS (X.L.drop (p + 1))) := by show _ = _; unfold W.inS; rw [if_pos h36]
    rw [HE.out]
    subst h36
    clear hcons htv hlast
    go_enter Tryz.func141, Tryz.ntmps141
    go_wp2_with fail
    go_quiet (fail)
    have hcon := Lib.hid (name_any (HH.out.drewN nq) hp hts)
    go_wp2_with fail
    refine hcon.out.mono ?_
    intro e w1 hP
    have HP := Lib.hid (hP.on (HF.out nq))
    rcases hP.ends with rfl | ⟨ch, rfl⟩
    · go_wp2_with fail
      exact bodyPost_ret (v := .tuple #[]) (by simp [results, Tryz.results141, go_sem]) rfl HP.out
    · go_wp2_with fail
      exact ⟨rfl, HP.out⟩
  · have g36 : (c == 36) = false := by simpa using h36
    by_cases h91 : c = 91
    · have HE : Hid (inS lk c (X.L.drop (p + 1)) = setS (X.L.drop (p + 1))) := by show _ = _; unfold W.inS; rw [if_neg h36, if_pos h91]
      rw [HE.out]
      subst h91
      clear hcons htv hlast
      go_enter Tryz.func141, Tryz.ntmps141
      go_wp2_with fail
      go_quiet (fail)
      have hcon := Lib.hid (set_any (HH.out.drewN nq) hp ho hts)
      go_wp2_with fail
      refine hcon.out.mono ?_
      intro e w1 hP
      have HP := Lib.hid (hP.on (HF.out nq))
      rcases hP.ends with rfl | ⟨ch, rfl⟩
      · go_wp2_with fail
        exact bodyPost_ret (v := .tuple #[]) (by simp [results, Tryz.results141, go_sem]) rfl HP.out
      · go_wp2_with fail
        exact ⟨rfl, HP.out⟩
    · have g91 : (c == 91) = false := by simpa using h91
      by_cases h93 : c = 93
      · have HE : Hid (inS lk c (X.L.drop (p + 1)) = .tok 14 [] 0 0 0) := by show _ = _; unfold W.inS; rw [if_neg h36, if_neg h91, if_pos h93]
        rw [HE.out]
        subst h93
        clear hcons htv hlast
        have eo : ((o - 1 : Nat) : Int) = (o : Int) - 1 := by omega
        have HEO := Lib.hid eo
        clear eo
        go_enter Tryz.func141, Tryz.ntmps141
        go_wp2_with fail
        go_quiet (fail)
        have hR := (HH.out.drewN nq).open_ (o - 1)
        rw [HEO.out] at hR
        have c3q := hR.cells.2.2.2.1
        have c4q : (w.drewN nq).cell? ⟨b, 4, none⟩ = some (.int .i64 o) := c4
        have f4q : (w.drewN nq).frozen? ⟨b, 4, none⟩ = false := f4
        have hput := Lib.hid (put_any hR 14 0 0 0 [] (q := p + 1) (by omega) (by omega))
        have HF2 := Lib.hid ((HF.out nq).set 4 (.int .i64 ((o : Int) - 1)))
        clear hR
        go_wp2_with fail
        refine hput.out.mono ?_
        intro e w1 hP
        have HE := Lib.hid (stepP_tok (o := o) (m := 0) hP HF2.out rfl rfl)
        obtain ⟨rfl, _, _⟩ := hP
        go_wp2_with fail
        exact bodyPost_ret (v := .tuple #[]) (by simp [results, Tryz.results141, go_sem]) rfl HE.out
      · have g93 : (c == 93) = false := by simpa using h93
        by_cases h38 : c = 38
        · have HE : Hid (inS lk c (X.L.drop (p + 1)) = .tok 16 [] 0 0 0) := by show _ = _; unfold W.inS; rw [if_neg h36, if_neg h91, if_neg h93, if_pos h38]
          rw [HE.out]
          subst h38
          clear hcons htv hlast
          go_enter Tryz.func141, Tryz.ntmps141
          go_wp2_with fail
          go_quiet (fail)
          have c3q : (w.drewN nq).cell? ⟨b, 3, none⟩ = some (.int .i64 p) := c3
          have hput := Lib.hid (put_any (HH.out.drewN nq) 16 0 0 0 [] (q := p + 1) (by omega) (by omega))
          go_wp2_with fail
          refine hput.out.mono ?_
          intro e w1 hP
          have HE := Lib.hid (stepP_tok (o := o) (m := 0) hP (HF.out nq) rfl rfl)
          obtain ⟨rfl, _, _⟩ := hP
          go_wp2_with fail
          exact bodyPost_ret (v := .tuple #[]) (by simp [results, Tryz.results141, go_sem]) rfl HE.out
        · have g38 : (c == 38) = false := by simpa using h38
          by_cases h45 : c = 45
          · have HE : Hid (inS lk c (X.L.drop (p + 1)) = if lk = 14 ∨ lk = 1 then .tok 17 [] 0 0 0 else .bad 0 4) := by show _ = _; unfold W.inS; rw [if_neg h36, if_neg h91, if_neg h93, if_neg h38, if_pos h45]
            rw [HE.out]
            subst h45
            rw [htv] at c5
            have hm0 : (0 : Int) ≤ (m : Int) := by omega
            have hm9 : (m : Int) ≤ 3000 := by omega
            clear hcons htv HE
            have hmb : (m : Int) + 1 ≤ 3001 := by omega
            clear hm1 hm2 hne
            by_cases hlk : lk = 14 ∨ lk = 1
            · rw [if_pos hlk]
              rcases hlk with rfl | rfl
              · go_enter Tryz.func141, Tryz.ntmps141
                go_wp2_with fail
                go_quiet (fail)
                generalize hW : w.drewN nq = W at *
                have hR := HH.out.drewN nq
                rw [hW] at hR
                have HR := Lib.hid hR
                have HFW := Lib.hid (HF.out nq)
                rw [hW] at HFW
                have c5W : W.cell? ⟨b, 5, none⟩ = some (.slice (some ⟨g, offg, none⟩) (m + 1) cg) := by rw [← hW]; exact c5
                have clW : W.cell? ⟨g, offg + m * 5, none⟩ = some (.int .i64 14) := by rw [← hW]; exact hlast
                have c3W : W.cell? ⟨b, 3, none⟩ = some (.int .i64 p) := by rw [← hW]; exact c3
                clear hR hW
                go_wp2_with fail
                go_quiet (fail)
                have c3q : (W.drewN nq).cell? ⟨b, 3, none⟩ = some (.int .i64 p) := c3W
                have hput := Lib.hid (put_any (HR.out.drewN nq) 17 0 0 0 [] (q := p + 1) (by omega) (by omega))
                have HF2 := Lib.hid (HFW.out.drewN nq)
                go_wp2_with fail
                refine hput.out.mono ?_
                intro e w1 hP
                have HE := Lib.hid (stepP_tok (o := o) (m := 0) hP HF2.out rfl rfl)
                obtain ⟨rfl, _, _⟩ := hP
                go_wp2_with fail
                exact bodyPost_ret (v := .tuple #[]) (by simp [results, Tryz.results141, go_sem]) rfl HE.out
              · go_enter Tryz.func141, Tryz.ntmps141
                go_wp2_with fail
                go_quiet (fail)
                generalize hW : w.drewN nq = W at *
                have hR := HH.out.drewN nq
                rw [hW] at hR
                have HR := Lib.hid hR
                have HFW := Lib.hid (HF.out nq)
                rw [hW] at HFW
                have c5W : W.cell? ⟨b, 5, none⟩ = some (.slice (some ⟨g, offg, none⟩) (m + 1) cg) := by rw [← hW]; exact c5
                have clW : W.cell? ⟨g, offg + m * 5, none⟩ = some (.int .i64 1) := by rw [← hW]; exact hlast
                have c3W : W.cell? ⟨b, 3, none⟩ = some (.int .i64 p) := by rw [← hW]; exact c3
                clear hR hW
                go_wp2_with fail
                go_quiet (fail)
                have c3q : (W.drewN nq).cell? ⟨b, 3, none⟩ = some (.int .i64 p) := c3W
                have hput := Lib.hid (put_any (HR.out.drewN nq) 17 0 0 0 [] (q := p + 1) (by omega) (by omega))
                have HF2 := Lib.hid (HFW.out.drewN nq)
                go_wp2_with fail
                refine hput.out.mono ?_
                intro e w1 hP
                have HE := Lib.hid (stepP_tok (o := o) (m := 0) hP HF2.out rfl rfl)
                obtain ⟨rfl, _, _⟩ := hP
                go_wp2_with fail
                exact bodyPost_ret (v := .tuple #[]) (by simp [results, Tryz.results141, go_sem]) rfl HE.out
            · rw [if_neg hlk]
              have g14 : (lk != 14) = true := by simp; omega
              have g1 : (lk != 1) = true := by simp; omega
              clear hlk
              go_enter Tryz.func141, Tryz.ntmps141
              go_wp2_with fail
              go_quiet (fail)
              generalize hW : w.drewN nq = W at *
              have hR := HH.out.drewN nq
              rw [hW] at hR
              have HR := Lib.hid hR
              have HFW := Lib.hid (HF.out nq)
              rw [hW] at HFW
              have c5W : W.cell? ⟨b, 5, none⟩ = some (.slice (some ⟨g, offg, none⟩) (m + 1) cg) := by rw [← hW]; exact c5
              have clW : W.cell? ⟨g, offg + m * 5, none⟩ = some (.int .i64 lk) := by rw [← hW]; exact hlast
              have c3W : W.cell? ⟨b, 3, none⟩ = some (.int .i64 p) := by rw [← hW]; exact c3
              clear hR hW
              go_wp2_with fail
              go_quiet (fail)
              have c3q : (W.drewN nq).cell? ⟨b, 3, none⟩ = some (.int .i64 p) := c3W
              have hfail := Lib.hid (fail_any (HR.out.drewN nq) (i := p) (by omega) 4)
              have HF2 := Lib.hid (HFW.out.drewN nq)
              go_wp2_with fail
              refine hfail.out.mono ?_
              rintro e w1 ⟨rfl, rfl⟩
              go_wp2_with fail
              exact ⟨rfl, rfl, HF2.out⟩
          · have g45 : (c == 45) = false := by simpa using h45
            have HE : Hid (inS lk c (X.L.drop (p + 1)) = charsS (X.L.drop p)) := by show _ = _; unfold W.inS; rw [if_neg h36, if_neg h91, if_neg h93, if_neg h38, if_neg h45, hcons]
            rw [HE.out]
            clear hcons htv hlast
            go_enter Tryz.func141, Tryz.ntmps141
            go_wp2_with fail
            go_quiet (fail)
            have hcon := Lib.hid (characters_any (HH.out.drewN nq) hp hts)
            go_wp2_with fail
            refine hcon.out.mono ?_
            intro e w1 hP
            have HP := Lib.hid (hP.on (HF.out nq))
            rcases hP.ends with rfl | ⟨ch, rfl⟩
            · go_wp2_with fail
              exact bodyPost_ret (v := .tuple #[]) (by simp [results, Tryz.results141, go_sem]) rfl HP.out
            · go_wp2_with fail
              exact ⟨rfl, HP.out⟩
end
end Go.Proofs.YtdhighnbbpngpaaGreatDoor
namespace Go.Proofs.YtdhighnbbpngpaaGreatDoor
open Go.RowKit

/-- Three results that a closure holds. -/
structure Tri (w : World) (b : Nat) (tv : Value) (v2 v3 : Int) : Prop where
  k1 : w.heap[b + 1]? = some (.cells #[tv] 24 (0, 0))
  k2 : w.heap[b + 2]? = some (.cells #[.int .i64 v2] 3 (0, 0))
  k3 : w.heap[b + 3]? = some (.cells #[.int .i64 v3] 25 (0, 0))
section
variable {w w' : World} {b : Nat} {tv : Value} {v2 v3 : Int}
theorem Tri.lt (h : Tri w b tv v2 v3) : b + 3 < w.heap.size := by
  rcases Nat.lt_or_ge (b + 3) w.heap.size with hl | hl
  · exact hl
  · have := h.k3; rw [Array.getElem?_eq_none hl] at this; cases this
theorem Tri.fr (h : Tri w b tv v2 v3) (hf : Fr b w w') : Tri w' b tv v2 v3 :=
  ⟨(hf.block _ (by omega) (by omega)).trans h.k1, (hf.block _ (by omega) (by omega)).trans h.k2, (hf.block _ (by omega) (by omega)).trans h.k3⟩
theorem Tri.below (h : Tri w b tv v2 v3) (hb : Below w.heap.size w w') : Tri w' b tv v2 v3 := by
  have := h.lt
  exact ⟨(hb.block _ (by omega)).trans h.k1, (hb.block _ (by omega)).trans h.k2, (hb.block _ (by omega)).trans h.k3⟩
theorem Tri.drewN (h : Tri w b tv v2 v3) (q : Nat) : Tri (w.drewN q) b tv v2 v3 := ⟨h.k1, h.k2, h.k3⟩
theorem Tri.cells (h : Tri w b tv v2 v3) : w.cell? ⟨b + 1, 0, none⟩ = some tv ∧ w.cell? ⟨b + 2, 0, none⟩ = some (.int .i64 v2) ∧ w.cell? ⟨b + 3, 0, none⟩ = some (.int .i64 v3) ∧ w.frozen? ⟨b + 1, 0, none⟩ = false ∧ w.frozen? ⟨b + 2, 0, none⟩ = false ∧ w.frozen? ⟨b + 3, 0, none⟩ = false := by
  refine ⟨?_, ?_, ?_, frozen_of_row _ _ _ _ _ h.k1, frozen_of_row _ _ _ _ _ h.k2, frozen_of_row _ _ _ _ _ h.k3⟩
  · rw [cell_of_row _ _ _ _ _ _ h.k1]; rfl
  · rw [cell_of_row _ _ _ _ _ _ h.k2]; rfl
  · rw [cell_of_row _ _ _ _ _ _ h.k3]; rfl
theorem Tri.put (h : Tri w b tv v2 v3) (x1 : Value) (x2 x3 : Int) : Tri (((w.setCell ⟨b + 1, 0, none⟩ x1).setCell ⟨b + 2, 0, none⟩ (.int .i64 x2)).setCell ⟨b + 3, 0, none⟩ (.int .i64 x3)) b x1 x2 x3 := by
  refine ⟨?_, ?_, ?_⟩
  · rw [heap_setCell_other _ _ _ _ (by show b + 1 ≠ b + 3; omega), heap_setCell_other _ _ _ _ (by show b + 1 ≠ b + 2; omega), heap_setCell_same _ _ _ _ _ _ h.k1]; rfl
  · rw [heap_setCell_other _ _ _ _ (by show b + 2 ≠ b + 3; omega), heap_setCell_same _ _ _ _ _ _ ((heap_setCell_other _ _ _ _ (by show b + 2 ≠ b + 1; omega)).trans h.k2)]; rfl
  · rw [heap_setCell_same _ _ _ _ _ _ ((heap_setCell_other _ _ _ _ (by show b + 3 ≠ b + 2; omega)).trans ((heap_setCell_other _ _ _ _ (by show b + 3 ≠ b + 1; omega)).trans h.k3))]; rfl
end
theorem catch_idle5 (a0 a1 a2 : Value) (w : World) :
    CallsD Tryz.prog 139 #[a0, a1, a2] .returning w fun e u' w' => e = .returned (.tuple #[]) ∧ u' = .returning ∧ w' = w := by
  refine callsD_of_wpS Tryz.func139 rfl fun c₀ cs hu => ?_
  simp only [Tryz.ntmps139, List.size_toArray, List.length_cons, List.length_nil, Nat.reduceAdd, Nat.reduceSub, Array.replicate_succ, Array.replicate_zero, List.push_toArray, List.append_toArray, List.nil_append, List.cons_append]
  apply wpS_seq
  apply wpS_region
  simp [wpOpsS, go_sem, recoverD, hu, Exit.thenS]
  refine wpS_of_wp ?_
  generalize hR : (fun (e : Ending) (u' : FrameMode) (w' : World) => e = .returned (.tuple #[]) ∧ u' = .returning ∧ w' = w) = R
  change Code.wp _ _ (endS Tryz.prog Tryz.f139 c₀ cs (c₀ :: cs) R) _ _
  have HU := Lib.hid hu
  have HR := Lib.hid hR
  clear hu hR
  go_wp2
  have hu := HU.out
  have hR := HR.out
  refine ⟨rfl, .returning, ?_, .tuple #[], by simp [results, Tryz.results139, go_sem], ?_⟩
  · cases c₀; simp at hu; rw [hu]
  · rw [← hR]; exact ⟨rfl, rfl, rfl⟩
theorem assert_stop5 (v : Value) (w : World) : (Instr.typeAssert (.iface 134 v) 20 134 true).run Tryz.prog w = .ok (.tuple #[v, .bool true]) w := by
  simp [Instr.typeAssert, run_underlying Tryz.underlying134]
set_option maxHeartbeats 1000000 in
theorem catch_pan5 {w : World} {b : Nat} {tv : Value} {v2 v3 : Int} (h : Tri w b tv v2 v3) (y x : Int) (older : List PanicEntry) :
    CallsD Tryz.prog 139 #[.pointer (some ⟨b + 1, 0, none⟩), .pointer (some ⟨b + 2, 0, none⟩), .pointer (some ⟨b + 3, 0, none⟩)] (.panicking ({ v := .iface 134 (.agg #[.int .i64 y, .int .i64 x]), recovered := false } :: older)) w fun e u' w' =>
      e = .returned (.tuple #[]) ∧ u' = .panicking ({ v := .iface 134 (.agg #[.int .i64 y, .int .i64 x]), recovered := true } :: older) ∧ Tri w' b (.slice none 0 0) y x ∧ Below b w w' := by
  refine callsD_of_wpS Tryz.func139 rfl fun c₀ cs hu => ?_
  simp only [Tryz.ntmps139, List.size_toArray, List.length_cons, List.length_nil, Nat.reduceAdd, Nat.reduceSub, Array.replicate_succ, Array.replicate_zero, List.push_toArray, List.append_toArray, List.nil_append, List.cons_append]
  apply wpS_seq
  apply wpS_region
  simp [wpOpsS, go_sem, recoverD, hu, Exit.thenS]
  refine wpS_of_wp ?_
  generalize hR : (fun (e : Ending) (u' : FrameMode) (w' : World) => e = .returned (.tuple #[]) ∧ u' = .panicking ({ v := .iface 134 (.agg #[.int .i64 y, .int .i64 x]), recovered := true } :: older) ∧ Tri w' b (.slice none 0 0) y x ∧ Below b w w') = R
  generalize hcs : ({ c₀ with mode := .panicking ({ v := .iface 134 (.agg #[.int .i64 y, .int .i64 x]), recovered := true } :: older) } :: cs : List Frame) = cs'
  change Code.wp _ _ (endS Tryz.prog Tryz.f139 c₀ cs cs' R) _ _
  have HU := Lib.hid hu
  have HR := Lib.hid hR
  have HCS := Lib.hid hcs
  clear hu hR hcs
  have HF := Lib.hid h
  clear h
  have q1 := assert_stop5 (.agg #[.int .i64 y, .int .i64 x]) w
  go_wp2
  clear q1
  obtain ⟨W1, hW1⟩ : ∃ W1, W1 = w.alloc (.cells #[.int .i64 y, .int .i64 x] 134) := ⟨_, rfl⟩
  have hF1 : Tri W1 b tv v2 v3 := by rw [hW1]; exact HF.out.below (kbelow_push w _)
  have d0 : W1.cell? ⟨w.heap.size, 0, none⟩ = some (.int .i64 y) := by rw [hW1, cell_of_row _ _ _ _ _ _ (heap_alloc_new w _)]; rfl
  have d1 : W1.cell? ⟨w.heap.size, 1, none⟩ = some (.int .i64 x) := by rw [hW1, cell_of_row _ _ _ _ _ _ (heap_alloc_new w _)]; rfl
  have hlt := HF.out.lt
  rw [← hW1]
  have HW1 := Lib.hid hW1
  clear hW1
  obtain ⟨c1, c2, c3, f1, f2, f3⟩ := hF1.cells
  have K := Lib.hid hF1
  clear hF1
  generalize hN : w.heap.size = N at hlt d0 d1 ⊢
  have HN := Lib.hid hN
  clear hN
  have n1 : ¬ b + 1 = N := by omega
  have n2 : ¬ b + 2 = N := by omega
  have n3 : ¬ b + 3 = N := by omega
  go_region
  have hR := HR.out
  refine ⟨rfl, _, HCS.out.symm, .tuple #[], by simp [results, Tryz.results139, go_sem], ?_⟩
  rw [← hR]
  refine ⟨rfl, rfl, (K.out.put _ _ _).drewN 1, ?_⟩
  rw [HW1.out]
  exact ((((((Below.refl b w).alloc (by have := HN.out; omega) (.cells #[.int .i64 y, .int .i64 x] 134)).setCell (p := ⟨b + 1, 0, none⟩) (by show b ≤ b + 1; omega) _).setCell (p := ⟨b + 2, 0, none⟩) (by show b ≤ b + 2; omega) _).setCell (p := ⟨b + 3, 0, none⟩) (by show b ≤ b + 3; omega) _).drew)
end Go.Proofs.YtdhighnbbpngpaaGreatDoor
namespace Go.Proofs.YtdhighnbbpngpaaGreatDoor
open Go.RowKit
open W (Tk St C Lx lexS opn outS inS stepS lastK)

/-- What word.read answers. -/
def LexP (X : Cx) (w : World) (r : Lx) (e : Ending) (w' : World) : Prop :=
  Below w.heap.size w w' ∧ match r with
  | .ok ts => ∃ A c, e = .returned (.tuple #[.slice A ts.length c, .int .i64 (-1), .int .i64 0]) ∧ RdT w' w'.heap.size A ts.length c (ts.map X.put)
  | .bad k er => e = .returned (.tuple #[.slice none 0 0, .int .i64 (plc X.L k : Nat), .int .i64 er])
theorem leaves_tri {w' : World} {b n c : Nat} {A : Option Addr} {v2 v3 : Int} {tmps : Array Value} {R : Ending → World → Prop} (hF : Tri w' b (.slice A n c) v2 v3)
    (t2 : tmps[2]?.getD undef = .pointer (some ⟨b + 1, 0, none⟩)) (t3 : tmps[3]?.getD undef = .pointer (some ⟨b + 2, 0, none⟩)) (t4 : tmps[4]?.getD undef = .pointer (some ⟨b + 3, 0, none⟩))
    (hR : R (.returned (.tuple #[.slice A n c, .int .i64 v2, .int .i64 v3])) w') :
    Leaves Tryz.prog Tryz.f111 tmps R [] .returning w' := by
  obtain ⟨c1, c2, c3, _⟩ := hF.cells
  refine ⟨_, ?_, hR⟩
  simp [results, Tryz.results111, go_sem, t2, t3, t4, c1, c2, c3]
/-- Where a round of read stands. -/
structure At (X : Cx) (b : Nat) (W0 : World) (R : Lx) (w : World) (p o : Nat) (tv : Value) (ts : List Tk) : Prop where
  rd : Rdv X b w p o tv ts
  fr : Fr b W0 w
  lex : lexS (X.L.drop p) p o ts = R
  ob : o ≤ p
  tb : ts.length ≤ p
  ne : 0 < o → ts ≠ []
  nb : ¬ (chV X.L p = 32 ∨ chV X.L p = 9)
theorem opn_le (k : Int) (o : Nat) : opn k o ≤ o + 1 := by unfold W.opn; split <;> (try split) <;> omega
/-- Behind a step, and blanks behind it. -/
theorem At.next {X : Cx} {b : Nat} {W0 w w1 : World} {R : Lx} {p o : Nat} {tv : Value} {ts : List Tk} {c : Int} {e : Ending} (h : At X b W0 R w p o tv ts) (hc : X.L[p]? = some c) (hs : StepP X b w p o ts (stepS o ts c (X.L.drop (p + 1))) e w1) :
    (∃ q o' tv' ts', e = .returned (.tuple #[]) ∧ Rdv X b w1 q o' tv' ts' ∧ p < q ∧ (∀ e2 w2, SkipP X b w1 q o' tv' ts' e2 w2 → ∃ q', At X b W0 R w2 q' o' tv' ts' ∧ p < q' ∧ e2 = .returned (.tuple #[]))) ∨ (∃ k er, R = .bad k er ∧ e = .panicked (stopOf (plc X.L k) er) ∧ Fr b W0 w1) := by
  have hcons : X.L.drop p = c :: X.L.drop (p + 1) := by
    obtain ⟨hi, e⟩ := List.getElem?_eq_some_iff.1 hc
    rw [drop_cons hi, e]
  have hnb := h.nb
  rw [chV_at hc] at hnb
  have hl := h.lex
  rw [hcons, W.lexS_step hnb] at hl
  cases hst : stepS o ts c (X.L.drop (p + 1)) with
  | tok k x lo hi m =>
    rw [hst] at hl hs
    obtain ⟨rfl, ⟨tv', hr⟩, hf⟩ := hs
    refine .inl ⟨p + m + 1, opn k o, tv', _, rfl, hr, by omega, ?_⟩
    rintro e2 w2 ⟨q', rfl, hr2, hf2, hle, hlex, hnb2⟩
    simp only at hl
    rw [List.drop_drop, show p + 1 + m = p + m + 1 by omega] at hl
    have h1 := opn_le k o
    have h2 := h.ob
    have h3 := h.tb
    exact ⟨q', ⟨hr2, (h.fr.trans hf).trans hf2, hlex.symm.trans hl, by omega, by simp; omega, fun _ => by simp, hnb2⟩, by omega, rfl⟩
  | skip m =>
    rw [hst] at hl hs
    obtain ⟨rfl, ⟨tv', hr⟩, hf⟩ := hs
    refine .inl ⟨p + m + 1, o, tv', ts, rfl, hr, by omega, ?_⟩
    rintro e2 w2 ⟨q', rfl, hr2, hf2, hle, hlex, hnb2⟩
    simp only at hl
    rw [List.drop_drop, show p + 1 + m = p + m + 1 by omega] at hl
    have h2 := h.ob
    have h3 := h.tb
    exact ⟨q', ⟨hr2, (h.fr.trans hf).trans hf2, hlex.symm.trans hl, by omega, by omega, h.ne, hnb2⟩, by omega, rfl⟩
  | bad k er =>
    rw [hst] at hl hs
    obtain ⟨rfl, hf⟩ := hs
    exact .inr ⟨p + k, er, hl.symm, rfl, h.fr.trans hf⟩
/-- The reader as it is boxed, and the three results. -/
def boxed (X : Cx) (w : World) : World := (((w.alloc (.cells #[.slice X.At X.nt X.ct, .slice X.Ac X.nc X.cc, .slice X.Ap X.np X.cp, .int .i64 0, .int .i64 0, .slice none 0 0] 119)).alloc (.cells #[.slice none 0 0] 24)).alloc (.cells #[.int .i64 0] 3)).alloc (.cells #[.int .i64 0] 25)
theorem boxed_below (X : Cx) (w : World) : Below w.heap.size w (boxed X w) := ((((Below.refl _ w).alloc (Nat.le_refl _) _).alloc (by simp) _).alloc (by simp <;> omega) _).alloc (by simp <;> omega) _
theorem boxed_tri (X : Cx) (w : World) : Tri (boxed X w) w.heap.size (.slice none 0 0) 0 0 := by
  unfold boxed
  refine ⟨?_, ?_, ?_⟩
  · rw [Lib.alloc_old _ _ _ (by simp), Lib.alloc_old _ _ _ (by simp)]
    have := heap_alloc_new (w.alloc (.cells #[.slice X.At X.nt X.ct, .slice X.Ac X.nc X.cc, .slice X.Ap X.np X.cp, .int .i64 0, .int .i64 0, .slice none 0 0] 119)) (.cells #[.slice none 0 0] 24)
    simpa using this
  · rw [Lib.alloc_old _ _ _ (by simp)]
    have := heap_alloc_new ((w.alloc (.cells #[.slice X.At X.nt X.ct, .slice X.Ac X.nc X.cc, .slice X.Ap X.np X.cp, .int .i64 0, .int .i64 0, .slice none 0 0] 119)).alloc (.cells #[.slice none 0 0] 24)) (.cells #[.int .i64 0] 3)
    simpa using this
  · have := heap_alloc_new (((w.alloc (.cells #[.slice X.At X.nt X.ct, .slice X.Ac X.nc X.cc, .slice X.Ap X.np X.cp, .int .i64 0, .int .i64 0, .slice none 0 0] 119)).alloc (.cells #[.slice none 0 0] 24)).alloc (.cells #[.int .i64 0] 3)) (.cells #[.int .i64 0] 25)
    simpa using this
theorem boxed_rd {X : Cx} {w : World} (hok : X.Ok) (ht : RdK .u8 w w.heap.size X.At X.nt X.ct X.Bs) (hc : RdK .i64 w w.heap.size X.Ac X.nc X.cc X.L) (hp : RdK .i64 w w.heap.size X.Ap X.np X.cp X.P) : Rdv X w.heap.size (boxed X w) 0 0 (.slice none 0 0) [] := by
  have hb := boxed_below X w
  have hk : ∀ q : Addr, q.block < w.heap.size → (boxed X w).cell? q = w.cell? q := fun q hq => hb.cell hq
  refine ⟨hok, by unfold boxed; simp, ht.keep hk, hc.keep hk, hp.keep hk, Nat.zero_le _, ?_, OwnT.nil _ _⟩
  unfold boxed
  rw [Lib.alloc_old _ _ _ (by simp <;> omega), Lib.alloc_old _ _ _ (by simp <;> omega), Lib.alloc_old _ _ _ (by simp)]
  exact heap_alloc_new w _
theorem Fr.all {b : Nat} {w W0 w1 : World} (hb : Below b w W0) (hf : Fr b W0 w1) : Below b w w1 :=
  ⟨hf.os.trans hb.os, hf.tape.trans hb.tape, hf.output.trans hb.output, Nat.le_trans hb.size hf.size, fun i hi => (hf.block i (by omega) (by omega)).trans (hb.block i hi)⟩
set_option maxHeartbeats 4000000 in
theorem read5_any {X : Cx} {w : World} (hok : X.Ok) (ht : RdK .u8 w w.heap.size X.At X.nt X.ct X.Bs) (hc : RdK .i64 w w.heap.size X.Ac X.nc X.cc X.L) (hp : RdK .i64 w w.heap.size X.Ap X.np X.cp X.P) :
    Calls Tryz.prog 111 #[.agg #[.slice X.At X.nt X.ct, .slice X.Ac X.nc X.cc, .slice X.Ap X.np X.cp, .int .i64 0, .int .i64 0, .slice none 0 0]] w (LexP X w (lexS X.L 0 0 [])) := by
  have hmf : ∀ (fn : Fn) (first cap : Array Value) (w : World), (Instr.makeFunc fn first cap).run Tryz.prog w = .ok (.func fn first cap) w := fun _ _ _ _ => rfl
  have HT := Lib.hid ht
  have HC := Lib.hid hc
  have HP := Lib.hid hp
  have HOK := Lib.hid hok
  clear ht hc hp hok
  generalize hR : lexS X.L 0 0 [] = R
  have HR := Lib.hid hR
  clear hR
  go_enter_defers Tryz.func111, Tryz.ntmps111
  go_wp2_with fail
  have hR0 := boxed_rd HOK.out HT.out HC.out HP.out
  have HTri := Lib.hid (boxed_tri X w)
  have HB0 := Lib.hid (boxed_below X w)
  change Calls _ _ _ (boxed X w) _
  generalize boxed X w = W0 at hR0 HTri HB0 ⊢
  generalize hN : w.heap.size = N at *
  have HN := Lib.hid hN
  clear hN HT HC HP
  obtain ⟨n1, n2, n3, n4⟩ := hR0.nc
  have HN1 := Lib.hid n1
  clear n1 n3
  refine (skip_any hR0).mono ?_
  rintro e w1 ⟨q, rfl, hr1, hf1, _, hlex1, hnb1⟩
  have HA1 : Hid (At X N W0 R w1 q 0 (.slice none 0 0) []) := ⟨hr1, hf1, by rw [← hlex1, List.drop_zero]; exact HR.out, Nat.zero_le _, Nat.zero_le _, fun h => absurd h (by omega), hnb1⟩
  clear hr1 hf1 hlex1 hnb1 hR0
  go_wp2_with fail
  go_loopw [] (fun wx => ∃ (p o : Nat) (tv : Value) (ts : List Tk), Hid (At X N W0 R wx p o tv ts)) (fun wx => X.nc - posOf N wx)
  case atStart => exact ⟨q, 0, .slice none 0 0, [], HA1.out⟩
  case round =>
    obtain ⟨p, o, tv, ts, HA⟩ := hrel
    obtain ⟨c0, c1, c2, c3, c4, c5⟩ := HA.out.rd.cells
    have hple := HA.out.rd.le
    by_cases hlt : p < X.nc
    · obtain ⟨x, hcx⟩ : ∃ x, X.L[p]? = some x := ⟨X.L[p]'(by rw [HN1.out]; exact hlt), List.getElem?_eq_getElem _⟩
      have HCx := Lib.hid hcx
      have HM := Lib.hid HA.out.rd.pos
      by_cases ho : 0 < o
      · have hs := Lib.hid (inSet_any HA.out.rd hlt HA.out.ob ho HA.out.tb (HA.out.ne ho) hcx)
        rw [show inS (lastK ts) x (X.L.drop (p + 1)) = stepS o ts x (X.L.drop (p + 1)) by unfold W.stepS; rw [if_pos ho]] at hs
        clear hcx
        go_wp2_with fail
        refine hs.out.mono ?_
        intro e w2 hP
        rcases At.next HA.out HCx.out hP with ⟨q2, o2, tv2, ts2, rfl, hr2, hlt2, hnext⟩ | ⟨k, er, hRb, rfl, hf⟩
        · have hsk := Lib.hid (skip_any hr2)
          have HNX := Lib.hid hnext
          clear hP hr2 hnext
          go_wp2_with fail
          refine hsk.out.mono ?_
          intro e2 w3 hS
          obtain ⟨q3, hA3, hlt3, rfl⟩ := HNX.out e2 w3 hS
          have HA3 := Lib.hid hA3
          have hq3 := hA3.rd.le
          have HM3 := Lib.hid hA3.rd.pos
          clear hS hA3
          go_wp2_with fail
          go_roundw
          case rel => exact ⟨q3, o2, tv2, ts2, HA3.out⟩
          case measure =>
            show X.nc - posOf N _ < X.nc - posOf N _
            rw [HM3.out, HM.out]; omega
        · have HF := Lib.hid hf
          subst hRb
          clear hP hf
          unfold stopOf
          go_wp2_with fail
          refine leaves_cons (f := 139) (args := #[.pointer (some ⟨N + 1, 0, none⟩), .pointer (some ⟨N + 1 + 1, 0, none⟩), .pointer (some ⟨N + 1 + 1 + 1, 0, none⟩)]) (by simp) (by simp [go_sem]) ?_
          refine (catch_pan5 (HTri.out.fr HF.out) _ _ []).mono ?_
          rintro e u' w'' ⟨rfl, rfl, htri, hbb⟩
          refine leaves_tri htri rfl rfl rfl ⟨?_, ?_⟩
          · rw [HN.out]; exact (Fr.all HB0.out HF.out).trans hbb
          · exact rfl
      · have hs := Lib.hid (outside_any HA.out.rd hlt HA.out.ob HA.out.tb hcx)
        rw [show outS x (X.L.drop (p + 1)) = stepS o ts x (X.L.drop (p + 1)) by unfold W.stepS; rw [if_neg ho]] at hs
        clear hcx
        go_wp2_with fail
        refine hs.out.mono ?_
        intro e w2 hP
        rcases At.next HA.out HCx.out hP with ⟨q2, o2, tv2, ts2, rfl, hr2, hlt2, hnext⟩ | ⟨k, er, hRb, rfl, hf⟩
        · have hsk := Lib.hid (skip_any hr2)
          have HNX := Lib.hid hnext
          clear hP hr2 hnext
          go_wp2_with fail
          refine hsk.out.mono ?_
          intro e2 w3 hS
          obtain ⟨q3, hA3, hlt3, rfl⟩ := HNX.out e2 w3 hS
          have HA3 := Lib.hid hA3
          have hq3 := hA3.rd.le
          have HM3 := Lib.hid hA3.rd.pos
          clear hS hA3
          go_wp2_with fail
          go_roundw
          case rel => exact ⟨q3, o2, tv2, ts2, HA3.out⟩
          case measure =>
            show X.nc - posOf N _ < X.nc - posOf N _
            rw [HM3.out, HM.out]; omega
        · have HF := Lib.hid hf
          subst hRb
          clear hP hf
          unfold stopOf
          go_wp2_with fail
          refine leaves_cons (f := 139) (args := #[.pointer (some ⟨N + 1, 0, none⟩), .pointer (some ⟨N + 1 + 1, 0, none⟩), .pointer (some ⟨N + 1 + 1 + 1, 0, none⟩)]) (by simp) (by simp [go_sem]) ?_
          refine (catch_pan5 (HTri.out.fr HF.out) _ _ []).mono ?_
          rintro e u' w'' ⟨rfl, rfl, htri, hbb⟩
          refine leaves_tri htri rfl rfl rfl ⟨?_, ?_⟩
          · rw [HN.out]; exact (Fr.all HB0.out HF.out).trans hbb
          · exact rfl
    · have hpe : p = X.nc := by omega
      have hlx := HA.out.lex
      rw [List.drop_eq_nil_of_le (by rw [HN1.out]; omega), W.lexS_nil] at hlx
      have HFA := Lib.hid HA.out.fr
      by_cases ho : 0 < o
      · rw [if_pos ho] at hlx
        subst hlx
        have hfail := Lib.hid (fail_any HA.out.rd hple 5)
        clear hpe
        go_wp2_with fail
        refine hfail.out.mono ?_
        rintro e w2 ⟨rfl, rfl⟩
        have HF := HFA
        unfold stopOf
        go_wp2_with fail
        refine leaves_cons (f := 139) (args := #[.pointer (some ⟨N + 1, 0, none⟩), .pointer (some ⟨N + 1 + 1, 0, none⟩), .pointer (some ⟨N + 1 + 1 + 1, 0, none⟩)]) (by simp) (by simp [go_sem]) ?_
        refine (catch_pan5 (HTri.out.fr HF.out) _ _ []).mono ?_
        rintro e u' w'' ⟨rfl, rfl, htri, hbb⟩
        refine leaves_tri htri rfl rfl rfl ⟨?_, ?_⟩
        · rw [HN.out]; exact (Fr.all HB0.out HF.out).trans hbb
        · exact rfl
      · rw [if_neg ho] at hlx
        subst hlx
        obtain rfl : o = 0 := by omega
        have hrow := HA.out.rd.row
        obtain ⟨Av, cv, htv, _⟩ := hrow.rd
        rw [List.length_map] at htv
        subst htv
        have hT1 := HTri.out.fr HFA.out
        obtain ⟨d1, d2, d3, f1, f2, f3⟩ := hT1.cells
        have HT2 := Lib.hid (hT1.put (.slice Av ts.length cv) (-1) 0)
        have hrow2 := ((hrow.set (b := N + 1) (o := 0) (by omega) (.slice Av ts.length cv)).set (b := N + 2) (o := 0) (by omega) (.int .i64 (-1))).set (b := N + 3) (o := 0) (by omega) (.int .i64 0)
        obtain ⟨Av', cv', he2, hrd2⟩ := hrow2.rd
        rw [List.length_map] at he2 hrd2
        injection he2 with e1 _ e3
        subst e1 e3
        have HRD := Lib.hid hrd2
        have HBB := Lib.hid ((((Fr.all HB0.out HFA.out).setCell (p := ⟨N + 1, 0, none⟩) (by show N ≤ N + 1; omega) (.slice Av ts.length cv)).setCell (p := ⟨N + 2, 0, none⟩) (by show N ≤ N + 2; omega) (.int .i64 (-1))).setCell (p := ⟨N + 3, 0, none⟩) (by show N ≤ N + 3; omega) (.int .i64 0))
        clear hpe hT1 hrow hrow2 hrd2
        go_wp2_with fail
        refine leaves_cons (f := 139) (args := #[.pointer (some ⟨N + 1, 0, none⟩), .pointer (some ⟨N + 1 + 1, 0, none⟩), .pointer (some ⟨N + 1 + 1 + 1, 0, none⟩)]) (by simp) (by simp [go_sem]) ?_
        refine (catch_idle5 _ _ _ _).mono ?_
        rintro e u' w'' ⟨rfl, rfl, rfl⟩
        refine leaves_tri HT2.out rfl rfl rfl ⟨?_, ?_⟩
        · rw [HN.out]; exact HBB.out
        · exact ⟨_, _, rfl, HRD.out⟩
end Go.Proofs.YtdhighnbbpngpaaGreatDoor
namespace Go.Proofs.YtdhighnbbpngpaaGreatDoor
open Go.RowKit
open E (okb encB flat offs DecIs Upto)
open W (Tk Lx lexS)

/-- Tokens with their places among bytes. -/
def placed (L : List Int) (ts : List Tk) : List Tok := ts.map fun t => ⟨t.kind, t.text, t.low, t.high, plc L t.at_⟩
/-- What a text's tokens come to: the tokens, or the place and the error. -/
inductive TokIs (Bs : List Int) : List Tok → Int → Int → Prop where
  | dec (cs ats : List Int) (x er : Int) (h : DecIs Bs cs ats x er) (he : er ≠ 0) : TokIs Bs [] x er
  | bad (cs ats : List Int) (x : Int) (h : DecIs Bs cs ats x 0) (k : Nat) (er : Int) (hl : lexS cs 0 0 [] = .bad k er) : TokIs Bs [] (plc cs k : Nat) er
  | ok (cs ats : List Int) (x : Int) (h : DecIs Bs cs ats x 0) (ts : List Tk) (hl : lexS cs 0 0 [] = .ok ts) : TokIs Bs (placed cs ts) (-1) 0
/-- What Of leaves. -/
def OfP5 (w : World) (Bs : List Int) (e : Ending) (w' : World) : Prop := ∃ (A : Option Addr) (n c : Nat) (l : List Tok) (x er : Int),
  e = .returned (.tuple #[.slice A n c, .int .i64 x, .int .i64 er]) ∧ RdT w' w'.heap.size A n c l ∧ TokIs Bs l x er ∧ Below w.heap.size w w'
theorem dec_ok {Bs cs ats : List Int} {x er : Int} (h : DecIs Bs cs ats x er) (he : er = 0) : cs.all okb = true ∧ Bs = flat cs ∧ Bs.length ≤ 3000 ∧ ats = offs 0 cs ++ [(Bs.length : Int)] := by
  cases h with
  | ok _ hl hu => exact ⟨List.all_eq_true.2 hu.ok, by have := hu.eq; rw [List.take_length] at this; exact this, hl, rfl⟩
  | bad _ _ _ _ _ _ => omega
  | long _ => omega
set_option maxHeartbeats 1000000 in
theorem of5_any {w : World} {A : Option Addr} {n c : Nat} {Bs : List Int} (h : RdK .u8 w w.heap.size A n c Bs) (hb : Byt Bs) (hT : Tabs w) :
    Calls Tryz.prog 60 #[.slice A n c] w (OfP5 w Bs) := by
  have HH := Lib.hid h
  have hdec := Lib.hid (decode_any h hb hT)
  clear h hb hT
  go_enter Tryz.func60, Tryz.ntmps60
  go_wp2_with fail
  refine hdec.out.mono ?_
  rintro e w1 ⟨A1, A2, n1, c1, n2, c2, cs, ats, x, er, rfl, r1, r2, hd, hb1⟩
  have HB1 := Lib.hid hb1
  have HD := Lib.hid hd
  have HR0 := Lib.hid (HH.out.on hb1)
  have HR1 := Lib.hid r1
  have HR2 := Lib.hid r2
  clear r1 r2 hd hb1 hdec
  by_cases he : er = 0
  · subst he
    obtain ⟨o1, o2, o3, o4⟩ := dec_ok HD.out rfl
    have hrd := read5_any (X := ⟨A, n, c, Bs, A1, n1, c1, cs, A2, n2, c2, ats⟩) ⟨o1, o2, o3, o4⟩ HR0.out HR1.out HR2.out
    unfold LexP at hrd
    simp only at hrd
    have HRD := Lib.hid hrd
    clear hrd o1 o2 o3 o4
    go_wp2_with fail
    refine HRD.out.mono ?_
    rintro e w2 ⟨hb2, hm⟩
    have HB2 := Lib.hid (HB1.out.trans (hb2.mono HB1.out.size))
    clear hb2
    cases hl : lexS cs 0 0 [] with
    | ok ts =>
      rw [hl] at hm
      obtain ⟨A3, c3, rfl, hr3⟩ := hm
      have HE : Hid (OfP5 w Bs (.returned (.tuple #[.slice A3 ts.length c3, .int .i64 (-1), .int .i64 0])) w2) := ⟨A3, ts.length, c3, placed cs ts, -1, 0, rfl, hr3, .ok cs ats x HD.out ts hl, HB2.out⟩
      go_wp2_with fail
      exact bodyPost_ret (v := .tuple #[.slice A3 ts.length c3, .int .i64 (-1), .int .i64 0]) (by simp [results, Tryz.results60, go_sem]) rfl HE.out
    | bad k er =>
      rw [hl] at hm
      subst hm
      have HE : Hid (OfP5 w Bs (.returned (.tuple #[.slice none 0 0, .int .i64 (plc cs k : Nat), .int .i64 er])) w2) := ⟨none, 0, 0, [], _, er, rfl, RdT.nil _ _, .bad cs ats x HD.out k er hl, HB2.out⟩
      go_wp2_with fail
      exact bodyPost_ret (v := .tuple #[.slice none 0 0, .int .i64 (plc cs k : Nat), .int .i64 er]) (by simp [results, Tryz.results60, go_sem]) rfl HE.out
  · have g1 : (er != 0) = true := by simpa using he
    have HE : Hid (OfP5 w Bs (.returned (.tuple #[.slice none 0 0, .int .i64 x, .int .i64 er])) w1) := ⟨none, 0, 0, [], x, er, rfl, RdT.nil _ _, .dec cs ats x er HD.out he, HB1.out⟩
    go_wp2_with fail
    exact bodyPost_ret (v := .tuple #[.slice none 0 0, .int .i64 x, .int .i64 er]) (by simp [results, Tryz.results60, go_sem]) rfl HE.out
end Go.Proofs.YtdhighnbbpngpaaGreatDoor
