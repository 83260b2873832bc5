/- The reader of word: set, number. -/
import Derived.Test.YtdbjjakkjmhdgaaDoorWG
import Derived.Deep.RegionHeldLaw
set_option maxRecDepth 100000
namespace Go.Proofs.YtdbjjakkjmhdgaaDoor
open Go.RowKit
open W (Tk St lexS opn setS numT numB nameS many nmB ltB)

/-- What a method leaves that reads a token. -/
def StepP (X : Cx) (b : Nat) (w : World) (p o : Nat) (ts : List Tk) (r : St) (e : Ending) (w' : World) : Prop :=
  match r with
  | .tok k x lo hi m => e = .returned (.tuple #[]) ∧ Rdw X b w' (p + m + 1) (opn k o) (ts ++ [⟨k, x, lo, hi, p⟩]) ∧ Fr b w w'
  | .skip m => e = .returned (.tuple #[]) ∧ Rdw X b w' (p + m + 1) o ts ∧ Fr b w w'
  | .bad k er => e = .panicked (stopOf (plc X.L (p + k)) er) ∧ Fr b w w'
theorem stepP_tok {X : Cx} {b : Nat} {w w1 w' : World} {p o o' q : Nat} {ts : List Tk} {k lo hi : Int} {x : List Int} {m : Nat} {e : Ending} (h : PutP X b w1 q o' (ts ++ [⟨k, x, lo, hi, p⟩]) e w') (hf : Fr b w w1) (ho : o' = opn k o) (hq : q = p + m + 1) : StepP X b w p o ts (.tok k x lo hi m) e w' := by
  subst ho hq
  exact ⟨h.1, h.2.1, hf.trans h.2.2⟩
theorem drop_cons {L : List Int} {p : Nat} (hp : p < L.length) : L.drop p = L[p] :: L.drop (p + 1) := List.drop_eq_getElem_cons hp
section
variable {X : Cx} {b : Nat} {w : World} {p o : Nat} {tv : Value} {ts : List Tk}
set_option maxHeartbeats 2000000 in
theorem set_any (h : Rdv X b w p o tv ts) (hp : p < X.nc) (ho : o ≤ p) (hts : ts.length ≤ p) :
    Calls Tryd.prog 40 #[.pointer (some ⟨b, 0, none⟩)] w (StepP X b w p o ts (setS (X.L.drop (p + 1)))) := by
  obtain ⟨n1, n2, n3, n4⟩ := h.nc
  obtain ⟨c0, c1, c2, c3, c4, c5⟩ := h.cells
  have f4 := h.fr 4
  have hR := h.open_ (o + 1)
  have HF := Lib.hid ((Fr.refl b w).set 4 (.int .i64 ((o + 1 : Nat) : Int)))
  have hcon := Lib.hid (char_any hR (i := p + 1) (by omega))
  have hput1 := Lib.hid (put_any hR 13 0 0 0 [] (q := p + 1) (by omega) (by omega))
  have hput2 : p + 2 ≤ X.nc → Hid _ := fun hq => Lib.hid (put_any hR 13 1 0 0 [] (q := p + 2) hq (by omega))
  unfold setS
  have HL : Hid ((X.L.drop (p + 1)).headD (-1) = chV X.L (p + 1)) := rfl
  rw [HL.out]
  have c3' := hR.cells.2.2.2.1
  have HC := Lib.hid (chV_end (L := X.L) (i := p + 1))
  clear h hR HL
  generalize chV X.L (p + 1) = x at *
  by_cases hx : x = 94
  · have hq : p + 2 ≤ X.nc := by
      rcases Nat.lt_or_ge (p + 1) X.nc with h1 | h1
      · exact h1
      · have := HC.out (by omega); omega
    have hput := hput2 hq
    rw [if_pos hx]
    subst hx
    clear hput1 hput2 HC n1 n3
    go_enter Tryd.func40, Tryd.ntmps40
    go_wp2_with fail
    refine hcon.out.mono ?_
    rintro e w1 ⟨rfl, rfl⟩
    go_wp2_with fail
    refine hput.out.mono ?_
    intro e w1 hP
    have HE := Lib.hid (stepP_tok (m := 1) hP HF.out rfl rfl)
    obtain ⟨rfl, _, _⟩ := hP
    go_wp2_with fail
    exact bodyPost_ret (v := .tuple #[]) (by simp [results, Tryd.results40, go_sem]) rfl HE.out
  · have g1 : (x == 94) = false := by simpa using hx
    rw [if_neg hx]
    clear hput2 HC hx n1 n3
    go_enter Tryd.func40, Tryd.ntmps40
    go_wp2_with fail
    refine hcon.out.mono ?_
    rintro e w1 ⟨rfl, rfl⟩
    go_wp2_with fail
    refine hput1.out.mono ?_
    intro e w1 hP
    have HE := Lib.hid (stepP_tok (m := 0) hP HF.out rfl rfl)
    obtain ⟨rfl, _, _⟩ := hP
    go_wp2_with fail
    exact bodyPost_ret (v := .tuple #[]) (by simp [results, Tryd.results40, go_sem]) rfl HE.out
theorem numberOf_quiet {B : Nat} {A : Option Addr} {n c : Nat} {L : List Int} (h : RdK .u8 w B A n c L) (hB : B ≤ w.heap.size) (hb : Byt L) (hn : n ≤ 3000) {v : Int} {s : Nat} {er : Int} (hv : numB L = (v, s, er)) (q : Nat) :
    Calls Tryd.prog 54 #[.slice A n c] (w.drewN q) fun e w'' => e = .returned (.tuple #[.int .i64 v, .int .i64 s, .int .i64 er]) ∧ ∃ m, w'' = w.drewN m :=
  (numberOf_any ((h.more hB).drewN q) hb hn).mono fun _ _ ⟨he, hw⟩ => ⟨by rw [he, hv], q, hw.symm⟩
theorem Rdv.txt (h : Rdv X b w p o tv ts) (hp : p < X.nc) : ∃ b2 off, X.At = some ⟨b2, off, none⟩ ∧ plc X.L p < X.nt ∧ X.nt ≤ X.ct ∧ RdK .u8 w b (some ⟨b2, off + plc X.L p, none⟩) (X.nt - plc X.L p) (X.ct - plc X.L p) (E.flat (X.L.drop p)) := by
  obtain ⟨n1, n2, n3, n4⟩ := h.nc
  have hl := h.text.len
  have e := flat_cut X.L p
  rw [← h.ok.flat] at e
  have hall : (X.L.drop p).all E.okb = true := W.all_drop h.ok.ok p
  have h1 := W.flat_len hall
  rw [List.length_drop, ← e, List.length_drop, hl] at h1
  have hlt : plc X.L p < X.nt := by omega
  obtain ⟨b2, off, x, hA, _, _, _⟩ := h.text.got (j := 0) (by omega)
  have ht := h.text
  rw [hA] at ht
  refine ⟨b2, off, hA, hlt, ht.cap, ?_⟩
  rw [← e]
  exact ht.drop hlt
theorem Rdv.txt0 (h : Rdv X b w p o tv ts) (hn : 0 < X.nc) : ∃ b2 off, X.At = some ⟨b2, off, none⟩ ∧ 0 < X.nt ∧ X.nt ≤ X.ct ∧ True := by
  obtain ⟨n1, n2, n3, n4⟩ := h.nc
  have h1 := W.flat_len h.ok.ok
  rw [← h.ok.flat, h.text.len] at h1
  obtain ⟨b2, off, x, hA, _, _, _⟩ := h.text.got (j := 0) (by omega)
  exact ⟨b2, off, hA, by omega, h.text.cap, trivial⟩
theorem Rdv.byt (h : Rdv X b w p o tv ts) (l : List Int) : Byt (E.flat l) := fun _ hx => E.flat_byte hx
set_option maxHeartbeats 2000000 in
theorem number_step (h : Rdv X b w p o tv ts) (hp : p < X.nc) (hts : ts.length ≤ p) :
    Calls Tryd.prog 44 #[.pointer (some ⟨b, 0, none⟩)] w (StepP X b w p o ts (numT (X.L.drop p))) := by
  obtain ⟨n1, n2, n3, n4⟩ := h.nc
  obtain ⟨c0, c1, c2, c3, c4, c5⟩ := h.cells
  obtain ⟨b2, off, hA, hb2, hc⟩ := h.place (i := p) (by omega)
  obtain ⟨b3, off3, hA3, hlt, hcap, hr⟩ := h.txt hp
  rw [hA] at c2
  rw [hA3] at c0
  have hall : (X.L.drop p).all E.okb = true := W.all_drop h.ok.ok p
  obtain ⟨v, s, er, hv⟩ : ∃ v s er, numB (X.L.drop p) = (v, s, er) := ⟨_, _, _, rfl⟩
  have hv2 : numB (E.flat (X.L.drop p)) = (v, s, er) := by rw [W.flat_num hall]; exact hv
  have hnum := Lib.hid fun q => numberOf_quiet hr (by have := h.size; omega) (h.byt _) (by omega) hv2 q
  have hle := W.num_le (X.L.drop p)
  have hpos := W.num_pos (l := X.L.drop p)
  rw [hv, List.length_drop] at hle
  rw [hv] at hpos
  simp only at hle hpos
  have hps : p + s ≤ X.nc := by omega
  clear hle
  have HE : Hid (numT (X.L.drop p) = if er = 0 then .tok 2 [] v 0 (s - 1) else .bad 0 er) := by show _ = _; unfold W.numT; rw [hv]
  rw [HE.out]
  have hnp : (p : Int) < (X.np : Int) := by omega
  have hp0 : (0 : Int) ≤ (p : Int) := by omega
  have hpl : plc X.L p ≤ X.nt := by omega
  have hct : ¬ X.ct = plc X.L p := by omega
  have HH := Lib.hid h
  clear h hA hA3 hr hall hv hv2 HE
  generalize hPL : plc X.L p = pl at *
  have HPL := Lib.hid hPL
  clear hPL n1 n3
  by_cases he : er = 0
  · subst he
    have hs1 := hpos rfl
    rw [if_pos rfl]
    go_enter Tryd.func44, Tryd.ntmps44
    go_wp2_with fail
    go_quiet ((go_at_call 54; exact hnum.out _))
    have c3q : (w.drewN nq).cell? ⟨b, 3, none⟩ = some (.int .i64 p) := c3
    have hput := Lib.hid (put_any (HH.out.drewN nq) 2 v 0 0 [] (q := p + s) hps (by omega))
    have HF := Lib.hid ((Fr.refl b w).drewN nq)
    go_wp2_with fail
    refine hput.out.mono ?_
    intro e w1 hP
    have HE := Lib.hid (stepP_tok (o := o) (m := s - 1) hP HF.out rfl (by omega))
    obtain ⟨rfl, _, _⟩ := hP
    go_wp2_with fail
    exact bodyPost_ret (v := .tuple #[]) (by simp [results, Tryd.results44, go_sem]) rfl HE.out
  · have g1 : (er != 0) = true := by simpa using he
    rw [if_neg he]
    clear hpos he
    go_enter Tryd.func44, Tryd.ntmps44
    go_wp2_with fail
    go_quiet ((go_at_call 54; exact hnum.out _))
    have c3q : (w.drewN nq).cell? ⟨b, 3, none⟩ = some (.int .i64 p) := c3
    have hfail := Lib.hid (fail_any (HH.out.drewN nq) (i := p) (by omega) er)
    have HF := Lib.hid ((Fr.refl b w).drewN nq)
    go_wp2_with fail
    refine hfail.out.mono ?_
    rintro e w1 ⟨rfl, rfl⟩
    go_wp2_with fail
    exact ⟨rfl, rfl, HF.out⟩
end
end Go.Proofs.YtdbjjakkjmhdgaaDoor
