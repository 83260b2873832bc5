/- The reader of word: the next token, outside of sets and in one. -/
import Derived.Test.YtddoobpflfooaaaDoorWN
set_option maxRecDepth 100000
namespace Go.Proofs.YtddoobpflfooaaaDoor
open Go.RowKit
open W (Tk St C lexS opn dgB signK outS inS stepS lastK nameS setS numT noteS charsS)

section
variable {X : Cx} {b : Nat} {w : World} {p o : Nat} {tv : Value} {ts : List Tk}
theorem StepP.on {w0 : World} {r : St} {e : Ending} {w' : World} (h : StepP X b w p o ts r e w') (hf : Fr b w0 w) : StepP X b w0 p o ts r e w' := by
  cases r with
  | tok k x lo hi m => exact ⟨h.1, h.2.1, hf.trans h.2.2⟩
  | skip m => exact ⟨h.1, h.2.1, hf.trans h.2.2⟩
  | bad k er => exact ⟨h.1, hf.trans h.2⟩
/-- How a method that reads a token ends. -/
theorem StepP.ends {r : St} {e : Ending} {w' : World} (h : StepP X b w p o ts r e w') : e = .returned (.tuple #[]) ∨ ∃ c, e = .panicked c := by
  cases r with
  | tok k x lo hi m => exact .inl h.1
  | skip m => exact .inl h.1
  | bad k er => exact .inr ⟨_, h.1⟩
theorem signK_rest {c : Int} (h : c ≠ 36) (h2 : dgB c = false) (h3 : c ≠ 91) (h4 : c ≠ 35) (t : List Int) : outS c t = if signK c = 0 then .bad 0 4 else .tok (signK c) [] 0 0 0 := by
  unfold W.outS; rw [if_neg h, if_neg (by rw [h2]; decide), if_neg h3, if_neg h4]
theorem sign_opn {c : Int} (o : Nat) : opn (signK c) o = o := by
  have h : signK c ≠ 13 ∧ signK c ≠ 14 := by unfold W.signK; (repeat' split) <;> omega
  unfold W.opn; rw [if_neg h.1, if_neg h.2]
set_option maxHeartbeats 2000000 in
theorem outside_any (h : Rdv X b w p o tv ts) (hp : p < X.nc) (ho : o ≤ p) (hts : ts.length ≤ p) {c : Int} (hc : X.L[p]? = some c) :
    Calls Tryd.prog 33 #[.pointer (some ⟨b, 0, none⟩)] w (StepP X b w p o ts (outS c (X.L.drop (p + 1)))) := by
  obtain ⟨c0, c1, c2, c3, c4, c5⟩ := h.cells
  have hsz := h.size
  obtain ⟨bc, offc, xc, hAc, _, hxc, hcell⟩ := h.chars.got hp
  obtain rfl : c = xc := by rw [hc] at hxc; exact Option.some.inj hxc
  rw [hAc] at c1
  have hpn : (p : Int) < (X.nc : Int) := by omega
  have hp0 : (0 : Int) ≤ (p : Int) := by omega
  have hcons : X.L.drop p = c :: X.L.drop (p + 1) := by
    obtain ⟨hi, e⟩ := List.getElem?_eq_some_iff.1 hc
    rw [drop_cons hi, e]
  have HH := Lib.hid h
  have hdg := Lib.hid fun q => isdigit_any c (w.drewN q)
  have HHd : Hid (chV X.L p = c) := chV_at hc
  have HF := Lib.hid fun q => (Fr.refl b w).drewN q
  clear h hAc hxc hc
  by_cases h36 : c = 36
  · have HE : Hid (outS c (X.L.drop (p + 1)) = nameS (X.L.drop (p + 1))) := by show _ = _; unfold W.outS; rw [if_pos h36]
    rw [HE.out]
    subst h36
    go_enter Tryd.func33, Tryd.ntmps33
    go_wp2_with fail
    go_quiet (fail)
    have hcon := Lib.hid (name_any (HH.out.drewN nq) hp hts)
    go_wp2_with fail
    refine hcon.out.mono ?_
    intro e w1 hP
    have HP := Lib.hid (hP.on (HF.out nq))
    rcases hP.ends with rfl | ⟨ch, rfl⟩
    · go_wp2_with fail
      exact bodyPost_ret (v := .tuple #[]) (by simp [results, Tryd.results33, go_sem]) rfl HP.out
    · go_wp2_with fail
      exact ⟨rfl, HP.out⟩
  · have g36 : (c == 36) = false := by simpa using h36
    cases hd : dgB c with
    | true =>
      have HE : Hid (outS c (X.L.drop (p + 1)) = numT (X.L.drop p)) := by show _ = _; unfold W.outS; rw [if_neg h36, if_pos hd, hcons]
      rw [HE.out]
      rw [hd] at hdg
      clear hd h36 hcons
      go_enter Tryd.func33, Tryd.ntmps33
      go_wp2_with fail
      go_quiet (fail)
      have hcon := Lib.hid (number_step (HH.out.drewN nq) hp hts)
      go_wp2_with fail
      refine (hdg.out nq).mono ?_
      rintro e w1 ⟨rfl, rfl⟩
      go_wp2_with fail
      refine hcon.out.mono ?_
      intro e w1 hP
      have HP := Lib.hid (hP.on (HF.out nq))
      rcases hP.ends with rfl | ⟨ch, rfl⟩
      · go_wp2_with fail
        exact bodyPost_ret (v := .tuple #[]) (by simp [results, Tryd.results33, go_sem]) rfl HP.out
      · go_wp2_with fail
        exact ⟨rfl, HP.out⟩
    | false =>
      rw [hd] at hdg
      by_cases h91 : c = 91
      · have HE : Hid (outS c (X.L.drop (p + 1)) = setS (X.L.drop (p + 1))) := by show _ = _; unfold W.outS; rw [if_neg h36, if_neg (by rw [hd]; decide), if_pos h91]
        rw [HE.out]
        subst h91
        clear hd
        go_enter Tryd.func33, Tryd.ntmps33
        go_wp2_with fail
        go_quiet (fail)
        have hcon := Lib.hid (set_any (HH.out.drewN nq) hp ho hts)
        go_wp2_with fail
        refine (hdg.out nq).mono ?_
        rintro e w1 ⟨rfl, rfl⟩
        go_wp2_with fail
        refine hcon.out.mono ?_
        intro e w1 hP
        have HP := Lib.hid (hP.on (HF.out nq))
        rcases hP.ends with rfl | ⟨ch, rfl⟩
        · go_wp2_with fail
          exact bodyPost_ret (v := .tuple #[]) (by simp [results, Tryd.results33, go_sem]) rfl HP.out
        · go_wp2_with fail
          exact ⟨rfl, HP.out⟩
      · have g91 : (c == 91) = false := by simpa using h91
        by_cases h35 : c = 35
        · have HE : Hid (outS c (X.L.drop (p + 1)) = noteS (X.L.drop p)) := by show _ = _; unfold W.outS; rw [if_neg h36, if_neg (by rw [hd]; decide), if_neg h91, if_pos h35, hcons]
          rw [HE.out]
          subst h35
          clear hd hcons
          go_enter Tryd.func33, Tryd.ntmps33
          go_wp2_with fail
          go_quiet (fail)
          have hcon := Lib.hid (note_any (HH.out.drewN nq) hp hts HHd.out)
          go_wp2_with fail
          refine (hdg.out nq).mono ?_
          rintro e w1 ⟨rfl, rfl⟩
          go_wp2_with fail
          refine hcon.out.mono ?_
          intro e w1 hP
          have HP := Lib.hid (hP.on (HF.out nq))
          rcases hP.ends with rfl | ⟨ch, rfl⟩
          · go_wp2_with fail
            exact bodyPost_ret (v := .tuple #[]) (by simp [results, Tryd.results33, go_sem]) rfl HP.out
          · go_wp2_with fail
            exact ⟨rfl, HP.out⟩
        · have g35 : (c == 35) = false := by simpa using h35
          rw [signK_rest h36 hd h91 h35]
          have hsg := Lib.hid fun q => sign_any c (w.drewN q)
          have HO := Lib.hid (sign_opn (c := c) o)
          generalize signK c = k at *
          clear hd h36 h91 h35
          by_cases hk : k = 0
          · rw [if_pos hk]
            subst hk
            go_enter Tryd.func33, Tryd.ntmps33
            go_wp2_with fail
            go_quiet (fail)
            have hfail := Lib.hid (fail_any (HH.out.drewN nq) (i := p) (by omega) 4)
            have c3q : (w.drewN nq).cell? ⟨b, 3, none⟩ = some (.int .i64 p) := c3
            go_wp2_with fail
            refine (hdg.out nq).mono ?_
            rintro e w1 ⟨rfl, rfl⟩
            go_wp2_with fail
            refine (hsg.out nq).mono ?_
            rintro e w1 ⟨rfl, rfl⟩
            go_wp2_with fail
            refine hfail.out.mono ?_
            rintro e w1 ⟨rfl, rfl⟩
            go_wp2_with fail
            exact ⟨rfl, rfl, HF.out nq⟩
          · rw [if_neg hk]
            have gk : (k == 0) = false := by simpa using hk
            have hn2 := HH.out.nc.2.1
            clear hk
            go_enter Tryd.func33, Tryd.ntmps33
            go_wp2_with fail
            go_quiet (fail)
            have hput := Lib.hid (put_any (HH.out.drewN nq) k 0 0 0 [] (q := p + 1) (by omega) (by omega))
            have c3q : (w.drewN nq).cell? ⟨b, 3, none⟩ = some (.int .i64 p) := c3
            go_wp2_with fail
            refine (hdg.out nq).mono ?_
            rintro e w1 ⟨rfl, rfl⟩
            go_wp2_with fail
            refine (hsg.out nq).mono ?_
            rintro e w1 ⟨rfl, rfl⟩
            go_wp2_with fail
            refine hput.out.mono ?_
            intro e w1 hP
            have HE := Lib.hid (stepP_tok (o := o) (m := 0) hP (HF.out nq) HO.out.symm rfl)
            obtain ⟨rfl, _, _⟩ := hP
            go_wp2_with fail
            exact bodyPost_ret (v := .tuple #[]) (by simp [results, Tryd.results33, go_sem]) rfl HE.out
end
end Go.Proofs.YtddoobpflfooaaaDoor
