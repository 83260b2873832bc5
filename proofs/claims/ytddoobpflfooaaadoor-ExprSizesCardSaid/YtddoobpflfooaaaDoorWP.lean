/- The reader of word: the next token in a set. -/
import Derived.Test.YtddoobpflfooaaaDoorWO
set_option maxRecDepth 100000
namespace Go.Proofs.YtddoobpflfooaaaDoor
open Go.RowKit
open W (Tk St C lexS opn dgB signK outS inS stepS lastK nameS setS numT noteS charsS)

section
variable {X : Cx} {b : Nat} {w : World} {p o : Nat} {tv : Value} {ts : List Tk}
/-- The last token's kind lies in memory. -/
theorem Rdv.last (h : Rdv X b w p o tv ts) (hne : ts ≠ []) : ∃ (g off c m : Nat), tv = .slice (some ⟨g, off, none⟩) (m + 1) c ∧ m < ts.length ∧ m + 1 = ts.length ∧ w.cell? ⟨g, off + m * 5, none⟩ = some (.int .i64 (lastK ts)) := by
  obtain ⟨A, c, rfl, hr⟩ := h.row.rd
  have hl : 0 < ts.length := List.length_pos_iff.2 hne
  rw [List.length_map] at hr ⊢
  obtain ⟨g, off, rfl, _, hc⟩ := hr.at_ hl
  obtain ⟨m, hm⟩ : ∃ m, ts.length = m + 1 := ⟨ts.length - 1, by omega⟩
  refine ⟨g, off, c, m, by rw [hm], by omega, hm.symm, ?_⟩
  have hlast : ts[m]? = ts.getLast? := by rw [List.getLast?_eq_getElem?, hm]; rfl
  have hmt : m < ts.length := by omega
  have e1 : ts[m]? = some ts[m] := List.getElem?_eq_getElem hmt
  have e2 : (ts.map X.put)[m]? = some (X.put ts[m]) := by rw [List.getElem?_map, e1]; rfl
  have := cellsP_at e2 (j := 0) (by decide)
  rw [Nat.add_zero] at this
  refine (hc (m * 5) _ this).trans ?_
  unfold W.lastK
  rw [← hlast, e1]
  rfl
set_option maxHeartbeats 2000000 in
theorem inSet_any (h : Rdv X b w p o tv ts) (hp : p < X.nc) (ho : o ≤ p) (ho0 : 0 < o) (hts : ts.length ≤ p) (hne : ts ≠ []) {c : Int} (hc : X.L[p]? = some c) :
    Calls Tryd.prog 32 #[.pointer (some ⟨b, 0, none⟩)] w (StepP X b w p o ts (inS (lastK ts) c (X.L.drop (p + 1)))) := by
  obtain ⟨c0, c1, c2, c3, c4, c5⟩ := h.cells
  have hsz := h.size
  have hn2 := h.nc.2.1
  have f4 := h.fr 4
  obtain ⟨bc, offc, xc, hAc, _, hxc, hcell⟩ := h.chars.got hp
  obtain rfl : c = xc := by rw [hc] at hxc; exact Option.some.inj hxc
  rw [hAc] at c1
  have hpn : (p : Int) < (X.nc : Int) := by omega
  have hp0 : (0 : Int) ≤ (p : Int) := by omega
  have hcons : X.L.drop p = c :: X.L.drop (p + 1) := by
    obtain ⟨hi, e⟩ := List.getElem?_eq_some_iff.1 hc
    rw [drop_cons hi, e]
  obtain ⟨g, offg, cg, m, htv, hm1, hm2, hlast⟩ := h.last hne
  have HH := Lib.hid h
  have HF := Lib.hid fun q => (Fr.refl b w).drewN q
  generalize hlk : lastK ts = lk at *
  clear h hAc hxc hc hlk
  by_cases h36 : c = 36
  · have HE : Hid (inS lk c (X.L.drop (p + 1)) = nameS (X.L.drop (p + 1))) := by show _ = _; unfold W.inS; rw [if_pos h36]
    rw [HE.out]
    subst h36
    clear hcons htv hlast
    go_enter Tryd.func32, Tryd.ntmps32
    go_wp2_with fail
    go_quiet (fail)
    have hcon := Lib.hid (name_any (HH.out.drewN nq) hp hts)
    go_wp2_with fail
    refine hcon.out.mono ?_
    intro e w1 hP
    have HP := Lib.hid (hP.on (HF.out nq))
    rcases hP.ends with rfl | ⟨ch, rfl⟩
    · go_wp2_with fail
      exact bodyPost_ret (v := .tuple #[]) (by simp [results, Tryd.results32, go_sem]) rfl HP.out
    · go_wp2_with fail
      exact ⟨rfl, HP.out⟩
  · have g36 : (c == 36) = false := by simpa using h36
    by_cases h91 : c = 91
    · have HE : Hid (inS lk c (X.L.drop (p + 1)) = setS (X.L.drop (p + 1))) := by show _ = _; unfold W.inS; rw [if_neg h36, if_pos h91]
      rw [HE.out]
      subst h91
      clear hcons htv hlast
      go_enter Tryd.func32, Tryd.ntmps32
      go_wp2_with fail
      go_quiet (fail)
      have hcon := Lib.hid (set_any (HH.out.drewN nq) hp ho hts)
      go_wp2_with fail
      refine hcon.out.mono ?_
      intro e w1 hP
      have HP := Lib.hid (hP.on (HF.out nq))
      rcases hP.ends with rfl | ⟨ch, rfl⟩
      · go_wp2_with fail
        exact bodyPost_ret (v := .tuple #[]) (by simp [results, Tryd.results32, go_sem]) rfl HP.out
      · go_wp2_with fail
        exact ⟨rfl, HP.out⟩
    · have g91 : (c == 91) = false := by simpa using h91
      by_cases h93 : c = 93
      · have HE : Hid (inS lk c (X.L.drop (p + 1)) = .tok 14 [] 0 0 0) := by show _ = _; unfold W.inS; rw [if_neg h36, if_neg h91, if_pos h93]
        rw [HE.out]
        subst h93
        clear hcons htv hlast
        have eo : ((o - 1 : Nat) : Int) = (o : Int) - 1 := by omega
        have HEO := Lib.hid eo
        clear eo
        go_enter Tryd.func32, Tryd.ntmps32
        go_wp2_with fail
        go_quiet (fail)
        have hR := (HH.out.drewN nq).open_ (o - 1)
        rw [HEO.out] at hR
        have c3q := hR.cells.2.2.2.1
        have c4q : (w.drewN nq).cell? ⟨b, 4, none⟩ = some (.int .i64 o) := c4
        have f4q : (w.drewN nq).frozen? ⟨b, 4, none⟩ = false := f4
        have hput := Lib.hid (put_any hR 14 0 0 0 [] (q := p + 1) (by omega) (by omega))
        have HF2 := Lib.hid ((HF.out nq).set 4 (.int .i64 ((o : Int) - 1)))
        clear hR
        go_wp2_with fail
        refine hput.out.mono ?_
        intro e w1 hP
        have HE := Lib.hid (stepP_tok (o := o) (m := 0) hP HF2.out rfl rfl)
        obtain ⟨rfl, _, _⟩ := hP
        go_wp2_with fail
        exact bodyPost_ret (v := .tuple #[]) (by simp [results, Tryd.results32, go_sem]) rfl HE.out
      · have g93 : (c == 93) = false := by simpa using h93
        by_cases h38 : c = 38
        · have HE : Hid (inS lk c (X.L.drop (p + 1)) = .tok 16 [] 0 0 0) := by show _ = _; unfold W.inS; rw [if_neg h36, if_neg h91, if_neg h93, if_pos h38]
          rw [HE.out]
          subst h38
          clear hcons htv hlast
          go_enter Tryd.func32, Tryd.ntmps32
          go_wp2_with fail
          go_quiet (fail)
          have c3q : (w.drewN nq).cell? ⟨b, 3, none⟩ = some (.int .i64 p) := c3
          have hput := Lib.hid (put_any (HH.out.drewN nq) 16 0 0 0 [] (q := p + 1) (by omega) (by omega))
          go_wp2_with fail
          refine hput.out.mono ?_
          intro e w1 hP
          have HE := Lib.hid (stepP_tok (o := o) (m := 0) hP (HF.out nq) rfl rfl)
          obtain ⟨rfl, _, _⟩ := hP
          go_wp2_with fail
          exact bodyPost_ret (v := .tuple #[]) (by simp [results, Tryd.results32, go_sem]) rfl HE.out
        · have g38 : (c == 38) = false := by simpa using h38
          by_cases h45 : c = 45
          · have HE : Hid (inS lk c (X.L.drop (p + 1)) = if lk = 14 ∨ lk = 1 then .tok 17 [] 0 0 0 else .bad 0 4) := by show _ = _; unfold W.inS; rw [if_neg h36, if_neg h91, if_neg h93, if_neg h38, if_pos h45]
            rw [HE.out]
            subst h45
            rw [htv] at c5
            have hm0 : (0 : Int) ≤ (m : Int) := by omega
            have hm9 : (m : Int) ≤ 3000 := by omega
            clear hcons htv HE
            have hmb : (m : Int) + 1 ≤ 3001 := by omega
            clear hm1 hm2 hne
            by_cases hlk : lk = 14 ∨ lk = 1
            · rw [if_pos hlk]
              rcases hlk with rfl | rfl
              · go_enter Tryd.func32, Tryd.ntmps32
                go_wp2_with fail
                go_quiet (fail)
                generalize hW : w.drewN nq = W at *
                have hR := HH.out.drewN nq
                rw [hW] at hR
                have HR := Lib.hid hR
                have HFW := Lib.hid (HF.out nq)
                rw [hW] at HFW
                have c5W : W.cell? ⟨b, 5, none⟩ = some (.slice (some ⟨g, offg, none⟩) (m + 1) cg) := by rw [← hW]; exact c5
                have clW : W.cell? ⟨g, offg + m * 5, none⟩ = some (.int .i64 14) := by rw [← hW]; exact hlast
                have c3W : W.cell? ⟨b, 3, none⟩ = some (.int .i64 p) := by rw [← hW]; exact c3
                clear hR hW
                go_wp2_with fail
                go_quiet (fail)
                have c3q : (W.drewN nq).cell? ⟨b, 3, none⟩ = some (.int .i64 p) := c3W
                have hput := Lib.hid (put_any (HR.out.drewN nq) 17 0 0 0 [] (q := p + 1) (by omega) (by omega))
                have HF2 := Lib.hid (HFW.out.drewN nq)
                go_wp2_with fail
                refine hput.out.mono ?_
                intro e w1 hP
                have HE := Lib.hid (stepP_tok (o := o) (m := 0) hP HF2.out rfl rfl)
                obtain ⟨rfl, _, _⟩ := hP
                go_wp2_with fail
                exact bodyPost_ret (v := .tuple #[]) (by simp [results, Tryd.results32, go_sem]) rfl HE.out
              · go_enter Tryd.func32, Tryd.ntmps32
                go_wp2_with fail
                go_quiet (fail)
                generalize hW : w.drewN nq = W at *
                have hR := HH.out.drewN nq
                rw [hW] at hR
                have HR := Lib.hid hR
                have HFW := Lib.hid (HF.out nq)
                rw [hW] at HFW
                have c5W : W.cell? ⟨b, 5, none⟩ = some (.slice (some ⟨g, offg, none⟩) (m + 1) cg) := by rw [← hW]; exact c5
                have clW : W.cell? ⟨g, offg + m * 5, none⟩ = some (.int .i64 1) := by rw [← hW]; exact hlast
                have c3W : W.cell? ⟨b, 3, none⟩ = some (.int .i64 p) := by rw [← hW]; exact c3
                clear hR hW
                go_wp2_with fail
                go_quiet (fail)
                have c3q : (W.drewN nq).cell? ⟨b, 3, none⟩ = some (.int .i64 p) := c3W
                have hput := Lib.hid (put_any (HR.out.drewN nq) 17 0 0 0 [] (q := p + 1) (by omega) (by omega))
                have HF2 := Lib.hid (HFW.out.drewN nq)
                go_wp2_with fail
                refine hput.out.mono ?_
                intro e w1 hP
                have HE := Lib.hid (stepP_tok (o := o) (m := 0) hP HF2.out rfl rfl)
                obtain ⟨rfl, _, _⟩ := hP
                go_wp2_with fail
                exact bodyPost_ret (v := .tuple #[]) (by simp [results, Tryd.results32, go_sem]) rfl HE.out
            · rw [if_neg hlk]
              have g14 : (lk != 14) = true := by simp; omega
              have g1 : (lk != 1) = true := by simp; omega
              clear hlk
              go_enter Tryd.func32, Tryd.ntmps32
              go_wp2_with fail
              go_quiet (fail)
              generalize hW : w.drewN nq = W at *
              have hR := HH.out.drewN nq
              rw [hW] at hR
              have HR := Lib.hid hR
              have HFW := Lib.hid (HF.out nq)
              rw [hW] at HFW
              have c5W : W.cell? ⟨b, 5, none⟩ = some (.slice (some ⟨g, offg, none⟩) (m + 1) cg) := by rw [← hW]; exact c5
              have clW : W.cell? ⟨g, offg + m * 5, none⟩ = some (.int .i64 lk) := by rw [← hW]; exact hlast
              have c3W : W.cell? ⟨b, 3, none⟩ = some (.int .i64 p) := by rw [← hW]; exact c3
              clear hR hW
              go_wp2_with fail
              go_quiet (fail)
              have c3q : (W.drewN nq).cell? ⟨b, 3, none⟩ = some (.int .i64 p) := c3W
              have hfail := Lib.hid (fail_any (HR.out.drewN nq) (i := p) (by omega) 4)
              have HF2 := Lib.hid (HFW.out.drewN nq)
              go_wp2_with fail
              refine hfail.out.mono ?_
              rintro e w1 ⟨rfl, rfl⟩
              go_wp2_with fail
              exact ⟨rfl, rfl, HF2.out⟩
          · have g45 : (c == 45) = false := by simpa using h45
            have HE : Hid (inS lk c (X.L.drop (p + 1)) = charsS (X.L.drop p)) := by show _ = _; unfold W.inS; rw [if_neg h36, if_neg h91, if_neg h93, if_neg h38, if_neg h45, hcons]
            rw [HE.out]
            clear hcons htv hlast
            go_enter Tryd.func32, Tryd.ntmps32
            go_wp2_with fail
            go_quiet (fail)
            have hcon := Lib.hid (characters_any (HH.out.drewN nq) hp hts)
            go_wp2_with fail
            refine hcon.out.mono ?_
            intro e w1 hP
            have HP := Lib.hid (hP.on (HF.out nq))
            rcases hP.ends with rfl | ⟨ch, rfl⟩
            · go_wp2_with fail
              exact bodyPost_ret (v := .tuple #[]) (by simp [results, Tryd.results32, go_sem]) rfl HP.out
            · go_wp2_with fail
              exact ⟨rfl, HP.out⟩
end
end Go.Proofs.YtddoobpflfooaaaDoor
