/- word.read: all of a text. -/
import Derived.Test.YtddoobpflfooaaaDoorWQ
set_option maxRecDepth 100000
namespace Go.Proofs.YtddoobpflfooaaaDoor
open Go.RowKit
open W (Tk St C Lx lexS opn outS inS stepS lastK)

/-- What word.read answers. -/
def LexP (X : Cx) (w : World) (r : Lx) (e : Ending) (w' : World) : Prop :=
  Below w.heap.size w w' ∧ match r with
  | .ok ts => ∃ A c, e = .returned (.tuple #[.slice A ts.length c, .int .i64 (-1), .int .i64 0]) ∧ RdT w' w'.heap.size A ts.length c (ts.map X.put)
  | .bad k er => e = .returned (.tuple #[.slice none 0 0, .int .i64 (plc X.L k : Nat), .int .i64 er])
theorem leaves_tri {w' : World} {b n c : Nat} {A : Option Addr} {v2 v3 : Int} {tmps : Array Value} {R : Ending → World → Prop} (hF : Tri w' b (.slice A n c) v2 v3)
    (t2 : tmps[2]?.getD undef = .pointer (some ⟨b + 1, 0, none⟩)) (t3 : tmps[3]?.getD undef = .pointer (some ⟨b + 2, 0, none⟩)) (t4 : tmps[4]?.getD undef = .pointer (some ⟨b + 3, 0, none⟩))
    (hR : R (.returned (.tuple #[.slice A n c, .int .i64 v2, .int .i64 v3])) w') :
    Leaves Tryd.prog Tryd.f24 tmps R [] .returning w' := by
  obtain ⟨c1, c2, c3, _⟩ := hF.cells
  refine ⟨_, ?_, hR⟩
  simp [results, Tryd.results24, go_sem, t2, t3, t4, c1, c2, c3]
/-- Where a round of read stands. -/
structure At (X : Cx) (b : Nat) (W0 : World) (R : Lx) (w : World) (p o : Nat) (tv : Value) (ts : List Tk) : Prop where
  rd : Rdv X b w p o tv ts
  fr : Fr b W0 w
  lex : lexS (X.L.drop p) p o ts = R
  ob : o ≤ p
  tb : ts.length ≤ p
  ne : 0 < o → ts ≠ []
  nb : ¬ (chV X.L p = 32 ∨ chV X.L p = 9)
theorem opn_le (k : Int) (o : Nat) : opn k o ≤ o + 1 := by unfold W.opn; split <;> (try split) <;> omega
/-- Behind a step, and blanks behind it. -/
theorem At.next {X : Cx} {b : Nat} {W0 w w1 : World} {R : Lx} {p o : Nat} {tv : Value} {ts : List Tk} {c : Int} {e : Ending} (h : At X b W0 R w p o tv ts) (hc : X.L[p]? = some c) (hs : StepP X b w p o ts (stepS o ts c (X.L.drop (p + 1))) e w1) :
    (∃ q o' tv' ts', e = .returned (.tuple #[]) ∧ Rdv X b w1 q o' tv' ts' ∧ p < q ∧ (∀ e2 w2, SkipP X b w1 q o' tv' ts' e2 w2 → ∃ q', At X b W0 R w2 q' o' tv' ts' ∧ p < q' ∧ e2 = .returned (.tuple #[]))) ∨ (∃ k er, R = .bad k er ∧ e = .panicked (stopOf (plc X.L k) er) ∧ Fr b W0 w1) := by
  have hcons : X.L.drop p = c :: X.L.drop (p + 1) := by
    obtain ⟨hi, e⟩ := List.getElem?_eq_some_iff.1 hc
    rw [drop_cons hi, e]
  have hnb := h.nb
  rw [chV_at hc] at hnb
  have hl := h.lex
  rw [hcons, W.lexS_step hnb] at hl
  cases hst : stepS o ts c (X.L.drop (p + 1)) with
  | tok k x lo hi m =>
    rw [hst] at hl hs
    obtain ⟨rfl, ⟨tv', hr⟩, hf⟩ := hs
    refine .inl ⟨p + m + 1, opn k o, tv', _, rfl, hr, by omega, ?_⟩
    rintro e2 w2 ⟨q', rfl, hr2, hf2, hle, hlex, hnb2⟩
    simp only at hl
    rw [List.drop_drop, show p + 1 + m = p + m + 1 by omega] at hl
    have h1 := opn_le k o
    have h2 := h.ob
    have h3 := h.tb
    exact ⟨q', ⟨hr2, (h.fr.trans hf).trans hf2, hlex.symm.trans hl, by omega, by simp; omega, fun _ => by simp, hnb2⟩, by omega, rfl⟩
  | skip m =>
    rw [hst] at hl hs
    obtain ⟨rfl, ⟨tv', hr⟩, hf⟩ := hs
    refine .inl ⟨p + m + 1, o, tv', ts, rfl, hr, by omega, ?_⟩
    rintro e2 w2 ⟨q', rfl, hr2, hf2, hle, hlex, hnb2⟩
    simp only at hl
    rw [List.drop_drop, show p + 1 + m = p + m + 1 by omega] at hl
    have h2 := h.ob
    have h3 := h.tb
    exact ⟨q', ⟨hr2, (h.fr.trans hf).trans hf2, hlex.symm.trans hl, by omega, by omega, h.ne, hnb2⟩, by omega, rfl⟩
  | bad k er =>
    rw [hst] at hl hs
    obtain ⟨rfl, hf⟩ := hs
    exact .inr ⟨p + k, er, hl.symm, rfl, h.fr.trans hf⟩
/-- The reader as it is boxed, and the three results. -/
def boxed (X : Cx) (w : World) : World := (((w.alloc (.cells #[.slice X.At X.nt X.ct, .slice X.Ac X.nc X.cc, .slice X.Ap X.np X.cp, .int .i64 0, .int .i64 0, .slice none 0 0] 56)).alloc (.cells #[.slice none 0 0] 44)).alloc (.cells #[.int .i64 0] 3)).alloc (.cells #[.int .i64 0] 35)
theorem boxed_below (X : Cx) (w : World) : Below w.heap.size w (boxed X w) := ((((Below.refl _ w).alloc (Nat.le_refl _) _).alloc (by simp) _).alloc (by simp <;> omega) _).alloc (by simp <;> omega) _
theorem boxed_tri (X : Cx) (w : World) : Tri (boxed X w) w.heap.size (.slice none 0 0) 0 0 := by
  unfold boxed
  refine ⟨?_, ?_, ?_⟩
  · rw [Lib.alloc_old _ _ _ (by simp), Lib.alloc_old _ _ _ (by simp)]
    have := heap_alloc_new (w.alloc (.cells #[.slice X.At X.nt X.ct, .slice X.Ac X.nc X.cc, .slice X.Ap X.np X.cp, .int .i64 0, .int .i64 0, .slice none 0 0] 56)) (.cells #[.slice none 0 0] 44)
    simpa using this
  · rw [Lib.alloc_old _ _ _ (by simp)]
    have := heap_alloc_new ((w.alloc (.cells #[.slice X.At X.nt X.ct, .slice X.Ac X.nc X.cc, .slice X.Ap X.np X.cp, .int .i64 0, .int .i64 0, .slice none 0 0] 56)).alloc (.cells #[.slice none 0 0] 44)) (.cells #[.int .i64 0] 3)
    simpa using this
  · have := heap_alloc_new (((w.alloc (.cells #[.slice X.At X.nt X.ct, .slice X.Ac X.nc X.cc, .slice X.Ap X.np X.cp, .int .i64 0, .int .i64 0, .slice none 0 0] 56)).alloc (.cells #[.slice none 0 0] 44)).alloc (.cells #[.int .i64 0] 3)) (.cells #[.int .i64 0] 35)
    simpa using this
theorem boxed_rd {X : Cx} {w : World} (hok : X.Ok) (ht : RdK .u8 w w.heap.size X.At X.nt X.ct X.Bs) (hc : RdK .i64 w w.heap.size X.Ac X.nc X.cc X.L) (hp : RdK .i64 w w.heap.size X.Ap X.np X.cp X.P) : Rdv X w.heap.size (boxed X w) 0 0 (.slice none 0 0) [] := by
  have hb := boxed_below X w
  have hk : ∀ q : Addr, q.block < w.heap.size → (boxed X w).cell? q = w.cell? q := fun q hq => hb.cell hq
  refine ⟨hok, by unfold boxed; simp, ht.keep hk, hc.keep hk, hp.keep hk, Nat.zero_le _, ?_, OwnT.nil _ _⟩
  unfold boxed
  rw [Lib.alloc_old _ _ _ (by simp <;> omega), Lib.alloc_old _ _ _ (by simp <;> omega), Lib.alloc_old _ _ _ (by simp)]
  exact heap_alloc_new w _
theorem Fr.all {b : Nat} {w W0 w1 : World} (hb : Below b w W0) (hf : Fr b W0 w1) : Below b w w1 :=
  ⟨hf.os.trans hb.os, hf.tape.trans hb.tape, hf.output.trans hb.output, Nat.le_trans hb.size hf.size, fun i hi => (hf.block i (by omega) (by omega)).trans (hb.block i hi)⟩
set_option maxHeartbeats 4000000 in
theorem read5_any {X : Cx} {w : World} (hok : X.Ok) (ht : RdK .u8 w w.heap.size X.At X.nt X.ct X.Bs) (hc : RdK .i64 w w.heap.size X.Ac X.nc X.cc X.L) (hp : RdK .i64 w w.heap.size X.Ap X.np X.cp X.P) :
    Calls Tryd.prog 24 #[.agg #[.slice X.At X.nt X.ct, .slice X.Ac X.nc X.cc, .slice X.Ap X.np X.cp, .int .i64 0, .int .i64 0, .slice none 0 0]] w (LexP X w (lexS X.L 0 0 [])) := by
  have hmf : ∀ (fn : Fn) (first cap : Array Value) (w : World), (Instr.makeFunc fn first cap).run Tryd.prog w = .ok (.func fn first cap) w := fun _ _ _ _ => rfl
  have HT := Lib.hid ht
  have HC := Lib.hid hc
  have HP := Lib.hid hp
  have HOK := Lib.hid hok
  clear ht hc hp hok
  generalize hR : lexS X.L 0 0 [] = R
  have HR := Lib.hid hR
  clear hR
  go_enter_defers Tryd.func24, Tryd.ntmps24
  go_wp2_with fail
  have hR0 := boxed_rd HOK.out HT.out HC.out HP.out
  have HTri := Lib.hid (boxed_tri X w)
  have HB0 := Lib.hid (boxed_below X w)
  change Calls _ _ _ (boxed X w) _
  generalize boxed X w = W0 at hR0 HTri HB0 ⊢
  generalize hN : w.heap.size = N at *
  have HN := Lib.hid hN
  clear hN HT HC HP
  obtain ⟨n1, n2, n3, n4⟩ := hR0.nc
  have HN1 := Lib.hid n1
  clear n1 n3
  refine (skip_any hR0).mono ?_
  rintro e w1 ⟨q, rfl, hr1, hf1, _, hlex1, hnb1⟩
  have HA1 : Hid (At X N W0 R w1 q 0 (.slice none 0 0) []) := ⟨hr1, hf1, by rw [← hlex1, List.drop_zero]; exact HR.out, Nat.zero_le _, Nat.zero_le _, fun h => absurd h (by omega), hnb1⟩
  clear hr1 hf1 hlex1 hnb1 hR0
  go_wp2_with fail
  go_loopw [] (fun wx => ∃ (p o : Nat) (tv : Value) (ts : List Tk), Hid (At X N W0 R wx p o tv ts)) (fun wx => X.nc - posOf N wx)
  case atStart => exact ⟨q, 0, .slice none 0 0, [], HA1.out⟩
  case round =>
    obtain ⟨p, o, tv, ts, HA⟩ := hrel
    obtain ⟨c0, c1, c2, c3, c4, c5⟩ := HA.out.rd.cells
    have hple := HA.out.rd.le
    by_cases hlt : p < X.nc
    · obtain ⟨x, hcx⟩ : ∃ x, X.L[p]? = some x := ⟨X.L[p]'(by rw [HN1.out]; exact hlt), List.getElem?_eq_getElem _⟩
      have HCx := Lib.hid hcx
      have HM := Lib.hid HA.out.rd.pos
      by_cases ho : 0 < o
      · have hs := Lib.hid (inSet_any HA.out.rd hlt HA.out.ob ho HA.out.tb (HA.out.ne ho) hcx)
        rw [show inS (lastK ts) x (X.L.drop (p + 1)) = stepS o ts x (X.L.drop (p + 1)) by unfold W.stepS; rw [if_pos ho]] at hs
        clear hcx
        go_wp2_with fail
        refine hs.out.mono ?_
        intro e w2 hP
        rcases At.next HA.out HCx.out hP with ⟨q2, o2, tv2, ts2, rfl, hr2, hlt2, hnext⟩ | ⟨k, er, hRb, rfl, hf⟩
        · have hsk := Lib.hid (skip_any hr2)
          have HNX := Lib.hid hnext
          clear hP hr2 hnext
          go_wp2_with fail
          refine hsk.out.mono ?_
          intro e2 w3 hS
          obtain ⟨q3, hA3, hlt3, rfl⟩ := HNX.out e2 w3 hS
          have HA3 := Lib.hid hA3
          have hq3 := hA3.rd.le
          have HM3 := Lib.hid hA3.rd.pos
          clear hS hA3
          go_wp2_with fail
          go_roundw
          case rel => exact ⟨q3, o2, tv2, ts2, HA3.out⟩
          case measure =>
            show X.nc - posOf N _ < X.nc - posOf N _
            rw [HM3.out, HM.out]; omega
        · have HF := Lib.hid hf
          subst hRb
          clear hP hf
          unfold stopOf
          go_wp2_with fail
          refine leaves_cons (f := 30) (args := #[.pointer (some ⟨N + 1, 0, none⟩), .pointer (some ⟨N + 1 + 1, 0, none⟩), .pointer (some ⟨N + 1 + 1 + 1, 0, none⟩)]) (by simp) (by simp [go_sem]) ?_
          refine (catch_pan5 (HTri.out.fr HF.out) _ _ []).mono ?_
          rintro e u' w'' ⟨rfl, rfl, htri, hbb⟩
          refine leaves_tri htri rfl rfl rfl ⟨?_, ?_⟩
          · rw [HN.out]; exact (Fr.all HB0.out HF.out).trans hbb
          · exact rfl
      · have hs := Lib.hid (outside_any HA.out.rd hlt HA.out.ob HA.out.tb hcx)
        rw [show outS x (X.L.drop (p + 1)) = stepS o ts x (X.L.drop (p + 1)) by unfold W.stepS; rw [if_neg ho]] at hs
        clear hcx
        go_wp2_with fail
        refine hs.out.mono ?_
        intro e w2 hP
        rcases At.next HA.out HCx.out hP with ⟨q2, o2, tv2, ts2, rfl, hr2, hlt2, hnext⟩ | ⟨k, er, hRb, rfl, hf⟩
        · have hsk := Lib.hid (skip_any hr2)
          have HNX := Lib.hid hnext
          clear hP hr2 hnext
          go_wp2_with fail
          refine hsk.out.mono ?_
          intro e2 w3 hS
          obtain ⟨q3, hA3, hlt3, rfl⟩ := HNX.out e2 w3 hS
          have HA3 := Lib.hid hA3
          have hq3 := hA3.rd.le
          have HM3 := Lib.hid hA3.rd.pos
          clear hS hA3
          go_wp2_with fail
          go_roundw
          case rel => exact ⟨q3, o2, tv2, ts2, HA3.out⟩
          case measure =>
            show X.nc - posOf N _ < X.nc - posOf N _
            rw [HM3.out, HM.out]; omega
        · have HF := Lib.hid hf
          subst hRb
          clear hP hf
          unfold stopOf
          go_wp2_with fail
          refine leaves_cons (f := 30) (args := #[.pointer (some ⟨N + 1, 0, none⟩), .pointer (some ⟨N + 1 + 1, 0, none⟩), .pointer (some ⟨N + 1 + 1 + 1, 0, none⟩)]) (by simp) (by simp [go_sem]) ?_
          refine (catch_pan5 (HTri.out.fr HF.out) _ _ []).mono ?_
          rintro e u' w'' ⟨rfl, rfl, htri, hbb⟩
          refine leaves_tri htri rfl rfl rfl ⟨?_, ?_⟩
          · rw [HN.out]; exact (Fr.all HB0.out HF.out).trans hbb
          · exact rfl
    · have hpe : p = X.nc := by omega
      have hlx := HA.out.lex
      rw [List.drop_eq_nil_of_le (by rw [HN1.out]; omega), W.lexS_nil] at hlx
      have HFA := Lib.hid HA.out.fr
      by_cases ho : 0 < o
      · rw [if_pos ho] at hlx
        subst hlx
        have hfail := Lib.hid (fail_any HA.out.rd hple 5)
        clear hpe
        go_wp2_with fail
        refine hfail.out.mono ?_
        rintro e w2 ⟨rfl, rfl⟩
        have HF := HFA
        unfold stopOf
        go_wp2_with fail
        refine leaves_cons (f := 30) (args := #[.pointer (some ⟨N + 1, 0, none⟩), .pointer (some ⟨N + 1 + 1, 0, none⟩), .pointer (some ⟨N + 1 + 1 + 1, 0, none⟩)]) (by simp) (by simp [go_sem]) ?_
        refine (catch_pan5 (HTri.out.fr HF.out) _ _ []).mono ?_
        rintro e u' w'' ⟨rfl, rfl, htri, hbb⟩
        refine leaves_tri htri rfl rfl rfl ⟨?_, ?_⟩
        · rw [HN.out]; exact (Fr.all HB0.out HF.out).trans hbb
        · exact rfl
      · rw [if_neg ho] at hlx
        subst hlx
        obtain rfl : o = 0 := by omega
        have hrow := HA.out.rd.row
        obtain ⟨Av, cv, htv, _⟩ := hrow.rd
        rw [List.length_map] at htv
        subst htv
        have hT1 := HTri.out.fr HFA.out
        obtain ⟨d1, d2, d3, f1, f2, f3⟩ := hT1.cells
        have HT2 := Lib.hid (hT1.put (.slice Av ts.length cv) (-1) 0)
        have hrow2 := ((hrow.set (b := N + 1) (o := 0) (by omega) (.slice Av ts.length cv)).set (b := N + 2) (o := 0) (by omega) (.int .i64 (-1))).set (b := N + 3) (o := 0) (by omega) (.int .i64 0)
        obtain ⟨Av', cv', he2, hrd2⟩ := hrow2.rd
        rw [List.length_map] at he2 hrd2
        injection he2 with e1 _ e3
        subst e1 e3
        have HRD := Lib.hid hrd2
        have HBB := Lib.hid ((((Fr.all HB0.out HFA.out).setCell (p := ⟨N + 1, 0, none⟩) (by show N ≤ N + 1; omega) (.slice Av ts.length cv)).setCell (p := ⟨N + 2, 0, none⟩) (by show N ≤ N + 2; omega) (.int .i64 (-1))).setCell (p := ⟨N + 3, 0, none⟩) (by show N ≤ N + 3; omega) (.int .i64 0))
        clear hpe hT1 hrow hrow2 hrd2
        go_wp2_with fail
        refine leaves_cons (f := 30) (args := #[.pointer (some ⟨N + 1, 0, none⟩), .pointer (some ⟨N + 1 + 1, 0, none⟩), .pointer (some ⟨N + 1 + 1 + 1, 0, none⟩)]) (by simp) (by simp [go_sem]) ?_
        refine (catch_idle5 _ _ _ _).mono ?_
        rintro e u' w'' ⟨rfl, rfl, rfl⟩
        refine leaves_tri HT2.out rfl rfl rfl ⟨?_, ?_⟩
        · rw [HN.out]; exact HBB.out
        · exact ⟨_, _, rfl, HRD.out⟩
end Go.Proofs.YtddoobpflfooaaaDoor
