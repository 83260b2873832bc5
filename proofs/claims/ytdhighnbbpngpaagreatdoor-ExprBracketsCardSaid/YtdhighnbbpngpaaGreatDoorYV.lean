/- expr.Of. -/
import Derived.Test.YtdhighnbbpngpaaGreatDoorMD
import Derived.Test.YtdhighnbbpngpaaGreatDoorMF
set_option maxRecDepth 100000
namespace Go.Proofs.YtdhighnbbpngpaaGreatDoor
open Go.RowKit
open Y (Nd It Ps nextP takeP failP noTok noName zeroN formP itemP lineP itemsP lastP)

/-- What all tokens say: the items, or where and why it is wrong. -/
def allS (e : Int) (n m : Nat) (ts : List Tok) : List It × Int × Int :=
  match lastP e (itemsP e n m [] (.live ts)).2 with
  | .live _ => ((itemsP e n m [] (.live ts)).1, -1, 0)
  | .dead a y => ([], a, y)
def AllQ (w : World) (r : List It × Int × Int) (en : Ending) (w' : World) : Prop := ∃ A c, en = .returned (.tuple #[.slice A r.1.length c, .int .i64 r.2.1, .int .i64 r.2.2]) ∧ RdI6 w' (In w.heap.size w'.heap.size) A r.1.length c r.1 ∧ Below w.heap.size w w'
theorem fe_below {w w' : World} {o : Obj} (h : Fe w.heap.size (w.alloc o) w') : Below w.heap.size w w' :=
  (kbelow_push w o).trans ⟨h.os, h.tape, h.output, h.size, fun i hi => h.block i (by simp; omega) (by omega)⟩
set_option maxHeartbeats 4000000 in
theorem all_any {w : World} {A : Option Addr} {n c : Nat} {ts : List Tok} (h : RdT w w.heap.size A n c ts) (hf : ts.length ≤ 4000) (e : Int) (N M : Nat) (hN : 10 * ts.length + 10 ≤ N) (hM : ts.length + 1 ≤ M) :
    Calls Tryz.prog 61 #[.slice A n c, .int .i64 e, .func (.func 62) #[] #[]] w (AllQ w (allS e N M ts)) := by
  have hr1 : RdE w.heap.size (w.alloc (.cells #[.slice A n c, .int .i64 e, .int .i64 0, .int .i64 0, .int .i64 0] 103)) e 0 (.live ts) :=
    ⟨A, n, c, heap_alloc_new w _, h.keep (fun p hp => World.cell?_alloc_lt w _ p hp), (fun _ _ h => by cases h), hf⟩
  have HC := Lib.hid (items_any hr1 N M hN hM)
  have HFB : Hid (∀ w', Fe w.heap.size (w.alloc (.cells #[.slice A n c, .int .i64 e, .int .i64 0, .int .i64 0, .int .i64 0] 103)) w' → Below w.heap.size w w') := fun w' h => fe_below h
  have hlen : (itemsP e N M [] (.live ts)).2.toks.length ≤ (itemsP e N M [] (.live ts)).2.toks.length := Nat.le_refl _
  generalize hres : allS e N M ts = r
  have HRES := Lib.hid hres.symm
  unfold allS at HRES
  clear hres h hr1 hlen
  generalize itemsP e N M [] (.live ts) = k at *
  go_enter Tryz.func61, Tryz.ntmps61
  go_wp2_with fail
  have hw1 : (w.alloc (.cells #[.slice A n c, .int .i64 e, .int .i64 0, .int .i64 0, .int .i64 0] 103)).heap.size = w.heap.size + 1 := by simp
  generalize w.alloc (.cells #[.slice A n c, .int .i64 e, .int .i64 0, .int .i64 0, .int .i64 0] 103) = W1 at *
  refine HC.out.mono ?_
  rintro en w2 ⟨A2, c2, rfl, hv, hr2, hf2⟩
  have HB2 := Lib.hid (HFB.out _ hf2)
  have HV := Lib.hid hv
  have HR2 := Lib.hid hr2
  have HF2 := Lib.hid hf2
  have hs2 := hf2.size
  clear hv hr2 hf2 HC
  obtain ⟨A3, n3, c3, hrd⟩ := HR2.out
  have hc0 := hrd.cells.1
  have hn3 := hrd.rd.len
  have hc2 := hrd.cells.2.2.1
  have hc3 := hrd.cells.2.2.2.1
  have hok := hrd.ok
  clear hrd
  by_cases h0 : k.2.toks = []
  · have hz : n3 = 0 := by rw [h0] at hn3; exact hn3.symm
    subst hz
    have hl : lastP e k.2 = k.2 := by unfold Y.lastP; rw [if_pos h0]
    rw [hl] at HRES
    cases hk : k.2 with
    | live u =>
      rw [hk] at HRES hc2 hc3
      have hr : r = (k.1, -1, 0) := HRES.out
      subst hr
      replace hc3 : w2.cell? ⟨w.heap.size, 3, none⟩ = some (.int .i64 0) := hc3
      have HE : Hid (AllQ w (k.1, -1, 0) (.returned (.tuple #[.slice A2 k.1.length c2, .int .i64 (-1), .int .i64 0])) w2) := ⟨A2, c2, rfl, HV.out.keep (fun i hi => ⟨by have := hi.1; omega, hi.2⟩) (fun _ _ => rfl), HB2.out⟩
      clear HRES hl h0 hk HV HR2 hok
      go_wp2_with fail
      exact bodyPost_ret (v := .tuple #[.slice A2 k.1.length c2, .int .i64 (-1), .int .i64 0]) (by simp [results, Tryz.results61, go_sem]) rfl HE.out
    | dead a y =>
      rw [hk] at HRES hc2 hc3
      have hr : r = ([], a, y) := HRES.out
      subst hr
      have hy : y ≠ 0 := hok a y hk
      have g1 : (y != 0) = true := by simpa using hy
      replace hc3 : w2.cell? ⟨w.heap.size, 3, none⟩ = some (.int .i64 y) := hc3
      replace hc2 : w2.cell? ⟨w.heap.size, 2, none⟩ = some (.int .i64 a) := hc2
      have HE : Hid (∀ q, AllQ w ([], a, y) (.returned (.tuple #[.slice none 0 0, .int .i64 a, .int .i64 y])) (w2.drewN q)) := fun q => ⟨none, 0, rfl, RdI6.nil _ _, kbelow_drewN HB2.out q⟩
      clear HRES hl h0 hk HV HR2 hok hy
      go_wp2_with fail
      go_quiet (fail)
      go_wp2_with fail
      exact bodyPost_ret (v := .tuple #[.slice none 0 0, .int .i64 a, .int .i64 y]) (by simp [results, Tryz.results61, go_sem]) rfl (HE.out _)
  · have hpos : 0 < k.2.toks.length := List.length_pos_iff.2 h0
    have g0 : (0 : Int) < (n3 : Int) := by omega
    have hl : lastP e k.2 = failP e 4 k.2 := by unfold Y.lastP; rw [if_neg h0]
    rw [hl] at HRES
    obtain ⟨t, u, hk⟩ : ∃ t u, k.2 = .live (t :: u) := by
      rcases hk : k.2 with (_ | ⟨t, u⟩) | ⟨a, y⟩
      · rw [hk] at h0; exact absurd rfl h0
      · exact ⟨t, u, rfl⟩
      · rw [hk] at h0; exact absurd rfl h0
    have hfl : failP e 4 k.2 = .dead t.pos 4 := by rw [hk]; rfl
    rw [hfl] at HRES
    have hr : r = ([], t.pos, 4) := HRES.out
    subst hr
    have hsay := Lib.hid (failE HR2.out (y := 4) (by decide))
    rw [hfl] at hsay
    clear HRES hl h0 hk hfl HV hok hc2 hc3
    go_wp2_with fail
    refine hsay.out.mono ?_
    rintro en w3 ⟨rfl, ⟨A4, n4, c4, hr3⟩, hf3⟩
    have hd3 : w3.cell? ⟨w.heap.size, 3, none⟩ = some (.int .i64 4) := hr3.cells.2.2.2.1
    have hd2 : w3.cell? ⟨w.heap.size, 2, none⟩ = some (.int .i64 t.pos) := hr3.cells.2.2.1
    have HE : Hid (∀ q, AllQ w ([], t.pos, 4) (.returned (.tuple #[.slice none 0 0, .int .i64 t.pos, .int .i64 4])) (w3.drewN q)) := fun q => ⟨none, 0, rfl, RdI6.nil _ _, kbelow_drewN (HFB.out _ (HF2.out.trans hf3)) q⟩
    clear hr3 hf3 hsay HR2 HF2
    go_wp2_with fail
    go_quiet (fail)
    go_wp2_with fail
    exact bodyPost_ret (v := .tuple #[.slice none 0 0, .int .i64 t.pos, .int .i64 4]) (by simp [results, Tryz.results61, go_sem]) rfl (HE.out _)
/-- What a text's items are, by its tokens. -/
inductive ItemsIs (Bs : List Int) (N M : Nat) : List It × Int × Int → Prop where
  | bad (x er : Int) (h : TokIs Bs [] x er) (he : er ≠ 0) : ItemsIs Bs N M ([], x, er)
  | ok (ts : List Tok) (x : Int) (h : TokIs Bs ts x 0) : ItemsIs Bs N M (allS Bs.length N M ts)
theorem lex_len : ∀ (n : Nat) (l : List Int), l.length ≤ n → ∀ (i o : Nat) (ts ts' : List W.Tk), W.lexS l i o ts = .ok ts' → ts'.length ≤ ts.length + l.length := by
  intro n
  induction n with
  | zero =>
    intro l hl i o ts ts' h
    obtain rfl : l = [] := List.eq_nil_of_length_eq_zero (by omega)
    rw [W.lexS_nil] at h
    split at h
    · cases h
    · injection h with h; subst h; simp
  | succ n ih =>
    intro l hl i o ts ts' h
    cases l with
    | nil =>
      rw [W.lexS_nil] at h
      split at h
      · cases h
      · injection h with h; subst h; simp
    | cons c t =>
      simp only [List.length_cons] at hl ⊢
      by_cases hb : c = 32 ∨ c = 9
      · rw [W.lexS_blank hb] at h
        have := ih t (by omega) _ _ _ _ h
        omega
      · rw [W.lexS_step hb] at h
        cases hs : W.stepS o ts c t with
        | bad k e => rw [hs] at h; cases h
        | tok k x lo hi m =>
          rw [hs] at h
          have := ih (t.drop m) (by rw [List.length_drop]; omega) _ _ _ _ h
          rw [List.length_drop, List.length_append] at this
          simp at this
          omega
        | skip m =>
          rw [hs] at h
          have := ih (t.drop m) (by rw [List.length_drop]; omega) _ _ _ _ h
          rw [List.length_drop] at this
          omega
theorem tok_few {Bs : List Int} {ts : List Tok} {x er : Int} (h : TokIs Bs ts x er) : ts.length ≤ Bs.length := by
  cases h with
  | dec => simp
  | bad => simp
  | ok cs ats x h ts hl =>
    obtain ⟨o1, o2, _, _⟩ := dec_ok h rfl
    have h1 := lex_len cs.length cs (Nat.le_refl _) 0 0 [] ts hl
    have h2 := W.flat_len o1
    rw [← o2] at h2
    simp [placed] at h1 ⊢
    omega
set_option maxHeartbeats 4000000 in
theorem eof_any {w : World} {A : Option Addr} {n c : Nat} {Bs : List Int} (h : RdK .u8 w w.heap.size A n c Bs) (hb : Byt Bs) (hT : Tabs w) (hl : Bs.length ≤ 3000) (N M : Nat) (hN : 10 * Bs.length + 10 ≤ N) (hM : Bs.length + 1 ≤ M) :
    Calls Tryz.prog 27 #[.slice A n c] w fun en w' => ∃ r, ItemsIs Bs N M r ∧ AllQ w r en w' := by
  have HC := Lib.hid (of5_any h hb hT)
  have hn := h.len
  clear h hb hT
  go_enter Tryz.func27, Tryz.ntmps27
  go_wp2_with fail
  refine HC.out.mono ?_
  rintro en w2 ⟨A2, n2, c2, ts, x, er, rfl, hr, hti, hb2⟩
  by_cases he : er = 0
  · subst he
    have hfew := tok_few hti
    have HA := Lib.hid (all_any hr (by omega) (n : Int) N M (by omega) (by omega))
    have HI : Hid (ItemsIs Bs N M (allS n N M ts)) := by rw [← hn]; exact .ok ts x hti
    have HB2 := Lib.hid hb2
    clear hr hti hb2 HC
    go_wp2_with fail
    refine HA.out.mono ?_
    rintro en w3 ⟨A3, c3, rfl, hv, hb3⟩
    have HE : Hid (∃ r, ItemsIs Bs N M r ∧ AllQ w r _ w3) := ⟨_, HI.out, A3, c3, rfl, hv.keep (fun i hi => ⟨by have := hi.1; have := HB2.out.size; omega, hi.2⟩) (fun _ _ => rfl), HB2.out.trans (hb3.mono HB2.out.size)⟩
    clear HA HI hv hb3 HB2
    generalize allS n N M ts = r at *
    go_wp2_with fail
    exact bodyPost_ret (v := .tuple #[.slice A3 r.1.length c3, .int .i64 r.2.1, .int .i64 r.2.2]) (by simp [results, Tryz.results27, go_sem]) rfl HE.out
  · have g1 : (er != 0) = true := by simpa using he
    have hts : ts = [] := by cases hti with
      | dec => rfl
      | bad => rfl
      | ok => exact absurd rfl he
    subst hts
    have HE : Hid (∃ r, ItemsIs Bs N M r ∧ AllQ w r (.returned (.tuple #[.slice none 0 0, .int .i64 x, .int .i64 er])) w2) := ⟨_, .bad x er hti he, none, 0, rfl, RdI6.nil _ _, hb2⟩
    clear hti hb2 HC hr
    go_wp2_with fail
    exact bodyPost_ret (v := .tuple #[.slice none 0 0, .int .i64 x, .int .i64 er]) (by simp [results, Tryz.results27, go_sem]) rfl HE.out
end Go.Proofs.YtdhighnbbpngpaaGreatDoor
