/- expr.Form. Plain facts on a form in brackets. ExprBrackets answers true. -/
import Derived.Test.YtdhighnbbpngpaaGreatDoorYV
import Derived.Test.YtdhighnbbpngpaaGreatDoorYZ
import Derived.Test.YtdhighnbbpngpaaGreatDoorMV
import Derived.Test.YtdhighnbbpngpaaGreatDoorMR
import Derived.Test.YtdhighnbbpngpaaGreatDoorZP
import Derived.Test.YtdhighnbbpngpaaGreatDoorMN
set_option maxRecDepth 100000
namespace Go.Proofs.YtdhighnbbpngpaaGreatDoor
open Go.RowKit
open Y (Nd It Ps nextP takeP failP noTok noName zeroN formP lastP)

/-- The form that all tokens are, or where and why they are wrong. -/
def formS (e : Int) (n : Nat) (ts : List Tok) : Nd × Int × Int :=
  match lastP e (formP e n 0 (.live ts)).2 with
  | .live _ => ((formP e n 0 (.live ts)).1, -1, 0)
  | .dead a y => (zeroN, a, y)
def FormA (w : World) (r : Nd × Int × Int) (en : Ending) (w' : World) : Prop := ∃ A n c, en = .returned (.tuple #[.agg #[.int .i64 r.1.kind, .string r.1.name, .int .i64 r.1.low, .int .i64 r.1.high, .slice A n c], .int .i64 r.2.1, .int .i64 r.2.2]) ∧ RdN w' (In w.heap.size w'.heap.size) A n c r.1.kids ∧ Below w.heap.size w w'
theorem below_set5 {B N : Nat} {a w : World} (h : Below B a w) (hN : B ≤ N) (a0 a1 a2 a3 a4 : Value) : Below B a (set5 w N a0 a1 a2 a3 a4) := by
  unfold set5
  exact ((((h.setCell (p := ⟨N, 0, none⟩) hN _).setCell (p := ⟨N, 1, none⟩) hN _).setCell (p := ⟨N, 2, none⟩) hN _).setCell (p := ⟨N, 3, none⟩) hN _).setCell (p := ⟨N, 4, none⟩) hN _
theorem fe_below2 {w w' : World} {o1 o2 : Obj} (h : Fe (w.heap.size + 1) ((w.alloc o1).alloc o2) w') : Below w.heap.size w w' :=
  ((kbelow_push w o1).trans ((kbelow_push _ o2).mono (by simp))).trans ⟨h.os, h.tape, h.output, h.size, fun i hi => h.block i (by simp; omega) (by omega)⟩
theorem dead_end {w w2 : World} (hz : w2.heap[w.heap.size]? = some (.cells #[.int .i64 0, .string ⟨#[]⟩, .int .i64 0, .int .i64 0, .slice none 0 0] 30 (0, 0))) (hb : Below w.heap.size w w2) (hlt : w.heap.size < w2.heap.size) (a y : Int) :
    FormA w (zeroN, a, y) (.returned (.tuple #[.agg #[.int .i64 0, .string ⟨#[]⟩, .int .i64 0, .int .i64 0, .slice none 0 0], .int .i64 a, .int .i64 y])) ((set5 w2 w.heap.size (.int .i64 0) (.string ⟨#[]⟩) (.int .i64 0) (.int .i64 0) (.slice none 0 0)).alloc (.cells #[.int .i64 0, .string ⟨#[]⟩, .int .i64 0, .int .i64 0, .slice none 0 0] 30)).drew ∧
    ((set5 w2 w.heap.size (.int .i64 0) (.string ⟨#[]⟩) (.int .i64 0) (.int .i64 0) (.slice none 0 0)).alloc (.cells #[.int .i64 0, .string ⟨#[]⟩, .int .i64 0, .int .i64 0, .slice none 0 0] 30)).drew.heap[w.heap.size]? = some (.cells #[.int .i64 0, .string ⟨#[]⟩, .int .i64 0, .int .i64 0, .slice none 0 0] 30 (0, 0)) := by
  have h1 := set5_row hz (.int .i64 0) (.string ⟨#[]⟩) (.int .i64 0) (.int .i64 0) (.slice none 0 0)
  have h2 := below_set5 hb (Nat.le_refl _) (.int .i64 0) (.string ⟨#[]⟩) (.int .i64 0) (.int .i64 0) (.slice none 0 0)
  have h3 := set5_size w2 w.heap.size (.int .i64 0) (.string ⟨#[]⟩) (.int .i64 0) (.int .i64 0) (.slice none 0 0)
  generalize set5 w2 w.heap.size (.int .i64 0) (.string ⟨#[]⟩) (.int .i64 0) (.int .i64 0) (.slice none 0 0) = w3 at *
  exact ⟨⟨none, 0, 0, rfl, RdN.nil _ _, kbelow_drewN (h2.trans ((kbelow_push w3 _).mono (by omega))) 1⟩, ((kbelow_push w3 _).block _ (by omega)).trans h1⟩
set_option maxHeartbeats 8000000 in
theorem formA_any {w : World} {A : Option Addr} {n c : Nat} {ts : List Tok} (h : RdT w w.heap.size A n c ts) (hf : ts.length ≤ 4000) (e : Int) (N : Nat) (hN : 10 * ts.length + 10 ≤ N) :
    Calls Tryz.prog 35 #[.slice A n c, .int .i64 e, .func (.func 36) #[] #[]] w (FormA w (formS e N ts)) := by
  have hk1 : ∀ p : Addr, p.block < w.heap.size → ((w.alloc (.cells #[.int .i64 0, .string ⟨#[]⟩, .int .i64 0, .int .i64 0, .slice none 0 0] 30)).alloc (.cells #[.slice A n c, .int .i64 e, .int .i64 0, .int .i64 0, .int .i64 0] 103)).cell? p = w.cell? p := fun p hp => ((kbelow_push w (.cells #[.int .i64 0, .string ⟨#[]⟩, .int .i64 0, .int .i64 0, .slice none 0 0] 30)).trans ((kbelow_push _ (.cells #[.slice A n c, .int .i64 e, .int .i64 0, .int .i64 0, .int .i64 0] 103)).mono (by simp))).cell hp
  have hblk := heap_alloc_new (w.alloc (.cells #[.int .i64 0, .string ⟨#[]⟩, .int .i64 0, .int .i64 0, .slice none 0 0] 30)) (.cells #[.slice A n c, .int .i64 e, .int .i64 0, .int .i64 0, .int .i64 0] 103)
  have hz1 : (w.alloc (.cells #[.int .i64 0, .string ⟨#[]⟩, .int .i64 0, .int .i64 0, .slice none 0 0] 30)).heap.size = w.heap.size + 1 := by simp
  rw [hz1] at hblk
  have hr1 : RdE (w.heap.size + 1) ((w.alloc (.cells #[.int .i64 0, .string ⟨#[]⟩, .int .i64 0, .int .i64 0, .slice none 0 0] 30)).alloc (.cells #[.slice A n c, .int .i64 e, .int .i64 0, .int .i64 0, .int .i64 0] 103)) e 0 (.live ts) :=
    ⟨A, n, c, hblk, (h.keep hk1).more (by omega), (fun _ _ h => by cases h), hf⟩
  have HC := Lib.hid ((all_of ts.length).1 (w.heap.size + 1) _ e 0 (.live ts) ⟨hr1, by show 0 + ts.length ≤ 5000; omega, Nat.le_refl _⟩ N hN)
  have HFB : Hid (∀ w', Fe (w.heap.size + 1) ((w.alloc (.cells #[.int .i64 0, .string ⟨#[]⟩, .int .i64 0, .int .i64 0, .slice none 0 0] 30)).alloc (.cells #[.slice A n c, .int .i64 e, .int .i64 0, .int .i64 0, .int .i64 0] 103)) w' → Below w.heap.size w w') := fun w' h => fe_below2 h
  have HZ1 : Hid (((w.alloc (.cells #[.int .i64 0, .string ⟨#[]⟩, .int .i64 0, .int .i64 0, .slice none 0 0] 30)).alloc (.cells #[.slice A n c, .int .i64 e, .int .i64 0, .int .i64 0, .int .i64 0] 103)).heap[w.heap.size]? = some (.cells #[.int .i64 0, .string ⟨#[]⟩, .int .i64 0, .int .i64 0, .slice none 0 0] 30 (0, 0))) := ((kbelow_push (w.alloc (.cells #[.int .i64 0, .string ⟨#[]⟩, .int .i64 0, .int .i64 0, .slice none 0 0] 30)) (.cells #[.slice A n c, .int .i64 e, .int .i64 0, .int .i64 0, .int .i64 0] 103)).block _ (by simp)).trans (heap_alloc_new w _)
  generalize hres : formS e N ts = r
  have HRES := Lib.hid hres.symm
  unfold formS at HRES
  clear hres h hr1 hk1 hblk hz1
  generalize formP e N 0 (.live ts) = k at *
  go_enter Tryz.func35, Tryz.ntmps35
  go_wp2_with fail
  have hw1 : ((w.alloc (.cells #[.int .i64 0, .string ⟨#[]⟩, .int .i64 0, .int .i64 0, .slice none 0 0] 30)).alloc (.cells #[.slice A n c, .int .i64 e, .int .i64 0, .int .i64 0, .int .i64 0] 103)).heap.size = w.heap.size + 2 := by simp
  generalize (w.alloc (.cells #[.int .i64 0, .string ⟨#[]⟩, .int .i64 0, .int .i64 0, .slice none 0 0] 30)).alloc (.cells #[.slice A n c, .int .i64 e, .int .i64 0, .int .i64 0, .int .i64 0] 103) = W1 at *
  refine HC.out.mono ?_
  rintro en w2 ⟨v, rfl, ⟨A2, n2, c2, rfl, hv⟩, hr2, hf2⟩
  have HB2 := Lib.hid (HFB.out _ hf2)
  have HZ2 : Hid (w2.heap[w.heap.size]? = some (.cells #[.int .i64 0, .string ⟨#[]⟩, .int .i64 0, .int .i64 0, .slice none 0 0] 30 (0, 0))) := (hf2.block _ (by omega) (by omega)).trans HZ1.out
  have HV := Lib.hid hv
  have HR2 := Lib.hid hr2
  have HF2 := Lib.hid hf2
  have hs2 := hf2.size
  have hlt2 : w.heap.size + 1 < w2.heap.size := by omega
  have hlt1 : w.heap.size < w2.heap.size := by omega
  clear hv hr2 hf2 HC HZ1
  obtain ⟨A3, n3, c3, hrd⟩ := HR2.out
  have hc0 := hrd.cells.1
  have hn3 := hrd.rd.len
  have hc2 := hrd.cells.2.2.1
  have hc3 := hrd.cells.2.2.2.1
  have hok := hrd.ok
  obtain ⟨z0, z1, z2, z3, z4⟩ := cells5 HZ2.out
  have fz : ∀ j, w2.frozen? ⟨w.heap.size, j, none⟩ = false := fun j => frozen_of_row _ _ _ _ _ HZ2.out
  clear hrd
  by_cases h0 : k.2.toks = []
  · have hz : n3 = 0 := by rw [h0] at hn3; exact hn3.symm
    subst hz
    have hl : lastP e k.2 = k.2 := by unfold Y.lastP; rw [if_pos h0]
    rw [hl] at HRES
    cases hk : k.2 with
    | live u =>
      rw [hk] at HRES hc2 hc3
      have hr : r = (k.1, -1, 0) := HRES.out
      subst hr
      replace hc3 : w2.cell? ⟨w.heap.size + 1, 3, none⟩ = some (.int .i64 0) := hc3
      have HE : Hid (FormA w (k.1, -1, 0) (.returned (.tuple #[.agg #[.int .i64 k.1.kind, .string k.1.name, .int .i64 k.1.low, .int .i64 k.1.high, .slice A2 n2 c2], .int .i64 (-1), .int .i64 0])) ((set5 w2 w.heap.size (.int .i64 k.1.kind) (.string k.1.name) (.int .i64 k.1.low) (.int .i64 k.1.high) (.slice A2 n2 c2)).alloc (.cells #[.int .i64 k.1.kind, .string k.1.name, .int .i64 k.1.low, .int .i64 k.1.high, .slice A2 n2 c2] 30))) := by
        refine ⟨A2, n2, c2, rfl, HV.out.keep (fun i hi => ?_) (fun p hp => ?_), (below_set5 HB2.out (Nat.le_refl _) _ _ _ _ _).trans ((kbelow_push _ _).mono ?_)⟩
        · have h1 := hi.1; have h2 := hi.2; exact ⟨by omega, by simp [set5_size]; omega⟩
        · have h1 := hp.1
          have h2 := hp.2
          exact (World.cell?_of_block (w := set5 w2 w.heap.size _ _ _ _ _) ((kbelow_push _ _).block _ (by rw [set5_size]; exact h2))).trans (World.cell?_of_block (w := w2) (set5_block _ _ _ _ _ _ _ (by omega)))
        · rw [set5_size]; omega
      have HQ : Hid (((set5 w2 w.heap.size (.int .i64 k.1.kind) (.string k.1.name) (.int .i64 k.1.low) (.int .i64 k.1.high) (.slice A2 n2 c2)).alloc (.cells #[.int .i64 k.1.kind, .string k.1.name, .int .i64 k.1.low, .int .i64 k.1.high, .slice A2 n2 c2] 30)).heap[w.heap.size]? = some (.cells #[.int .i64 k.1.kind, .string k.1.name, .int .i64 k.1.low, .int .i64 k.1.high, .slice A2 n2 c2] 30 (0, 0))) :=
        ((kbelow_push _ _).block _ (by rw [set5_size]; omega)).trans (set5_row HZ2.out _ _ _ _ _)
      clear HRES hl h0 hk HV HR2 hok HFB HF2
      go_wp2_with fail
      change bodyPost _ _ _ _ _ ((set5 w2 w.heap.size _ _ _ _ _).alloc _)
      generalize (set5 w2 w.heap.size (.int .i64 k.1.kind) (.string k.1.name) (.int .i64 k.1.low) (.int .i64 k.1.high) (.slice A2 n2 c2)).alloc (.cells #[.int .i64 k.1.kind, .string k.1.name, .int .i64 k.1.low, .int .i64 k.1.high, .slice A2 n2 c2] 30) = w6 at HE HQ ⊢
      obtain ⟨q0, q1, q2, q3, q4⟩ := cells5 HQ.out
      exact bodyPost_ret (v := .tuple #[.agg #[.int .i64 k.1.kind, .string k.1.name, .int .i64 k.1.low, .int .i64 k.1.high, .slice A2 n2 c2], .int .i64 (-1), .int .i64 0]) (by simp [results, Tryz.results35, go_sem, q0, q1, q2, q3, q4]) rfl HE.out
    | dead a y =>
      rw [hk] at HRES hc2 hc3
      have hr : r = (zeroN, a, y) := HRES.out
      subst hr
      have hy : y ≠ 0 := hok a y hk
      have g1 : (y != 0) = true := by simpa using hy
      replace hc3 : w2.cell? ⟨w.heap.size + 1, 3, none⟩ = some (.int .i64 y) := hc3
      replace hc2 : w2.cell? ⟨w.heap.size + 1, 2, none⟩ = some (.int .i64 a) := hc2
      have hde := dead_end (w := w) (w2 := w2.alloc (.cells #[.int .i64 k.1.kind, .string k.1.name, .int .i64 k.1.low, .int .i64 k.1.high, .slice A2 n2 c2] 30)) (((kbelow_push w2 _).block _ hlt1).trans HZ2.out) (HB2.out.trans ((kbelow_push w2 _).mono (by omega))) (by simp; omega) a y
      have HE := Lib.hid hde.1
      have HQ := Lib.hid hde.2
      have hco := set5_alloc w2 w.heap.size (.cells #[.int .i64 k.1.kind, .string k.1.name, .int .i64 k.1.low, .int .i64 k.1.high, .slice A2 n2 c2] 30) hlt1 (.int .i64 0) (.string ⟨#[]⟩) (.int .i64 0) (.int .i64 0) (.slice none 0 0)
      have HCO := Lib.hid hco
      clear HRES hl h0 hk HV HR2 hok hy hde hco HFB HF2
      go_wp2_with fail
      go_region
      go_wp2_with fail
      change bodyPost _ _ _ _ _ (((set5 w2 w.heap.size (.int .i64 0) (.string ⟨#[]⟩) (.int .i64 0) (.int .i64 0) (.slice none 0 0)).alloc (.cells #[.int .i64 k.1.kind, .string k.1.name, .int .i64 k.1.low, .int .i64 k.1.high, .slice A2 n2 c2] 30)).alloc (.cells #[.int .i64 0, .string ⟨#[]⟩, .int .i64 0, .int .i64 0, .slice none 0 0] 30)).drew
      rw [HCO.out]
      generalize ((set5 (w2.alloc (.cells #[.int .i64 k.1.kind, .string k.1.name, .int .i64 k.1.low, .int .i64 k.1.high, .slice A2 n2 c2] 30)) w.heap.size (.int .i64 0) (.string ⟨#[]⟩) (.int .i64 0) (.int .i64 0) (.slice none 0 0)).alloc (.cells #[.int .i64 0, .string ⟨#[]⟩, .int .i64 0, .int .i64 0, .slice none 0 0] 30)).drew = w6 at HE HQ ⊢
      obtain ⟨q0, q1, q2, q3, q4⟩ := cells5 HQ.out
      exact bodyPost_ret (v := .tuple #[.agg #[.int .i64 0, .string ⟨#[]⟩, .int .i64 0, .int .i64 0, .slice none 0 0], .int .i64 a, .int .i64 y]) (by simp [results, Tryz.results35, go_sem, q0, q1, q2, q3, q4]) rfl HE.out
  · have hpos : 0 < k.2.toks.length := List.length_pos_iff.2 h0
    have g0 : (0 : Int) < (n3 : Int) := by omega
    have hl : lastP e k.2 = failP e 4 k.2 := by unfold Y.lastP; rw [if_neg h0]
    rw [hl] at HRES
    obtain ⟨t, u, hk⟩ : ∃ t u, k.2 = .live (t :: u) := by
      rcases hk : k.2 with (_ | ⟨t, u⟩) | ⟨a, y⟩
      · rw [hk] at h0; exact absurd rfl h0
      · exact ⟨t, u, rfl⟩
      · rw [hk] at h0; exact absurd rfl h0
    have hfl : failP e 4 k.2 = .dead t.pos 4 := by rw [hk]; rfl
    rw [hfl] at HRES
    have hr : r = (zeroN, t.pos, 4) := HRES.out
    subst hr
    have HR3 := Lib.hid (HR2.out.below (kbelow_push w2 (.cells #[.int .i64 k.1.kind, .string k.1.name, .int .i64 k.1.low, .int .i64 k.1.high, .slice A2 n2 c2] 30)))
    have hsay := Lib.hid (failE HR3.out (y := 4) (by decide))
    rw [hfl] at hsay
    have HZ3 : Hid ((w2.alloc (.cells #[.int .i64 k.1.kind, .string k.1.name, .int .i64 k.1.low, .int .i64 k.1.high, .slice A2 n2 c2] 30)).heap[w.heap.size]? = some (.cells #[.int .i64 0, .string ⟨#[]⟩, .int .i64 0, .int .i64 0, .slice none 0 0] 30 (0, 0))) := ((kbelow_push w2 _).block _ hlt1).trans HZ2.out
    have HF3 : Hid (∀ w', Fe (w.heap.size + 1) (w2.alloc (.cells #[.int .i64 k.1.kind, .string k.1.name, .int .i64 k.1.low, .int .i64 k.1.high, .slice A2 n2 c2] 30)) w' → Below w.heap.size w w') := fun w' h => HFB.out _ ((HF2.out.trans (Fe.of_below (kbelow_push w2 _))).trans h)
    have hsz3 : (w2.alloc (.cells #[.int .i64 k.1.kind, .string k.1.name, .int .i64 k.1.low, .int .i64 k.1.high, .slice A2 n2 c2] 30)).heap.size = w2.heap.size + 1 := by simp
    clear HRES hl h0 hk hfl HV hok hc2 hc3 HR3 HR2 HFB HF2 HB2 HZ2
    go_wp2_with fail
    generalize w2.alloc (.cells #[.int .i64 k.1.kind, .string k.1.name, .int .i64 k.1.low, .int .i64 k.1.high, .slice A2 n2 c2] 30) = w3 at *
    refine hsay.out.mono ?_
    rintro en w4 ⟨rfl, ⟨A4, n4, c4, hr3⟩, hf3⟩
    have hd3 : w4.cell? ⟨w.heap.size + 1, 3, none⟩ = some (.int .i64 4) := hr3.cells.2.2.2.1
    have hd2 : w4.cell? ⟨w.heap.size + 1, 2, none⟩ = some (.int .i64 t.pos) := hr3.cells.2.2.1
    have hz4 := (hf3.block w.heap.size (by omega) (by omega)).trans HZ3.out
    have hs4 := hf3.size
    have hlt3 : w.heap.size + 1 < w4.heap.size := by omega
    have hlt4 : w.heap.size < w4.heap.size := by omega
    have hde := dead_end (w := w) (w2 := w4) hz4 (HF3.out w4 hf3) hlt4 t.pos 4
    have HE := Lib.hid hde.1
    have HQ := Lib.hid hde.2
    clear z0 z1 z2 z3 z4 fz hc0
    obtain ⟨z0, z1, z2, z3, z4⟩ := cells5 hz4
    have fz : ∀ j, w4.frozen? ⟨w.heap.size, j, none⟩ = false := fun j => frozen_of_row _ _ _ _ _ hz4
    clear hr3 hf3 hsay hde hz4 HF3 HZ3
    go_wp2_with fail
    go_region
    go_wp2_with fail
    change bodyPost _ _ _ _ _ ((set5 w4 w.heap.size (.int .i64 0) (.string ⟨#[]⟩) (.int .i64 0) (.int .i64 0) (.slice none 0 0)).alloc (.cells #[.int .i64 0, .string ⟨#[]⟩, .int .i64 0, .int .i64 0, .slice none 0 0] 30)).drew
    generalize ((set5 w4 w.heap.size (.int .i64 0) (.string ⟨#[]⟩) (.int .i64 0) (.int .i64 0) (.slice none 0 0)).alloc (.cells #[.int .i64 0, .string ⟨#[]⟩, .int .i64 0, .int .i64 0, .slice none 0 0] 30)).drew = w6 at HE HQ ⊢
    obtain ⟨q0, q1, q2, q3, q4⟩ := cells5 HQ.out
    exact bodyPost_ret (v := .tuple #[.agg #[.int .i64 0, .string ⟨#[]⟩, .int .i64 0, .int .i64 0, .slice none 0 0], .int .i64 t.pos, .int .i64 4]) (by simp [results, Tryz.results35, go_sem, q0, q1, q2, q3, q4]) rfl HE.out
set_option maxHeartbeats 4000000 in
theorem eform_any {w : World} {A : Option Addr} {n c : Nat} {ts : List Tok} (h : RdT w w.heap.size A n c ts) (hf : ts.length ≤ 4000) (e : Int) (N : Nat) (hN : 10 * ts.length + 10 ≤ N) :
    Calls Tryz.prog 10 #[.slice A n c, .int .i64 e] w (FormA w (formS e N ts)) := by
  have HC := Lib.hid (formA_any (h.on (kbelow_push w (.cells #[.int .i64 0, .string ⟨#[]⟩, .int .i64 0, .int .i64 0, .slice none 0 0] 30))) hf e N hN)
  have HZ1 : Hid ((w.alloc (.cells #[.int .i64 0, .string ⟨#[]⟩, .int .i64 0, .int .i64 0, .slice none 0 0] 30)).heap[w.heap.size]? = some (.cells #[.int .i64 0, .string ⟨#[]⟩, .int .i64 0, .int .i64 0, .slice none 0 0] 30 (0, 0))) := heap_alloc_new w _
  have hs1 : (w.alloc (.cells #[.int .i64 0, .string ⟨#[]⟩, .int .i64 0, .int .i64 0, .slice none 0 0] 30)).heap.size = w.heap.size + 1 := by simp
  have HB1 := Lib.hid (kbelow_push w (.cells #[.int .i64 0, .string ⟨#[]⟩, .int .i64 0, .int .i64 0, .slice none 0 0] 30))
  generalize formS e N ts = r at *
  clear h
  go_enter Tryz.func10, Tryz.ntmps10
  go_wp2_with fail
  generalize w.alloc (.cells #[.int .i64 0, .string ⟨#[]⟩, .int .i64 0, .int .i64 0, .slice none 0 0] 30) = W1 at *
  refine HC.out.mono ?_
  rintro en w2 ⟨A2, n2, c2, rfl, hv, hb2⟩
  have hz2 := (hb2.block w.heap.size (by omega)).trans HZ1.out
  obtain ⟨z0, z1, z2, z3, z4⟩ := cells5 hz2
  have fz : ∀ j, w2.frozen? ⟨w.heap.size, j, none⟩ = false := fun j => frozen_of_row _ _ _ _ _ hz2
  have HE : Hid (FormA w r (.returned (.tuple #[.agg #[.int .i64 r.1.kind, .string r.1.name, .int .i64 r.1.low, .int .i64 r.1.high, .slice A2 n2 c2], .int .i64 r.2.1, .int .i64 r.2.2])) (set5 w2 w.heap.size (.int .i64 r.1.kind) (.string r.1.name) (.int .i64 r.1.low) (.int .i64 r.1.high) (.slice A2 n2 c2))) := by
    refine ⟨A2, n2, c2, rfl, hv.keep (fun i hi => ?_) (fun p hp => ?_), below_set5 (HB1.out.trans (hb2.mono (by omega))) (Nat.le_refl _) _ _ _ _ _⟩
    · have h1 := hi.1
      have h2 := hi.2
      exact ⟨by omega, by rw [set5_size]; exact h2⟩
    · have h1 := hp.1
      exact World.cell?_of_block (w := w2) (set5_block _ _ _ _ _ _ _ (by omega))
  have HQ := Lib.hid (set5_row hz2 (.int .i64 r.1.kind) (.string r.1.name) (.int .i64 r.1.low) (.int .i64 r.1.high) (.slice A2 n2 c2))
  clear hv hb2 HC HB1 HZ1 hz2
  go_wp2_with fail
  change bodyPost _ _ _ _ _ (set5 w2 w.heap.size _ _ _ _ _)
  generalize set5 w2 w.heap.size (.int .i64 r.1.kind) (.string r.1.name) (.int .i64 r.1.low) (.int .i64 r.1.high) (.slice A2 n2 c2) = w6 at HE HQ ⊢
  obtain ⟨q0, q1, q2, q3, q4⟩ := cells5 HQ.out
  exact bodyPost_ret (v := .tuple #[.agg #[.int .i64 r.1.kind, .string r.1.name, .int .i64 r.1.low, .int .i64 r.1.high, .slice A2 n2 c2], .int .i64 r.2.1, .int .i64 r.2.2]) (by simp [results, Tryz.results10, go_sem, q0, q1, q2, q3, q4]) rfl HE.out
end Go.Proofs.YtdhighnbbpngpaaGreatDoor
namespace Go.Proofs.YtdhighnbbpngpaaGreatDoor
open Go.RowKit
open E (okb encB flat offs DecIs Upto)
open W (Tk Lx lexS)
open Y (Nd It Ps shT shP isLive takeP failP deepP nextP formP orsP joinP piecesP pieceP bareP lastP noTok noName zeroN)

/-- The tokens of a text in brackets. -/
theorem tok_brackets {b : List Int} {t t' : List Tok} {x x' : Int} (hno : ∀ z ∈ b, z ≠ 35) (h : TokIs b t x 0) (h' : TokIs (40 :: b ++ [41]) t' x' 0) (hl : b.length ≤ 500) : ∃ o c : Tok, o.kind = 6 ∧ c.kind = 7 ∧ t' = o :: (t.map (shT 1) ++ [c]) := by
  obtain ⟨cs, ats, y, us, hd, hlx, rfl⟩ := tok_ok h rfl
  obtain ⟨upa, _⟩ := dec_up hd
  obtain ⟨o1, o2, _, _⟩ := dec_ok hd rfl
  have u40 : Upto [40] ([40] : List Int).length [40] := ⟨by decide, by decide, by decide⟩
  have u41 : Upto [41] ([41] : List Int).length [41] := ⟨by decide, by decide, by decide⟩
  have hbr : 40 :: b ++ [41] = ([40] ++ b) ++ [41] := by simp
  have up1 : Upto ([40] ++ b) ([40] ++ b).length ([40] ++ cs) := by
    rw [List.length_append]; exact yupto_app u40 upa
  have up2 : Upto (40 :: b ++ [41]) (40 :: b ++ [41]).length (([40] ++ cs) ++ [41]) := by
    rw [hbr, List.length_append]; exact yupto_app up1 u41
  have hdz : DecIs (40 :: b ++ [41]) (([40] ++ cs) ++ [41]) _ _ 0 := .ok _ (by simp; omega) up2
  have hcs : ([40] ++ cs) ++ [41] = 40 :: (cs ++ [41]) := by simp
  rw [hcs] at hdz
  have hn35 : 35 ∉ cs := fun hm => by
    have h1 := List.all_eq_true.1 o1 35 hm
    exact hno 35 (by rw [o2]; exact List.mem_flatMap.2 ⟨35, hm, by rw [W.enc_small h1 (by decide)]; simp⟩) rfl
  have hlz := W.lex_brackets hn35 hlx
  have hone := h'.one (TokIs.ok _ _ _ hdz _ hlz)
  obtain ⟨rfl, _, _⟩ := hone
  have hat : ∀ t ∈ us, t.at_ ≤ cs.length := lex_at_le hlx
  have hplc : ∀ i, i ≤ cs.length → plc (40 :: (cs ++ [41])) (i + 1) = plc cs i + 1 := fun i hi => by
    unfold plc
    rw [List.take_succ_cons, List.take_append_of_le_length hi, W.flat_cons, List.length_append]
    show 1 + _ = _
    omega
  refine ⟨⟨6, [], 0, 0, (plc (40 :: (cs ++ [41])) 0 : Nat)⟩, ⟨7, [], 0, 0, (plc (40 :: (cs ++ [41])) (cs.length + 1) : Nat)⟩, rfl, rfl, ?_⟩
  unfold placed
  rw [List.map_cons, List.map_map, List.map_append, List.map_cons, List.map_nil]
  congr 1
  congr 1
  rw [List.map_map]
  refine List.map_congr_left fun t ht => ?_
  show (⟨t.kind, t.text, t.low, t.high, ((plc (40 :: (cs ++ [41])) (t.at_ + 1) : Nat) : Int)⟩ : Tok) = ⟨t.kind, t.text, t.low, t.high, ((plc cs t.at_ : Nat) : Int) + 1⟩
  rw [hplc _ (hat t ht)]
  rfl
namespace Y
/-- A form in brackets. -/
theorem form_brackets {e e' : Int} {N : Nat} {ts : List Tok} {o c : Tok} (ho : o.kind = 6) (hc : c.kind = 7) (hl : (formP e N 0 (.live ts)).2 = .live []) :
    (∃ a, (formP e' (N + 5) 0 (.live (o :: (ts ++ [c])))).2 = .dead a 8) ∨ ((formP e' (N + 5) 0 (.live (o :: (ts ++ [c])))).1 = (formP e N 0 (.live ts)).1 ∧ (formP e' (N + 5) 0 (.live (o :: (ts ++ [c])))).2 = .live []) := by
  have hE := (ext_all (l := c) (u := []) (e := e) (e' := e') (.inr hc) (d := 1) (by decide) N).form 0 (.live ts) (.live (ts ++ [c])) ⟨ts, rfl, rfl⟩ (by rw [hl]; exact ⟨[], rfl⟩)
  have hb : bareP e' (N + 1) 0 (.live (o :: (ts ++ [c]))) = ((formP e' N 1 (.live (ts ++ [c]))).1, (takeP e' [7] (formP e' N 1 (.live (ts ++ [c]))).2).2) := by
    have hn : nextP [6] (.live (o :: (ts ++ [c]))) = true := by rw [next_cons, ho]; rfl
    have hd : deepP e' 0 (.live (o :: (ts ++ [c]))) = .live (o :: (ts ++ [c])) := rfl
    have ht : takeP e' [6] (.live (o :: (ts ++ [c]))) = (o, .live (ts ++ [c])) := by rw [take_cons, if_pos (by rw [ho]; rfl)]
    rw [bareP, if_pos hn, hd, ht]
  have hn2 : nextP [1, 12, 6, 13] (.live (o :: (ts ++ [c]))) = true := by rw [next_cons, ho]; rfl
  rcases hE with ⟨_, a, hd⟩ | ⟨h2, v, hv1, hv2⟩
  · left
    refine ⟨a, ?_⟩
    have hb2 : (bareP e' (N + 1) 0 (.live (o :: (ts ++ [c])))).2 = .dead a 8 := by rw [hb]; simp only; rw [hd]; rfl
    have hp : (pieceP e' (N + 2) 0 (.live (o :: (ts ++ [c])))).2 = .dead a 8 := by rw [pieceP, hb2, if_neg (by show ¬ (false = true); decide)]; exact hb2
    have hps : (piecesP e' (N + 3) 0 [] (.live (o :: (ts ++ [c])))).2 = .dead a 8 := by rw [piecesP, if_pos hn2, hp]; rw [piecesP, if_neg (by show ¬ (false = true); decide)]
    have hj : (joinP e' (N + 4) 0 (.live (o :: (ts ++ [c])))).2 = .dead a 8 := by rw [joinP]; exact hps
    rw [formP, hj, orsP, if_neg (by show ¬ (false = true); decide)]
  · right
    rw [hl] at hv1
    injection hv1 with hv1
    subst hv1
    have hb2 : bareP e' (N + 1) 0 (.live (o :: (ts ++ [c]))) = ((formP e N 0 (.live ts)).1, .live []) := by
      rw [hb, h2, hv2]
      show (_, (takeP e' [7] (.live [c])).2) = _
      rw [take_cons, if_pos (by rw [hc]; rfl)]
    have hp : pieceP e' (N + 2) 0 (.live (o :: (ts ++ [c]))) = ((formP e N 0 (.live ts)).1, .live []) := by rw [pieceP, hb2, if_neg (by show ¬ (false = true); decide)]
    have hps : piecesP e' (N + 3) 0 [] (.live (o :: (ts ++ [c]))) = ([(formP e N 0 (.live ts)).1], .live []) := by rw [piecesP, if_pos hn2, hp]; rw [piecesP, if_neg (by show ¬ (false = true); decide)]; rfl
    have hj : joinP e' (N + 4) 0 (.live (o :: (ts ++ [c]))) = ((formP e N 0 (.live ts)).1, .live []) := by rw [joinP, hps]; rfl
    rw [formP, hj, orsP, if_neg (by show ¬ (false = true); decide)]
    exact ⟨rfl, rfl⟩
end Y
/-- The forms of a text, and of it in brackets. -/
theorem brackets_is {b : List Int} {t t' : List Tok} {x x' : Int} (hno : ∀ z ∈ b, z ≠ 35) (h : TokIs b t x 0) (h' : TokIs (40 :: b ++ [41]) t' x' 0) (hl : b.length ≤ 500) (e : Int) (N : Nat) :
    (formS e N t).2.2 ≠ 0 ∨ (formS (e + 2) (N + 5) t').2.2 = 8 ∨ ((formS (e + 2) (N + 5) t').2.2 = 0 ∧ (formS (e + 2) (N + 5) t').1 = (formS e N t).1) := by
  obtain ⟨o, c, ho, hc, rfl⟩ := tok_brackets hno h h' hl
  have hsh := (Y.shf_all (e := e) (d := 1) N).form 0 (.live t)
  have hfit := (Y.inv_all e Y.Fit (fun ks s h a y hh => ?_) (fun w s hw h a y hh => ?_) N).form 0 (.live t) (fun a y h => by cases h)
  rotate_left
  · rcases s with (_ | ⟨t, u⟩) | ⟨b, z⟩
    · rw [Y.take_nil] at hh; injection hh with _ h2; omega
    · rw [Y.take_cons] at hh
      split at hh
      · cases hh
      · injection hh with _ h2; omega
    · rw [Y.take_dead] at hh; exact h a y hh
  · rcases s with (_ | ⟨t, u⟩) | ⟨b, z⟩
    · injection hh with _ h2; omega
    · injection hh with _ h2; omega
    · exact h a y hh
  unfold formS
  generalize hk : formP e N 0 (.live t) = k at *
  obtain ⟨nd, s⟩ := k
  simp only at hfit ⊢
  rcases s with (_ | ⟨u, v⟩) | ⟨a, y⟩
  · right
    have hs2 : (formP (e + 1) N 0 (.live (t.map (shT 1)))).2 = .live [] := by
      have := congrArg Prod.snd hsh
      exact this
    have hs1 : (formP (e + 1) N 0 (.live (t.map (shT 1)))).1 = nd := congrArg Prod.fst hsh
    rcases Y.form_brackets (e' := e + 2) ho hc hs2 with ⟨a, hd⟩ | ⟨h1, h2⟩
    · left
      rw [hd, Y.last_dead]
    · right
      rw [h2, Y.last_nil, h1, hs1, Y.last_nil]
      exact ⟨rfl, rfl⟩
  · left
    rw [Y.last_more]
    show (4 : Int) ≠ 0
    decide
  · left
    rw [Y.last_dead]
    exact hfit a y rfl
end Go.Proofs.YtdhighnbbpngpaaGreatDoor
namespace Go.Proofs.YtdhighnbbpngpaaGreatDoor
open Go.RowKit
open Y (Nd It)

theorem own_lit1 (w : World) (x : Int) (e : TypeId) : OwnK .u8 (w.alloc (.cells #[.int .u8 x] e)) w.heap.size e (.slice (some ⟨w.heap.size, 0, none⟩) 1 1) 1 [x] :=
  World.ownsRow_lit w #[.int .u8 x] 1 (Nat.le_refl _) (by unfold maxLen; omega) rfl
set_option maxHeartbeats 8000000 in
theorem brackets_walk {w : World} {A : Option Addr} {n c : Nat} {L : List Int} (h : RdK .u8 w w.heap.size A n c L) (ha : Byt L) (hT : Tabs w) :
    Calls Tryz.prog 3 #[.slice A n c] w (BooK w true) := by
  have H0 := Lib.hid h
  have HBa := Lib.hid ha
  have HT := Lib.hid hT
  have HLA := Lib.hid h.len
  have hsm := h.small
  have hn0 : (0 : Int) ≤ (n : Int) := by omega
  obtain ⟨NN, hNN⟩ : ∃ N : Nat, N = 40000 := ⟨_, rfl⟩
  have HNN := Lib.hid hNN
  clear h ha hT hNN
  go_enter Tryz.func3, Tryz.ntmps3
  go_wp2_with fail
  refine (alive6_any HT.out).mono ?_
  rintro e w1 ⟨rfl, hb1⟩
  have HB1 := Lib.hid hb1
  have H1 := Lib.hid (H0.out.on hb1)
  clear hb1 HT H0
  by_cases hn : n ≤ 500
  · have g1 : ¬ (500 : Int) < (n : Int) := by omega
    go_wp2_with fail
    go_loopw [3] (fun iv wx => ∃ i : Nat, i ≤ n ∧ iv = .int .i64 i ∧ w1 = wx ∧ Hid (∀ j y, j < i → L[j]? = some y → y ≠ 35)) (fun iv _ => n - (intOf iv).toNat)
    case atStart => exact ⟨0, by omega, rfl, by trivial, fun j y h => by omega⟩
    case round =>
      obtain ⟨i, hi, rfl, rfl, HN⟩ := hrel
      by_cases hlt : i < n
      · obtain ⟨bA, oA, y, rfl, _, hy, hcy⟩ := H1.out.got hlt
        by_cases h35 : y = 35
        · subst h35
          clear HN hy
          go_wp2_with fail
          go_ret
          exact ⟨rfl, HB1.out⟩
        · have q35 : (y == 35) = false := by simpa using h35
          have HN2 : Hid (∀ j z, j < i + 1 → L[j]? = some z → z ≠ 35) := fun j z hj hz => by
            rcases Nat.lt_or_ge j i with h1 | h1
            · exact HN.out j z h1 hz
            · obtain rfl : j = i := by omega
              rw [hy] at hz; injection hz with hz; subst hz; exact h35
          clear HN hy
          go_wp2_with fail
          go_roundw
          case rel => exact ⟨i + 1, by omega, by go_num, by trivial, HN2.out⟩
          case measure => simp [intOf]; omega
      · have HNO : Hid (∀ z ∈ L, z ≠ 35) := fun z hz => by
          obtain ⟨j, hj, e⟩ := List.getElem_of_mem hz
          exact HN.out j z (by have := HLA.out; omega) (by rw [List.getElem?_eq_getElem hj, e])
        clear HN
        have hi2 : ¬ (i : Int) < (n : Int) := by omega
        clear hlt hi
        go_wp2_with fail
        refine (dof_any H1.out HBa.out HNO.out).mono ?_
        rintro e w2 ⟨A2, n2, c2, t, x, er, rfl, hrt, hti, hb2⟩
        have HTI := Lib.hid hti
        have HRT := Lib.hid hrt
        have HB2 := Lib.hid (HB1.out.trans (hb2.mono HB1.out.size))
        have H2 := Lib.hid (H1.out.on hb2)
        clear hti hrt hb2 HB1 H1
        go_wp2_with (at_builtin; refine app_rd .u8 rfl _ _ 22 rfl w2.heap.size 5 1 Tryz.underlying22 info_u8 (by decide) _ _ _ rfl (own_lit1 w2 40 5) _ A n c L rfl (H2.out.push _) (by omega) (by simp) ?_)
        intro v3 w3 ho3 hg3 _
        have HB3 := Lib.hid (below_grown (kbelow_push w2 _) hg3 (fun i hi => by cases hi; exact Nat.le_refl _))
        have HO3 := Lib.hid ho3
        clear ho3 hg3
        go_wp2_with (at_builtin; refine app_k .u8 rfl _ _ 22 rfl w2.heap.size 5 1 Tryz.underlying22 info_u8 (by decide) _ _ _ rfl (HO3.out.alloc _) ⟨w3.heap.size, 0, none⟩ 1 1 [41] rfl rfl (lit_k w3 _ rfl .u8 [41] _ _ rfl) (by omega) ?c2 ?_)
        case c2 => have := HB3.out.size; simp; omega
        intro v4 w4 ho4 hg4 _
        have HB4 := Lib.hid (below_grown (HB3.out.trans ((kbelow_push w3 _).mono HB3.out.size)) hg4 (fun i hi => (HO3.out.block i hi).1))
        obtain ⟨A4, c4, rfl, r4⟩ := ho4.rd
        have R4 : Hid (RdK .u8 w4 w4.heap.size A4 (1 + n + 1) c4 (40 :: L ++ [41])) := by show RdK _ _ _ _ _ _ _; simpa using r4
        have HBB : Hid (Byt (40 :: L ++ [41])) := fun z hz => by
          simp at hz
          rcases hz with rfl | hz | rfl
          · decide
          · exact HBa.out z hz
          · decide
        have HNO2 : Hid (∀ z ∈ 40 :: L ++ [41], z ≠ 35) := fun z hz => by
          simp at hz
          rcases hz with rfl | hz | rfl
          · decide
          · exact HNO.out z hz
          · decide
        have HRT4 := Lib.hid (HRT.out.on HB4.out)
        have HBW := Lib.hid (HB2.out.trans (HB4.out.mono HB2.out.size))
        clear ho4 hg4 r4 HO3 HB3 H2 HRT HB2 HB4
        go_wp2_with fail
        refine (dof_any R4.out HBB.out HNO2.out).mono ?_
        rintro e w5 ⟨A5, n5, c5, t2, x2, er2, rfl, hrt2, hti2, hb5⟩
        have HTI2 := Lib.hid hti2
        have HRT2 := Lib.hid hrt2
        have HB5 := Lib.hid (HBW.out.trans (hb5.mono HBW.out.size))
        have HRT5 := Lib.hid (HRT4.out.on hb5)
        clear hti2 hrt2 hb5 HBW HRT4 R4 HBB HNO2
        by_cases he : er = 0
        · subst he
          by_cases he2 : er2 = 0
          · subst he2
            have hfew := tok_few HTI.out
            have hfew2 := tok_few HTI2.out
            have hlen : L.length ≤ 500 := by rw [HLA.out]; exact hn
            simp at hfew2
            have hres := brackets_is HNO.out HTI.out HTI2.out hlen (n : Int) NN
            have HRES := Lib.hid hres
            have HF1 := Lib.hid (eform_any HRT5.out (by omega) (n : Int) NN (by rw [HNN.out]; omega))
            have HF2 : Hid (∀ w', Below w5.heap.size w5 w' → Calls Tryz.prog 10 #[.slice A5 n5 c5, .int .i64 ((n : Int) + 2)] w' (FormA w' (formS ((n : Int) + 2) (NN + 5) t2))) := fun w' h => eform_any (HRT2.out.on h) (by omega) _ (NN + 5) (by rw [HNN.out]; omega)
            clear hres hfew hfew2 hlen HTI HTI2 HRT5 HRT2 HNO
            generalize formS (n : Int) NN t = ra at *
            generalize formS ((n : Int) + 2) (NN + 5) t2 = rb at *
            go_wp2_with fail
            refine HF1.out.mono ?_
            rintro e w6 ⟨A6, n6, c6, rfl, hv6, hb6⟩
            have HV6 : Hid (RdN w6 (Lt w6) A6 n6 c6 ra.1.kids) := hv6.keep (fun i hi => hi.2) (fun _ _ => rfl)
            have HS6 := Lib.hid hb6
            clear hv6 hb6 HF1
            have HB7 := Lib.hid (HS6.out.trans ((kbelow_push w6 (.cells #[.int .i64 ra.1.kind, .string ra.1.name, .int .i64 ra.1.low, .int .i64 ra.1.high, .slice A6 n6 c6] 30)).mono HS6.out.size))
            have HV7 := Lib.hid (HV6.out.on (kbelow_push w6 (.cells #[.int .i64 ra.1.kind, .string ra.1.name, .int .i64 ra.1.low, .int .i64 ra.1.high, .slice A6 n6 c6] 30)))
            have HR7 := Lib.hid (heap_alloc_new w6 (.cells #[.int .i64 ra.1.kind, .string ra.1.name, .int .i64 ra.1.low, .int .i64 ra.1.high, .slice A6 n6 c6] 30))
            have hs7 : (w6.alloc (.cells #[.int .i64 ra.1.kind, .string ra.1.name, .int .i64 ra.1.low, .int .i64 ra.1.high, .slice A6 n6 c6] 30)).heap.size = w6.heap.size + 1 := by simp
            clear HV6 HS6
            go_wp2_with fail
            generalize w6.alloc (.cells #[.int .i64 ra.1.kind, .string ra.1.name, .int .i64 ra.1.low, .int .i64 ra.1.high, .slice A6 n6 c6] 30) = W7 at *
            refine (HF2.out W7 HB7.out).mono ?_
            rintro e w8 ⟨A8, n8, c8, rfl, hv8, hb8⟩
            have HV8 : Hid (RdN w8 (Lt w8) A8 n8 c8 rb.1.kids) := hv8.keep (fun i hi => hi.2) (fun _ _ => rfl)
            have HV78 := Lib.hid (HV7.out.on hb8)
            have HR8 := Lib.hid ((hb8.block w6.heap.size (by omega)).trans HR7.out)
            have HB8 := Lib.hid (HB5.out.trans ((HB7.out.trans (hb8.mono HB7.out.size)).mono HB5.out.size))
            have hlt8 : w6.heap.size < w8.heap.size := by have := hb8.size; omega
            clear hv8 hb8 HF2 HV7 HB7 HR7 hs7
            obtain ⟨z0, z1, z2, z3, z4⟩ := cells5 HR8.out
            have HB9 := Lib.hid (HB8.out.trans ((kbelow_push w8 (.cells #[.int .i64 rb.1.kind, .string rb.1.name, .int .i64 rb.1.low, .int .i64 rb.1.high, .slice A8 n8 c8] 30)).mono HB8.out.size))
            have HSM : Hid (rb.1 = ra.1 → Calls Tryz.prog 11 #[.agg #[.int .i64 ra.1.kind, .string ra.1.name, .int .i64 ra.1.low, .int .i64 ra.1.high, .slice A6 n6 c6], .agg #[.int .i64 rb.1.kind, .string rb.1.name, .int .i64 rb.1.low, .int .i64 rb.1.high, .slice A8 n8 c8]] (w8.alloc (.cells #[.int .i64 rb.1.kind, .string rb.1.name, .int .i64 rb.1.low, .int .i64 rb.1.high, .slice A8 n8 c8] 30)) (BooK (w8.alloc (.cells #[.int .i64 rb.1.kind, .string rb.1.name, .int .i64 rb.1.low, .int .i64 rb.1.high, .slice A8 n8 c8] 30)) true)) := fun he => by
              have h1 := HV78.out.on (kbelow_push w8 (.cells #[.int .i64 rb.1.kind, .string rb.1.name, .int .i64 rb.1.low, .int .i64 rb.1.high, .slice A8 n8 c8] 30))
              have h2 := HV8.out.on (kbelow_push w8 (.cells #[.int .i64 rb.1.kind, .string rb.1.name, .int .i64 rb.1.low, .int .i64 rb.1.high, .slice A8 n8 c8] 30))
              have := rsame_any ra.1.size ra.1 rb.1 (Nat.le_refl _) _ A6 A8 n6 c6 n8 c8 h1 h2
              have hq : eqN ra.1 rb.1 = true := by rw [he, eqN_yes]
              rw [hq] at this
              exact this
            clear HV78 HV8 HR8
            by_cases hg : ra.2.2 = 0
            · have qg : (ra.2.2 != 0) = false := by simp [hg]
              by_cases hh8 : rb.2.2 = 8
              · have qh : (rb.2.2 == 8) = true := by simp [hh8]
                clear HRES HSM hg hh8
                go_wp2_with fail
                go_ret
                exact ⟨rfl, HB9.out⟩
              · obtain ⟨hr0, hrn⟩ : rb.2.2 = 0 ∧ rb.1 = ra.1 := by
                  rcases HRES.out with h1 | h1 | h1
                  · exact absurd hg h1
                  · exact absurd h1 hh8
                  · exact h1
                have qh : (rb.2.2 == 8) = false := by simpa using hh8
                have q0 : (rb.2.2 == 0) = true := by simp [hr0]
                have HSM2 := Lib.hid (HSM.out hrn)
                clear HRES HSM hg hh8 hr0 hrn
                go_wp2_with fail
                generalize w8.alloc (.cells #[.int .i64 rb.1.kind, .string rb.1.name, .int .i64 rb.1.low, .int .i64 rb.1.high, .slice A8 n8 c8] 30) = W9 at *
                refine HSM2.out.mono ?_
                rintro e w10 ⟨rfl, hb10⟩
                have HBE := Lib.hid (HB9.out.trans (hb10.mono HB9.out.size))
                clear hb10 HSM2
                go_wp2_with fail
                go_ret
                exact ⟨rfl, HBE.out⟩
            · have qg : (ra.2.2 != 0) = true := by rw [bne_iff_ne]; exact hg
              clear HRES HSM hg
              go_wp2_with fail
              go_ret
              exact ⟨rfl, HB9.out⟩
          · have q2 : (er2 != 0) = true := by rw [bne_iff_ne]; exact he2
            clear HTI HTI2 HRT5 HRT2 HNO
            go_wp2_with fail
            go_ret
            exact ⟨rfl, HB5.out⟩
        · have q1 : (er != 0) = true := by rw [bne_iff_ne]; exact he
          clear HTI HTI2 HRT5 HRT2 HNO
          go_wp2_with fail
          go_ret
          exact ⟨rfl, HB5.out⟩
  · have g1 : (500 : Int) < (n : Int) := by omega
    go_wp2_with fail
    go_ret
    exact ⟨rfl, HB1.out⟩
end Go.Proofs.YtdhighnbbpngpaaGreatDoor
