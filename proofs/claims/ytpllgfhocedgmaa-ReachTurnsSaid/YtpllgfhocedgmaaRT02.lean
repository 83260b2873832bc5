/- Whether lists of ranges, and of numbers, are the same, as the document asks it; how great a pattern is: the document's Weight and Size; whether patterns are the same: the document's Same. A PatStar's, a PatPlus's and a PatMaybe's Kid: what is laid. How many nodes, signs and ranges a form has, as Weight tells them. -/
import Derived.Test.YtpllgfhocedgmaaRT01
import Derived.Laws.StructEq
import Derived.Shelf.SlicesE.Equal
import Derived.IntWalk
import Derived.Deep.RegionHeldLaw
import Derived.Deep.RegionHeld3
set_option maxRecDepth 100000
namespace Go.Proofs.Ytpllgfhocedgmaa
open Go.RowKit

theorem pret_bool {a b : Bool} (h : a = b) : Ending.returned (.bool a) = .returned (.bool b) := by rw [h]
def peqR (x y : Int × Int) : Bool := x.1 == y.1 && x.2 == y.2
theorem peqR_iff (x y : Int × Int) : peqR x y = true ↔ x = y := by simp [peqR, Prod.ext_iff]
theorem pneq_R : NeqAt Try.prog 79 (fun x : Int × Int => .agg #[.int .i64 x.1, .int .i64 x.2]) peqR := by
 refine ⟨fun x y w => ?_, GuardAt.agg _ (by kernel_rfl)⟩
 have u3 := Try.underlying3
 have a3 := Try.isAgg3
 have z3 := Try.sizeOf3
 have hS : Try.prog.underlying 79 = some (.struct (Try.prog.fieldsOf 79)) := by kernel_rfl
 have hp : Try.prog.stoodInHeld 79 = false := by kernel_rfl
 rw [run_neq_struct, show (10000 : Nat) = 9999 + 1 from rfl, run_equalIn_agg w 9999 79 _ _ hS hp]
 simp only [Program.fieldsOf, Try.underlying79]
 unfold peqR
 go_simp
 by_cases h1 : x.fst = y.fst <;> by_cases h2 : x.snd = y.snd <;> simp [h1, h2]
theorem ptake_same {α : Type} {a b : List α} {k : Nat} {x y : α} (ht : a.take k = b.take k) (ha : a[k]? = some x) (hb : b[k]? = some y) : (x = y → a.take (k + 1) = b.take (k + 1)) ∧ (x ≠ y → a ≠ b) := by
 obtain ⟨ha1, ha2⟩ := List.getElem?_eq_some_iff.1 ha
 obtain ⟨hb1, hb2⟩ := List.getElem?_eq_some_iff.1 hb
 refine ⟨fun h => ?_, fun h e => ?_⟩
 ·rw [List.take_succ_eq_append_getElem ha1, List.take_succ_eq_append_getElem hb1, ha2, hb2, ht, h]
 ·subst e; rw [ha] at hb; injection hb with hb; exact h hb
set_option maxHeartbeats 1000000 in
theorem pranges_any {w : World} {S S' : Nat → Prop} {A A' : Option Addr} {n m c d : Nat} {a b : List (Int × Int)} (ha : RgAt w S A n c a) (hb : RgAt w S' A' m d b) :
  Calls Try.prog 32 #[.slice A n c, .slice A' m d] w (fun e w' => e = .returned (.bool (decide (a = b))) ∧ ∃ q, w' = w.drewN q) := by
 have hn : n ≤ maxLen := Nat.le_trans ha.cap ha.capm
 have hm : m ≤ maxLen := Nat.le_trans hb.cap hb.capm
 unfold maxLen at hn hm
 by_cases hnm : n = m
 ·subst hnm
  have HN := Lib.hid pneq_R.1
  have HG := Lib.hid pneq_R.2
  have g0 : ((n : Int) != (n : Int)) = false := by simp
  go_enter Try.func32, Try.ntmps32
  go_wp2_with fail
  go_loopw [5] (fun i wx => ∃ k : Nat, k ≤ n ∧ i = .int .i64 k ∧ a.take k = b.take k ∧ ∃ q, wx = w.drewN q) (fun i _ => n - (intOf i).toNat)
  case atStart => exact ⟨0, Nat.zero_le _, rfl, rfl, 0, rfl⟩
  case round =>
   obtain ⟨k, hk, rfl, ht, q, rfl⟩ := hrel
   have HT := Lib.hid ht
   clear ht
   by_cases hlt : k < n
   ·obtain ⟨b1, o1, lo, hi, rfl, _, hr, k1, k2⟩ := ha.got hlt
    obtain ⟨b2, o2, lo', hi', rfl, _, hr', k3, k4⟩ := hb.got hlt
    have HS := Lib.hid (ptake_same HT.out hr hr')
    have hne : ∀ w, Sem.run Try.prog (binOp .neq 79 (.agg #[.int .i64 lo, .int .i64 hi]) (.agg #[.int .i64 lo', .int .i64 hi'])) w = .ok (.bool (!peqR (lo, hi) (lo', hi'))) w := fun w => HN.out (lo, hi) (lo', hi') w
    have hgd : ∀ op x y w, Sem.run Try.prog (eqGuard op 79 x y (.agg #[.int .i64 lo, .int .i64 hi]) (.agg #[.int .i64 lo', .int .i64 hi'])) w = .ok () w := fun op x y w => HG.out op x y (lo, hi) (lo', hi') w
    clear hr hr' HT ha hb HN HG
    cases heq : peqR (lo, hi) (lo', hi')
    ·have HQ := Lib.hid (HS.out.2 (fun e => by rw [(peqR_iff _ _).2 e] at heq; cases heq))
     rw [heq] at hne
     clear heq HS
     go_wp2
     go_quiet (fail)
     go_wp2
     go_ret
     exact ⟨by rw [decide_eq_false HQ.out]; rfl, _, kdrewN_two _ _ _⟩
    ·have HQ := Lib.hid (HS.out.1 ((peqR_iff _ _).1 heq))
     rw [heq] at hne
     clear heq HS
     go_wp2
     go_quiet (fail)
     go_wp2
     go_roundw
     case rel => exact ⟨k + 1, by omega, by go_num, HQ.out, _, rfl⟩
     case measure => simp [intOf]; omega
   ·have HQ : Hid (a = b) := by
     have h1 := HT.out
     rwa [List.take_of_length_le (by rw [ha.len]; omega), List.take_of_length_le (by rw [hb.len]; omega)] at h1
    clear ha hb HT
    go_wp2
    go_ret
    exact ⟨by rw [decide_eq_true HQ.out]; rfl, _, rfl⟩
 ·have HQ : Hid (a ≠ b) := fun e => hnm (by rw [← ha.len, ← hb.len, e])
  have g0 : ((n : Int) != (m : Int)) = true := by simp; omega
  clear ha hb
  go_enter Try.func32, Try.ntmps32
  go_wp2
  go_ret
  exact ⟨by rw [decide_eq_false HQ.out]; rfl, 0, rfl⟩
theorem pranges_b {w : World} {S S' : Nat → Prop} {A A' : Option Addr} {n m c d : Nat} {a b : List (Int × Int)} (ha : RgAt w S A n c a) (hb : RgAt w S' A' m d b) :
  Calls Try.prog 32 #[.slice A n c, .slice A' m d] w (BooK w (decide (a = b))) :=
 (pranges_any ha hb).mono fun _ _ ⟨he, q, hq⟩ => ⟨he, by rw [hq]; exact kbelow_drewN (Below.refl _ _) q⟩
set_option maxHeartbeats 1000000 in
theorem pints_any {w : World} {S S' : Nat → Prop} {A A' : Option Addr} {n m c d : Nat} {a b : List Int} (ha : InAt w S A n c a) (hb : InAt w S' A' m d b) :
  Calls Try.prog 27 #[.slice A n c, .slice A' m d] w fun e w' => e = .returned (.bool (decide (a = b))) ∧ ∃ q, w' = w.drewN q := by
 have hn : n ≤ maxLen := Nat.le_trans ha.cap ha.capm
 have hm : m ≤ maxLen := Nat.le_trans hb.cap hb.capm
 unfold maxLen at hn hm
 by_cases hnm : n = m
 ·subst hnm
  have g0 : ((n : Int) != (n : Int)) = false := by simp
  go_enter Try.func27, Try.ntmps27
  go_wp2_with fail
  go_loopw [5] (fun i wx => ∃ k : Nat, k ≤ n ∧ i = .int .i64 k ∧ a.take k = b.take k ∧ ∃ q, wx = w.drewN q) (fun i _ => n - (intOf i).toNat)
  case atStart => exact ⟨0, Nat.zero_le _, rfl, rfl, 0, rfl⟩
  case round =>
   obtain ⟨k, hk, rfl, ht, q, rfl⟩ := hrel
   have HT := Lib.hid ht
   clear ht
   by_cases hlt : k < n
   ·obtain ⟨b1, o1, x, rfl, _, hr, k1⟩ := ha.got hlt
    obtain ⟨b2, o2, y, rfl, _, hr', k3⟩ := hb.got hlt
    have HS := Lib.hid (ptake_same HT.out hr hr')
    clear hr hr' HT ha hb
    by_cases heq : x = y
    ·have HQ := Lib.hid (HS.out.1 heq)
     have g1 : ((x : Int) != y) = false := by simpa using heq
     clear heq HS
     go_wp2
     go_quiet (fail)
     go_wp2
     go_roundw
     case rel => exact ⟨k + 1, by omega, by go_num, HQ.out, _, rfl⟩
     case measure => simp [intOf]; omega
    ·have HQ := Lib.hid (HS.out.2 heq)
     have g1 : ((x : Int) != y) = true := by simpa using heq
     clear heq HS
     go_wp2
     go_quiet (fail)
     go_wp2
     go_ret
     exact ⟨by rw [decide_eq_false HQ.out]; rfl, _, kdrewN_two _ _ _⟩
   ·have HQ : Hid (a = b) := by
     have h1 := HT.out
     rwa [List.take_of_length_le (by rw [ha.len]; omega), List.take_of_length_le (by rw [hb.len]; omega)] at h1
    clear ha hb HT
    go_wp2
    go_ret
    exact ⟨by rw [decide_eq_true HQ.out]; rfl, _, rfl⟩
 ·have HQ : Hid (a ≠ b) := fun e => hnm (by rw [← ha.len, ← hb.len, e])
  have g0 : ((n : Int) != (m : Int)) = true := by simp; omega
  clear ha hb
  go_enter Try.func27, Try.ntmps27
  go_wp2
  go_ret
  exact ⟨by rw [decide_eq_false HQ.out]; rfl, 0, rfl⟩
theorem pints_b {w : World} {S S' : Nat → Prop} {A A' : Option Addr} {n m c d : Nat} {a b : List Int} (ha : InAt w S A n c a) (hb : InAt w S' A' m d b) :
  Calls Try.prog 27 #[.slice A n c, .slice A' m d] w (BooK w (decide (a = b))) :=
 (pints_any ha hb).mono fun _ _ ⟨he, q, hq⟩ => ⟨he, by rw [hq]; exact kbelow_drewN (Below.refl _ _) q⟩

theorem cells4 {w : World} {N : Nat} {x0 x1 x2 x3 : Value} {t : TypeId} (h : w.heap[N]? = some (.cells #[x0, x1, x2, x3] t (0, 0))) :
  w.cell? ⟨N, 0, none⟩ = some x0 ∧ w.cell? ⟨N, 1, none⟩ = some x1 ∧ w.cell? ⟨N, 2, none⟩ = some x2 ∧ w.cell? ⟨N, 3, none⟩ = some x3 := by
 refine ⟨?_, ?_, ?_, ?_⟩ <;> (rw [cell_of_row _ _ _ _ _ _ h]; rfl)


end Go.Proofs.Ytpllgfhocedgmaa
namespace Go.Proofs.Ytpllgfhocedgmaa
open Go.RowKit

def Gh.addm (G : Gh) (e : Nat) (y : Pt) (t : Tl) : Gh := ⟨.kid e y t :: .more e y t :: G.ps, G.inn, fun b => G.U b ∨ (e < b ∧ b < e + 9 ∧ b ≠ e + 6 ∧ b ≠ e + 8), fun b => G.R b ∨ (e ≤ b ∧ b < e + 9)⟩
section
variable {C : Ctx} {s s1 : Sta}
theorem Inv.addm (h : Inv C s) {w3 w' : World} {e : Nat} {y : Pt} {t : Tl} {pc : Array Value} {v2 : Value} (he : s.w.heap.size = e) (hs3 : w3.heap.size = e + 3) (hb3 : Below e s.w w3) (h1 : TB w3 (e + 1) (t.val C.c)) (h2 : TB w3 (e + 2) v2)
  (hm : PartMem C w3 w' (e + 3) pc ((Tl.more e y t).val C.c) s.nv s.mn) (hx : PatV C w3 pc y) (ht : Ex s.G t) (a : Nat) :
  Inv C ⟨w'.setCell ⟨e + 2, 0, none⟩ ((Tl.kid e y t).val C.c), s.G.addm e y t, s.nv, s.pv, s.nx, s.pl, s.mn + 1⟩ ∧ Step C a y.size s ⟨w'.setCell ⟨e + 2, 0, none⟩ ((Tl.kid e y t).val C.c), s.G.addm e y t, s.nv, s.pv, s.nx, s.pl, s.mn + 1⟩ := by
 have gg := h.g
 have hord := gg.ord
 have hsz := hm.size
 have hbl := h.base_le
 have hW := (gg.rlt _ gg.rm.1).1
 have hnone : s.G.inn (e + 3) = none := by
  cases hi : s.G.inn (e + 3) with
  | none => rfl
  | some u =>
   obtain ⟨x', t', hp⟩ := gg.inn0 _ u hi
   have := gg.lt_part hp
   omega
 have hu3 : ∀ b, e ≤ b → ¬ s.G.U b := fun b hb hu => by have := (gg.rlt b (gg.ur b hu)).1; omega
 have hclt := (gg.rlt _ gg.rm.2.2).1
 generalize hw2 : w'.setCell ⟨e + 2, 0, none⟩ ((Tl.kid e y t).val C.c) = w2
 have hs2 : w2.heap.size = e + 9 := by rw [← hw2]; simpa using hsz
 have hne : ∀ b, b ≠ e + 2 → w2.heap[b]? = w'.heap[b]? := fun b hb => by rw [← hw2]; exact Below.heap_setCell _ _ _ _ hb
 have hold : ∀ b, b < e → b ≠ C.W → w2.heap[b]? = s.w.heap[b]? := fun b hb hn => (hne b (by omega)).trans ((hm.old b (by omega) hn).trans (hb3.block b hb))
 have hB : ∀ i, i < C.base → w2.heap[i]? = w3.heap[i]? := fun i hi => (hne i (by omega)).trans (hm.old i (by omega) (by omega))
 have t1 : TB w2 (e + 1) (t.val C.c) := (hne _ (by omega)).trans ((hm.old _ (by omega) (by omega)).trans h1)
 have t2 : TB w2 (e + 2) ((Tl.kid e y t).val C.c) := by
  have h3 : TB w' (e + 2) v2 := (hm.old _ (by omega) (by omega)).trans h2
  rw [← hw2]
  exact h3.set _
 have hp1 : PatB C w2 (e + 4) y := by
  obtain ⟨sA, sn, sc, gA, gn, gc, A, k, c, e1, hi⟩ := hx.is
  exact ⟨sA, sn, sc, gA, gn, gc, A, k, c, e1 ▸ ((hne _ (by omega)).trans hm.h1), hi.keep (fun _ h => h) (fun p hp => World.cell?_of_block (hB p.block hp))⟩
 have hbel : Below C.base s.w w2 := by
  have hb := hm.bel
  refine ⟨?_, ?_, ?_, by omega, fun b hb' => hold b (by omega) (by omega)⟩
  ·rw [← hw2]; exact hb.os.trans hb3.os
  ·rw [← hw2]; exact hb.tape.trans hb3.tape
  ·rw [← hw2]; exact hb.output.trans hb3.output
 have hkm : Tl.kid e y t ≠ Tl.more e y t := by intro e1; cases e1
 have hg' : Good C w2 (s.G.addm e y t) := by
  refine gg.ext (new := [.kid e y t, .more e y t]) rfl rfl (fun b hb => .inl hb) (fun b hb => ?_) (fun b hb => .inl hb) (fun b hb => ?_) (fun b hb => ?_) (by omega) (fun b hlt hb => hold b (by omega) hb) (fun n' x' t' hp' => ?_) (fun e' y' t' hp' => ?_) (by simp [hkm]) (by simp [Tl.kid]) (fun n1 x1 t1 n2 x2 t2 h1 h2 => ?_)
  ·rcases hb with h1 | h1
   ·exact .inl h1
   ·exact .inr (by omega)
  ·rcases hb with h1 | h1
   ·exact .inl h1
   ·exact .inr (by omega)
  ·rcases hb with h1 | h1
   ·exact .inl (gg.ur b h1)
   ·exact .inr (by omega)
  ·rcases List.mem_cons.1 hp' with hp' | hp'
   ·unfold Tl.kid at hp'
    injection hp' with e1 e2 e3
    subst e1 e2 e3
    refine ⟨by omega, ⟨.inr (by simp [Gh.addm]), ⟨.inr (by omega), .inr (by omega), .inr (by omega), .inr (by omega)⟩, ⟨.inr (by omega), .inr (by omega)⟩, ⟨fun h1 => ?_, fun h1 => ?_⟩, by omega, (cell_eq (hne _ (by omega))).trans hm.h0, hp1, (cell_eq (hne _ (by omega))).trans hm.h2.cell, ?_, (cell_eq (hne _ (by omega))).trans hm.h4.cell, ⟨_, (hne _ (by omega)).trans hm.h5⟩, fun u hu => ?_⟩⟩
    ·rcases h1 with h1 | h1
     ·exact hu3 _ (by omega) h1
     ·omega
    ·rcases h1 with h1 | h1
     ·exact hu3 _ (by omega) h1
     ·omega
    ·show TB w2 (e + 3 + 3) (innV C.c (s.G.inn (e + 3)))
     rw [hnone]
     exact (hne _ (by omega)).trans hm.h3
    ·have : s.G.inn (e + 3) = some u := hu
     rw [hnone] at this
     cases this
   ·rw [List.mem_singleton] at hp'
    cases hp'
  ·rcases List.mem_cons.1 hp' with hp' | hp'
   ·unfold Tl.kid at hp'; cases hp'
   ·rw [List.mem_singleton] at hp'
    injection hp' with e1 e2 e3
    subst e1 e2 e3
    exact ⟨by omega, ⟨ht.imp id fun h1 => List.mem_cons_of_mem _ (List.mem_cons_of_mem _ h1), List.mem_cons_self, ⟨.inr (by omega), .inr (by omega)⟩, t1.cell, t2.cell⟩⟩
  ·have g1 : ∀ {n x t'}, Tl.part n x t' ∈ [Tl.kid e y t, Tl.more e y t] → n = e + 3 ∧ x = y ∧ t' = Tl.more e y t := fun hp => by
    rcases List.mem_cons.1 hp with hp | hp
    ·unfold Tl.kid at hp; injection hp with f1 f2 f3; exact ⟨f1, f2, f3⟩
    ·rw [List.mem_singleton] at hp; cases hp
   obtain ⟨a1, a2, a3⟩ := g1 h1
   obtain ⟨b1, b2, b3⟩ := g1 h2
   exact .inl ⟨a1.trans b1.symm, a2.trans b2.symm, a3.trans b3.symm⟩
 have hxs := y.size_pos
 have hub : unb s.G.inn [.kid e y t, .more e y t] = y.size - 1 := by simp [unb, unb1, Tl.kid, hnone]
 have hut : unt w2 a [.kid e y t, .more e y t] ≤ 1 := by
  show (unt1 w2 a (.part (e + 3) y (.more e y t))) + 0 ≤ 1
  by_cases hl : LB w2 (e + 3 + 5) a
  ·rw [unt1_pos hl]; omega
  ·rw [unt1_neg hl]; omega
 refine h.ext hg' (new := [.kid e y t, .more e y t]) rfl rfl (fun b hb => .inl hb) (fun b hb => .inl hb) (fun b hb => ?_) hbel (fun b hlt hb => hold b (by omega) hb) (by have := (hne C.W (by omega)).trans hm.wk; simpa using this) (fun n' x' t' hp' => ?_) (by show 1 + (0 + 0) + s.mn ≤ s.mn + 1; omega) ?_ ?_
 ·rcases hb with h1 | h1
  ·exact .inl h1
  ·exact .inr (by omega)
 ·rcases List.mem_cons.1 hp' with hp' | hp'
  ·unfold Tl.kid at hp'
   injection hp' with e1 e2 e3
   rw [e1]
   exact (hne _ (by omega)).trans hm.h5
  ·rw [List.mem_singleton] at hp'; cases hp'
 ·rw [hub]; omega
 ·rw [hub]; omega
theorem Inv.free {a k : Nat} (hst : Step C a k s s1) (h0 : Inv C s) (h : Inv C s1) {b : Nat} (hb : s.w.heap.size ≤ b) (hr : ¬ s1.G.R b) (hn : s1.nv.ownBlock ≠ some b) (hp : s1.pv.ownBlock ≠ some b) (o : Nat) (v : Value) :
  Inv C { s1 with w := s1.w.setCell ⟨b, o, none⟩ v } ∧ Step C a k s { s1 with w := s1.w.setCell ⟨b, o, none⟩ v } := by
 have gg := h.g
 have st := h.st
 have hord := gg.ord
 have hbl := h0.base_le
 have hne : ∀ i, i ≠ b → (s1.w.setCell ⟨b, o, none⟩ v).heap[i]? = s1.w.heap[i]? := fun i hi => Below.heap_setCell _ _ _ _ hi
 have hR : ∀ i, s1.G.R i → (s1.w.setCell ⟨b, o, none⟩ v).heap[i]? = s1.w.heap[i]? := fun i hi => hne i (fun e => hr (e ▸ hi))
 have hR' : ∀ i, s1.G.R i → i ≠ C.W → i ≠ C.P → (s1.w.setCell ⟨b, o, none⟩ v).heap[i]? = s1.w.heap[i]? := fun i hi _ _ => hR i hi
 have hB : ∀ i, i < C.base → (s1.w.setCell ⟨b, o, none⟩ v).heap[i]? = s1.w.heap[i]? := fun i hi => hne i (by omega)
 refine ⟨h.turn (by simp) hB hR' ⟨(hR _ gg.rm.1).trans st.wk, st.l.keep (fun _ h => h) (fun p hp => World.cell?_of_block (hB p.block hp)), owns_keep st.nr (fun i e => hne i (fun e2 => hn (e2 ▸ e))), st.nn, (hR _ gg.rm.2.1).trans st.p0, owns_keep st.pr (fun i e => hne i (fun e2 => hp (e2 ▸ e))), st.pn, st.np, st.nxe, st.cn⟩, ?_⟩
 refine ⟨hst.ps, hst.inn, hst.rr, hst.fr, fun t he ht => Cov.of gg (fun n x t hp hl => (gg.cov_eq hR' hp a).2 hl) (fun hl => (gg.top_eq hR' a).2 hl) t (hst.ex he) (hst.told t he ht), fun n x t hp hl => ?_, hst.nx, hst.nq, ?_, fun hl => hst.tp ((gg.top_eq hR' a).1 hl), hst.bud, ?_, fun i hi hr' h1 h2 => (hne i (by omega)).trans (hst.keep i hi hr' h1 h2), hst.nvb, hst.pvb, ⟨hst.bel.os, hst.bel.tape, hst.bel.output, by simpa using hst.bel.size, fun i hi => (hB i hi).trans (hst.bel.block i hi)⟩, hst.uu, fun i hi => (hR i (gg.ur i (hst.uu i hi))).trans (hst.uk i hi), fun n x t z hp hl => hst.lv n x t z hp ((gg.cov_eq hR' hp z).1 hl), fun z hl => hst.lt z ((gg.top_eq hR' z).1 hl)⟩
 ·rcases hst.new n x t hp ((gg.cov_eq hR' hp a).1 hl) with h1 | ⟨u, h1, h2⟩
  ·exact .inl h1
  ·exact .inr ⟨u, h1, CovI.mono ((gg.part n x t hp).inn u h1) (gg.part n x t hp).ex (fun e y t ht => (gg.more e y t ht).kid) (fun t he ht => Cov.of gg (fun n x t hp hl => (gg.cov_eq hR' hp a).2 hl) (fun hl => (gg.top_eq hR' a).2 hl) t he ht) (fun _ h => h) h2⟩
 ·rcases hst.pl with e | ⟨e, h1, h2, h3⟩
  ·exact .inl e
  ·exact .inr ⟨e, h1, (gg.top_eq hR' a).2 h2, h3⟩
 ·have := hst.mu
  show unt (s1.w.setCell ⟨b, o, none⟩ v) a s1.G.ps + _ ≤ _
  rw [unt_eq gg hR' a s1.G.ps fun _ h => h]
  exact this
end
end Go.Proofs.Ytpllgfhocedgmaa
namespace Go.Proofs.Ytpllgfhocedgmaa
open Go.RowKit

mutual
def Pt.wt : Pt → Nat
 | .mk _ s g l => s.length + g.length + ptsWt l + 1
def ptsWt : List Pt → Nat
 | [] => 0
 | x :: t => x.wt + ptsWt t
end
theorem Pt.wt_kids (x : Pt) : x.set.length + x.signs.length + ptsWt x.kids + 1 = x.wt := by cases x; rw [Pt.wt]; rfl
theorem ptsWt_app (l m : List Pt) : ptsWt (l ++ m) = ptsWt l + ptsWt m := by
 induction l with
 | nil => simp [ptsWt]
 | cons x t ih => simp [ptsWt, ih]; omega
theorem ptsWt_take {l : List Pt} {i : Nat} {x : Pt} (h : l[i]? = some x) : ptsWt (l.take (i + 1)) = ptsWt (l.take i) + x.wt := by
 rw [List.take_add_one, h, ptsWt_app]
 simp [ptsWt]
theorem ptsWt_le (l : List Pt) (i : Nat) : ptsWt (l.take i) ≤ ptsWt l := by
 have h : l = l.take i ++ l.drop i := (List.take_append_drop i l).symm
 have := congrArg ptsWt h
 rw [ptsWt_app] at this
 omega
theorem ptsWt_mem {l : List Pt} {i : Nat} {x : Pt} (h : l[i]? = some x) : x.wt ≤ ptsWt l := by
 have h1 := ptsWt_take h
 have h2 := ptsWt_le l (i + 1)
 omega
mutual
theorem Pt.size_wt : (x : Pt) → x.size ≤ x.wt
 | .mk _ _ _ l => by have := ptsSize_wt l; rw [Pt.size, Pt.wt]; omega
theorem ptsSize_wt : (l : List Pt) → ptsSize l ≤ ptsWt l
 | [] => Nat.le_refl _
 | x :: t => by have h1 := Pt.size_wt x; have h2 := ptsSize_wt t; rw [ptsSize, ptsWt]; omega
end
theorem len_size (l : List Pt) : l.length ≤ ptsSize l := by
 induction l with
 | nil => exact Nat.le_refl _
 | cons x t ih => have := Pt.size_pos x; rw [ptsSize, List.length_cons]; omega
def PWgP (w : World) (x : Pt) (d : Int) (e : Ending) (w' : World) : Prop := ∃ i : Int, e = .returned (.int .i64 i) ∧ 0 ≤ i ∧ i ≤ 281474976713657 + 2000 * (101 - d) ∧ (i ≤ 2000 → (x.wt : Int) ≤ i) ∧ Below w.heap.size w w'
def PWgK (k : Nat) : Prop := ∀ (x : Pt), x.size ≤ k → x.small → ∀ (d : Int), 0 ≤ d → d ≤ 101 → ∀ (w : World) (sA gA A : Option Addr) (sn sc gn gc n c : Nat), PtIn w (Bl w) sA sn sc gA gn gc A n c x →
 Calls Try.prog 10 #[.agg #[.int .i64 x.kind, .slice sA sn sc, .slice gA gn gc, .slice A n c], .int .i64 d] w (PWgP w x d)
set_option maxHeartbeats 8000000 in
theorem pwg_all : ∀ k : Nat, PWgK k := by
 intro k
 induction k with
 | zero => intro x h; have := Pt.size_pos x; omega
 | succ k ih =>
  intro x hk hsmall d hd0 hd1 w sA gA A sn sc gn gc n c ha
  have hkids := Pt.size_kids x
  obtain ⟨hsx, hgx, hsl⟩ := Pt.small_kids hsmall
  have hn := ha.kids.len
  have hsm := ha.kids.small
  have hsn := ha.set.len
  have hgn := ha.signs.len
  have HP := Lib.hid (kbelow_push w (.cells #[.int .i64 x.kind, .slice sA sn sc, .slice gA gn gc, .slice A n c] 26))
  have HROW := Lib.hid (heap_alloc_new w (.cells #[.int .i64 x.kind, .slice sA sn sc, .slice gA gn gc, .slice A n c] 26))
  have HA := Lib.hid (ha.kids.on HP.out)
  have hz : (w.alloc (.cells #[.int .i64 x.kind, .slice sA sn sc, .slice gA gn gc, .slice A n c] 26)).heap.size = w.heap.size + 1 := by simp
  have hwk := Pt.wt_kids x
  rw [hsn, hgn] at hwk
  generalize hs : x.size = sz at *
  generalize hs9 : x.wt = wz at *
  generalize hl : x.kids = l at *
  have HWP : Hid (∀ (i : Int) (w' : World), 0 ≤ i → i ≤ 281474976713657 + 2000 * (101 - d) → (i ≤ 2000 → (wz : Int) ≤ i) → Below w.heap.size w w' → PWgP w x d (.returned (.int .i64 i)) w') := fun i w' h1 h2 h3 h4 => ⟨i, rfl, h1, h2, by rw [hs9]; exact h3, h4⟩
  have HKS := Lib.hid hkids
  have HWK := Lib.hid hwk
  have HK := Lib.hid hk
  have HSL := Lib.hid hsl
  rw [hsn] at hsx
  rw [hgn] at hgx
  have hs0 : (0 : Int) ≤ (sn : Int) := by omega
  have hs1 : (sn : Int) ≤ 140737488355328 := by omega
  have hg0 : (0 : Int) ≤ (gn : Int) := by omega
  have hg1 : (gn : Int) ≤ 140737488355328 := by omega
  clear ha hs hs9 hwk hl hkids hk hsl hsmall hsx hgx hsn hgn
  by_cases h100 : 100 < d
  ·have HE := Lib.hid (HWP.out 3000 _ (by decide) (by omega) (by omega) HP.out)
   clear HWP HROW HA HP HKS HK HSL
   go_enter Try.func10, Try.ntmps10
   go_wp2_with fail
   go_ret
   exact HE.out
  ·have g1 : ¬ (100 < d) := h100
   go_enter Try.func10, Try.ntmps10
   go_wp2_with fail
   generalize w.alloc (.cells #[.int .i64 x.kind, .slice sA sn sc, .slice gA gn gc, .slice A n c] 26) = W1 at *
   go_loopw [5, 6] (fun sv iv wx => ∃ (j : Nat) (S : Int), j ≤ n ∧ iv = .int .i64 j ∧ sv = .int .i64 S ∧ 1 ≤ S ∧ S ≤ 281474976713657 + 2000 * (101 - d) ∧ Hid (S ≤ 2000 → ((sn + gn + ptsWt (l.take j) + 1 : Nat) : Int) ≤ S) ∧ Hid (Below W1.heap.size W1 wx)) (fun _ iv _ => n - (intOf iv).toNat)
   case atStart => exact ⟨0, 1 + sn + gn, by omega, rfl, rfl, by omega, by omega, (by show _ → _; intro _; rw [List.take_zero]; show ((sn + gn + 0 + 1 : Nat) : Int) ≤ _; omega), Below.refl _ _⟩
   case round =>
    obtain ⟨j, S, hj, rfl, rfl, hS0, hS1, HS, HB⟩ := hrel
    have HA2 := Lib.hid (HA.out.on HB.out)
    obtain ⟨r0, r1, r2, r3⟩ := cells4 ((HB.out.block w.heap.size (by omega)).trans HROW.out)
    by_cases hlt : j < n
    ·by_cases h2 : S ≤ 2000
     ·obtain ⟨b1, o1, y, sA1, sn1, sc1, gA1, gn1, gc1, A1, n1, c1, hA1, hb1, hy, hr1, s0, s1, s2, s3⟩ := HA2.out.got hlt
      subst hA1
      have HY := Lib.hid hy
      have HR1 := Lib.hid hr1
      have hj0 : (0 : Int) ≤ (j : Int) := by omega
      have hj1 : (j : Int) < (n : Int) := by omega
      have hyk : y.size ≤ k := by have := ptsSize_mem hy; have h1 := HKS.out; have h2 := HK.out; omega
      have HC := Lib.hid (ih y hyk (ptsSmall_mem HSL.out hy) (d + 1) (by omega) (by omega) _ _ _ _ _ _ _ _ _ _ hr1)
      have HST : Hid (((sn + gn + ptsWt (l.take (j + 1)) + 1 : Nat) : Int) = ((sn + gn + ptsWt (l.take j) + 1 : Nat) : Int) + (y.wt : Int)) := by
       show _ = _
       rw [ptsWt_take hy]; omega
      clear hy hr1 hb1 HA2 hyk HR1
      go_wp2_with fail
      refine HC.out.mono ?_
      rintro en w3 ⟨T, rfl, hT0, hT1, hT2, hb3⟩
      have HS2 : Hid (S + T ≤ 2000 → ((sn + gn + ptsWt (l.take (j + 1)) + 1 : Nat) : Int) ≤ S + T) := by
       show _ → _
       intro h
       have e1 := HS.out (by omega)
       have e2 := hT2 (by omega)
       rw [HST.out]; omega
      have HB3 := Lib.hid (HB.out.trans (hb3.mono HB.out.size))
      clear hb3 hT2 HC HS HST HB HY
      go_wp2_with fail
      go_roundw
      case rel => exact ⟨j + 1, S + T, by omega, by go_num, rfl, by omega, by omega, HS2.out, HB3.out⟩
      case measure => simp [intOf]; omega
     ·have HE := Lib.hid (HWP.out S wr (by omega) hS1 (fun h => absurd h h2) (HP.out.trans (HB.out.mono HP.out.size)))
      clear HWP HA2 HS HB
      go_wp2_with fail
      go_ret
      exact HE.out
    ·obtain rfl : j = n := by omega
     have HE := Lib.hid (HWP.out S wr (by omega) hS1 (fun h => by have e1 := HS.out h; have e2 := HWK.out; rw [List.take_of_length_le (by omega)] at e1; omega) (HP.out.trans (HB.out.mono HP.out.size)))
     clear HWP HA2 HS HB
     go_wp2_with fail
     go_ret
     exact HE.out
theorem pwg_any {x : Pt} (hs : x.small) {w : World} {sA gA A : Option Addr} {sn sc gn gc n c : Nat} (ha : PtIn w (Bl w) sA sn sc gA gn gc A n c x) :
  Calls Try.prog 10 #[.agg #[.int .i64 x.kind, .slice sA sn sc, .slice gA gn gc, .slice A n c], .int .i64 0] w (PWgP w x 0) :=
 pwg_all x.size x (Nat.le_refl _) hs 0 (by decide) (by decide) w _ _ _ _ _ _ _ _ _ ha

end Go.Proofs.Ytpllgfhocedgmaa
