/- The stream of expr: fail, next, take; and what one token alone is. The stream of expr: take; what one token alone is. What one token alone is; several forms. The reader of expr: what its functions leave; member. The reader of expr: member. The reader of expr: an append of one form; parts. The reader of expr: join, form. The reader of expr: form. -/
import Derived.Test.YtdhighnbbpngpaaGreatDoorMT
import Derived.StillTailTactics
set_option maxRecDepth 100000
namespace Go.Proofs.YtdhighnbbpngpaaGreatDoor
open Go.RowKit
open Y (Nd It Ps nextP takeP failP noTok noName)

theorem yret_bool {a b : Bool} (h : a = b) : Ending.returned (.bool a) = .returned (.bool b) := by rw [h]
set_option maxHeartbeats 1000000 in
theorem index_int {w : World} {B : Nat} {A : Option Addr} {n c : Nat} {ks : List Int} (h : RdK .i64 w B A n c ks) (x : Int) :
    Calls Tryz.prog 148 #[.slice A n c, .int .i64 x] w fun e w' => ∃ i : Int, e = .returned (.int .i64 i) ∧ decide (0 ≤ i) = ks.contains x ∧ w = w' := by
  have HH := Lib.hid h
  have hs := h.small
  clear h
  go_enter Tryz.func148, Tryz.ntmps148
  go_wp2_with fail
  go_loopw [8] (fun iv wx => ∃ k : Nat, k ≤ n ∧ iv = .int .i64 k ∧ w = wx ∧ Hid (∀ j y, j < k → ks[j]? = some y → y ≠ x)) (fun iv _ => n - (intOf iv).toNat)
  case atStart => exact ⟨0, by omega, rfl, by trivial, fun j y hj => by omega⟩
  case round =>
    obtain ⟨k, hk, rfl, rfl, HD⟩ := hrel
    by_cases hlt : k < n
    · obtain ⟨b, off, y, rfl, hb, hy, hc⟩ := HH.out.got hlt
      have HY := Lib.hid hy
      clear hy hb
      by_cases he : x = y
      · subst he
        have HF : Hid (ks.contains x = true) := List.contains_iff_mem.2 (List.mem_of_getElem? HY.out)
        clear HD
        go_wp2_with fail
        go_ret
        exact ⟨k, rfl, by rw [HF.out]; simp, rfl⟩
      · have HD2 : Hid (∀ j z, j < k + 1 → ks[j]? = some z → z ≠ x) := fun j z hj hz => by
          rcases Nat.lt_or_ge j k with h1 | h1
          · exact HD.out j z h1 hz
          · obtain rfl : j = k := by omega
            rw [HY.out] at hz; injection hz with hz; subst hz; exact fun h => he h.symm
        have g1 : (x == y) = false := by rw [beq_eq_false_iff_ne]; exact he
        clear HD
        go_wp2_with fail
        go_roundw
        case rel => exact ⟨k + 1, by omega, by go_num, by trivial, HD2.out⟩
        case measure => simp [intOf]; omega
    · obtain rfl : k = n := by omega
      have HF : Hid (ks.contains x = false) := by
        show _ = _
        rw [← Bool.not_eq_true, List.contains_iff_mem]
        intro h
        obtain ⟨j, hj⟩ := List.getElem?_of_mem h
        exact HD.out j x (by have := (List.getElem?_eq_some_iff.1 hj).1; rw [HH.out.len] at this; exact this) hj rfl
      clear HD
      go_wp2_with fail
      go_ret
      exact ⟨-1, rfl, by rw [HF.out]; rfl, rfl⟩
theorem contains_int {w : World} {B : Nat} {A : Option Addr} {n c : Nat} {ks : List Int} (h : RdK .i64 w B A n c ks) (x : Int) :
    Calls Tryz.prog 118 #[.slice A n c, .int .i64 x] w fun e w' => e = .returned (.bool (ks.contains x)) ∧ w = w' := by
  have HC := Lib.hid (index_int h x)
  clear h
  go_enter Tryz.func118, Tryz.ntmps118
  go_wp2_with fail
  refine HC.out.mono ?_
  rintro e w' ⟨i, rfl, hi, rfl⟩
  have HI := Lib.hid hi
  clear hi
  go_wp2_with fail
  go_ret
  exact ⟨yret_bool HI.out, rfl⟩
section
variable {b : Nat} {w : World} {e : Int} {o : Nat} {s : Ps} {A : Option Addr} {n c : Nat}
set_option maxHeartbeats 1000000 in
theorem snext_any (h : Rds b w e o s A n c) {B : Nat} {Ak : Option Addr} {nk ck : Nat} {ks : List Int} (hk : RdK .i64 w B Ak nk ck ks) :
    Calls Tryz.prog 78 #[.pointer (some ⟨b, 0, none⟩), .slice Ak nk ck] w fun e w' => e = .returned (.bool (nextP ks s)) ∧ w = w' := by
  obtain ⟨c0, c1, c2, c3, c4⟩ := h.cells
  have hrd := h.rd
  have hfew := h.few
  cases hs : s.toks with
  | nil =>
    rw [hs] at hrd
    have hn : n = 0 := hrd.len.symm
    subst hn
    have HF : Hid (nextP ks s = false) := by show _ = _; unfold nextP; rw [hs]
    clear h hrd hs hk
    go_enter Tryz.func78, Tryz.ntmps78
    go_wp2_with fail
    go_ret
    exact ⟨yret_bool HF.out.symm, rfl⟩
  | cons t u =>
    rw [hs] at hrd hfew
    obtain ⟨b2, off, rfl, hb2, hn, t0, t1, t2, t3, t4⟩ := hrd.first
    simp only [List.length_cons] at hfew
    subst hn
    have HF : Hid (nextP ks s = ks.contains t.kind) := by show _ = _; unfold nextP; rw [hs]
    have HC := Lib.hid (contains_int hk t.kind)
    have g0 : decide (0 < ((u.length + 1 : Nat) : Int)) = true := by simp
    have g1 : (0 : Int) < ((u.length + 1 : Nat) : Int) := by omega
    generalize u.length + 1 = m at *
    generalize t.kind = tk at *
    generalize ks.contains tk = kb at *
    clear h hrd hs hk
    go_enter Tryz.func78, Tryz.ntmps78
    go_wp2_with fail
    refine HC.out.mono ?_
    rintro e w' ⟨rfl, rfl⟩
    go_wp2_with fail
    go_ret
    exact ⟨yret_bool HF.out.symm, rfl⟩
theorem Rds.stop {w' : World} {a y : Int} (hb : w'.heap[b]? = some (.cells #[.slice none 0 0, .int .i64 e, .int .i64 a, .int .i64 y, .int .i64 o] 103 (0, 0))) (hy : y ≠ 0) : Rds b w' e o (.dead a y) none 0 0 :=
  ⟨hb, RdT.nil _ _, fun a' y' h => by injection h with h1 h2; subst h2; exact hy, by simp [Y.Ps.toks]⟩
def SayP (b : Nat) (w : World) (e : Int) (o : Nat) (s : Ps) (en : Ending) (w' : World) : Prop := en = .returned (.tuple #[]) ∧ RdE b w' e o s ∧ Fe b w w'
set_option maxHeartbeats 1000000 in
theorem sfail_any (h : Rds b w e o s A n c) {y : Int} (hy : y ≠ 0) :
    Calls Tryz.prog 76 #[.pointer (some ⟨b, 0, none⟩), .int .i64 y] w (SayP b w e o (failP e y s)) := by
  obtain ⟨c0, c1, c2, c3, c4⟩ := h.cells
  have f0 := h.fr 0
  have f2 := h.fr 2
  have f3 := h.fr 3
  have HB := Lib.hid h.blk
  cases s with
  | dead a y0 =>
    have h0 : y0 ≠ 0 := h.ok _ _ rfl
    have HE : Hid (SayP b w e o (failP e y (.dead a y0)) (.returned (.tuple #[])) w) := ⟨rfl, ⟨A, n, c, h⟩, Fe.refl _ _⟩
    have g1 : (y0 != 0) = true := by simpa using h0
    replace c3 : w.cell? ⟨b, 3, none⟩ = some (.int .i64 y0) := c3
    clear h c0 c1 c2 c4 f0 f2 f3
    go_enter Tryz.func76, Tryz.ntmps76
    go_wp2_with fail
    exact bodyPost_ret (v := .tuple #[]) (by simp [results, Tryz.results76, go_sem]) rfl HE.out
  | live ts =>
    replace c2 : w.cell? ⟨b, 2, none⟩ = some (.int .i64 0) := c2
    replace c3 : w.cell? ⟨b, 3, none⟩ = some (.int .i64 0) := c3
    cases ts with
    | nil =>
      have hn : n = 0 := by have := h.rd.len; simp [Y.Ps.toks] at this; exact this.symm
      subst hn
      have HE : Hid (SayP b w e o (failP e y (.live [])) (.returned (.tuple #[])) (((w.setCell ⟨b, 2, none⟩ (.int .i64 e)).setCell ⟨b, 3, none⟩ (.int .i64 5)).setCell ⟨b, 0, none⟩ (.slice none 0 0))) :=
        ⟨rfl, ⟨none, 0, 0, Rds.stop (heap_setCell_same _ _ _ _ _ _ (heap_setCell_same _ _ _ _ _ _ (heap_setCell_same _ _ _ _ _ _ HB.out))) (by decide)⟩, (((Fe.refl b w).set (.inl rfl) _ _).set (.inl rfl) _ _).set (.inl rfl) _ _⟩
      clear h c4
      go_enter Tryz.func76, Tryz.ntmps76
      go_wp2_with fail
      exact bodyPost_ret (v := .tuple #[]) (by simp [results, Tryz.results76, go_sem]) rfl HE.out
    | cons t u =>
      obtain ⟨b2, off, rfl, hb2, hn, t0, t1, t2, t3, t4⟩ := RdT.first (show RdT w b A n c (t :: u) from h.rd)
      have hfew := h.few
      simp only [Y.Ps.toks, List.length_cons] at hfew
      subst hn
      have hne : b2 ≠ b := by omega
      have HE : Hid (SayP b w e o (failP e y (.live (t :: u))) (.returned (.tuple #[])) (((((w.setCell ⟨b, 2, none⟩ (.int .i64 e)).setCell ⟨b, 3, none⟩ (.int .i64 5)).setCell ⟨b, 2, none⟩ (.int .i64 t.pos)).setCell ⟨b, 3, none⟩ (.int .i64 y)).setCell ⟨b, 0, none⟩ (.slice none 0 0))) :=
        ⟨rfl, ⟨none, 0, 0, Rds.stop (heap_setCell_same _ _ _ _ _ _ (heap_setCell_same _ _ _ _ _ _ (heap_setCell_same _ _ _ _ _ _ (heap_setCell_same _ _ _ _ _ _ (heap_setCell_same _ _ _ _ _ _ HB.out))))) hy⟩, (((((Fe.refl b w).set (.inl rfl) _ _).set (.inl rfl) _ _).set (.inl rfl) _ _).set (.inl rfl) _ _).set (.inl rfl) _ _⟩
      have g0 : decide (0 < ((u.length + 1 : Nat) : Int)) = true := by simp
      have g1 : (0 : Int) < ((u.length + 1 : Nat) : Int) := by omega
      generalize u.length + 1 = m at *
      generalize t.pos = tp at *
      clear h c4 t0 t1 t2 t3
      go_enter Tryz.func76, Tryz.ntmps76
      go_wp2_with fail
      exact bodyPost_ret (v := .tuple #[]) (by simp [results, Tryz.results76, go_sem]) rfl HE.out
end
end Go.Proofs.YtdhighnbbpngpaaGreatDoor
namespace Go.Proofs.YtdhighnbbpngpaaGreatDoor
open Go.RowKit
open Y (Nd It Ps nextP takeP failP noTok noName)

def Tok.v (t : Tok) : Value := .agg #[.int .i64 t.kind, .string (strOfNums t.text), .int .i64 t.low, .int .i64 t.high, .int .i64 t.pos]
theorem noTok_v : noTok.v = .agg #[.int .i64 0, .string { data := #[] }, .int .i64 0, .int .i64 0, .int .i64 0] := rfl
/-- Five cells are stored. -/
def set5 (w : World) (N : Nat) (a0 a1 a2 a3 a4 : Value) : World := ((((w.setCell ⟨N, 0, none⟩ a0).setCell ⟨N, 1, none⟩ a1).setCell ⟨N, 2, none⟩ a2).setCell ⟨N, 3, none⟩ a3).setCell ⟨N, 4, none⟩ a4
theorem set5_row {w : World} {N : Nat} {x0 x1 x2 x3 x4 : Value} {t : TypeId} (h : w.heap[N]? = some (.cells #[x0, x1, x2, x3, x4] t (0, 0))) (a0 a1 a2 a3 a4 : Value) : (set5 w N a0 a1 a2 a3 a4).heap[N]? = some (.cells #[a0, a1, a2, a3, a4] t (0, 0)) :=
  heap_setCell_same _ _ _ _ _ _ (heap_setCell_same _ _ _ _ _ _ (heap_setCell_same _ _ _ _ _ _ (heap_setCell_same _ _ _ _ _ _ (heap_setCell_same _ _ _ _ _ _ h))))
theorem set5_size (w : World) (N : Nat) (a0 a1 a2 a3 a4 : Value) : (set5 w N a0 a1 a2 a3 a4).heap.size = w.heap.size := by simp [set5]
theorem set5_block (w : World) (N : Nat) (a0 a1 a2 a3 a4 : Value) {i : Nat} (hi : i ≠ N) : (set5 w N a0 a1 a2 a3 a4).heap[i]? = w.heap[i]? :=
  (Below.heap_setCell _ _ _ _ hi).trans ((Below.heap_setCell _ _ _ _ hi).trans ((Below.heap_setCell _ _ _ _ hi).trans ((Below.heap_setCell _ _ _ _ hi).trans (Below.heap_setCell _ _ _ _ hi))))
theorem set5_alloc (w : World) (N : Nat) (o : Obj) (hN : N < w.heap.size) (a0 a1 a2 a3 a4 : Value) : (set5 w N a0 a1 a2 a3 a4).alloc o = set5 (w.alloc o) N a0 a1 a2 a3 a4 := by
  unfold set5
  rw [World.setCell_alloc_past _ _ _ _ hN, World.setCell_alloc_past _ _ _ _ (by simp; omega), World.setCell_alloc_past _ _ _ _ (by simp; omega), World.setCell_alloc_past _ _ _ _ (by simp; omega), World.setCell_alloc_past _ _ _ _ (by simp; omega)]
theorem Fe.set5 {b : Nat} {a c : World} (h : Fe b a c) {g : Nat} (hg : g = b ∨ a.heap.size ≤ g) (a0 a1 a2 a3 a4 : Value) : Fe b a (set5 c g a0 a1 a2 a3 a4) :=
  ((((h.set hg _ _).set hg _ _).set hg _ _).set hg _ _).set hg _ _
theorem cells5 {w : World} {N : Nat} {x0 x1 x2 x3 x4 : Value} {t : TypeId} (h : w.heap[N]? = some (.cells #[x0, x1, x2, x3, x4] t (0, 0))) :
    w.cell? ⟨N, 0, none⟩ = some x0 ∧ w.cell? ⟨N, 1, none⟩ = some x1 ∧ w.cell? ⟨N, 2, none⟩ = some x2 ∧ w.cell? ⟨N, 3, none⟩ = some x3 ∧ w.cell? ⟨N, 4, none⟩ = some x4 := by
  refine ⟨?_, ?_, ?_, ?_, ?_⟩ <;> (rw [cell_of_row _ _ _ _ _ _ h]; rfl)
theorem Rds.other5 {b : Nat} {w : World} {e : Int} {o : Nat} {s : Ps} {A : Option Addr} {n c : Nat} (h : Rds b w e o s A n c) {g : Nat} (hg : b < g) (a0 a1 a2 a3 a4 : Value) : Rds b (set5 w g a0 a1 a2 a3 a4) e o s A n c :=
  ((((h.other hg _ _).other hg _ _).other hg _ _).other hg _ _).other hg _ _
theorem RdE.other5 {b : Nat} {w : World} {e : Int} {o : Nat} {s : Ps} (h : RdE b w e o s) {g : Nat} (hg : b < g) (a0 a1 a2 a3 a4 : Value) : RdE b (set5 w g a0 a1 a2 a3 a4) e o s := by
  obtain ⟨A, n, c, h⟩ := h
  exact ⟨A, n, c, h.other5 hg _ _ _ _ _⟩
/-- Tokens that are read: the next one is there. -/
theorem next_true {ks : List Int} {s : Ps} (h : nextP ks s = true) : ∃ t u, s = .live (t :: u) ∧ ks.contains t.kind = true := by
  rcases s with (_ | ⟨t, u⟩) | ⟨a, y⟩
  · simp at h
  · exact ⟨t, u, rfl, h⟩
  · simp at h
theorem take_yes {e : Int} {ks : List Int} {t : Tok} {u : List Tok} (h : ks.contains t.kind = true) : takeP e ks (.live (t :: u)) = (t, .live u) := by rw [Y.take_cons, if_pos h]
theorem take_no {e : Int} {ks : List Int} {s : Ps} (h : nextP ks s = false) : takeP e ks s = (noTok, failP e 4 s) := by
  rcases s with (_ | ⟨t, u⟩) | ⟨a, y⟩
  · rfl
  · rw [Y.take_cons]; rw [Y.next_cons] at h; rw [if_neg (by rw [h]; decide)]; rfl
  · rfl
section
variable {b : Nat} {w : World} {e : Int} {o : Nat} {s : Ps} {A : Option Addr} {n c : Nat}
/-- What take leaves. -/
def TakeP (b : Nat) (w : World) (e : Int) (o : Nat) (ks : List Int) (s : Ps) (en : Ending) (w' : World) : Prop := en = .returned (takeP e ks s).1.v ∧ RdE b w' e o (takeP e ks s).2 ∧ Fe b w w'
theorem heap_push (w : World) (o : Obj) (i : Nat) (hi : i < w.heap.size) : (w.alloc o).heap[i]? = w.heap[i]? := (kbelow_push w o).block i hi
set_option maxHeartbeats 1000000 in
theorem stake_any (h : Rds b w e o s A n c) {Ak : Option Addr} {nk ck : Nat} {ks : List Int} (hk : RdK .i64 w w.heap.size Ak nk ck ks) :
    Calls Tryz.prog 79 #[.pointer (some ⟨b, 0, none⟩), .slice Ak nk ck] w (TakeP b w e o ks s) := by
  have HH := Lib.hid h
  have HK := Lib.hid hk
  have hlt := h.lt
  clear h hk
  go_enter Tryz.func79, Tryz.ntmps79
  go_wp2_with fail
  have hN := heap_alloc_new w (.cells #[.int .i64 0, .string { data := #[] }, .int .i64 0, .int .i64 0, .int .i64 0] 95)
  have HB1 := Lib.hid (kbelow_push w (.cells #[.int .i64 0, .string { data := #[] }, .int .i64 0, .int .i64 0, .int .i64 0] 95))
  generalize hW1 : w.alloc (.cells #[.int .i64 0, .string { data := #[] }, .int .i64 0, .int .i64 0, .int .i64 0] 95) = W1 at *
  have hz : W1.heap.size = w.heap.size + 1 := by rw [← hW1]; simp
  have HR1 := Lib.hid (HH.out.below HB1.out)
  have HK1 := Lib.hid (HK.out.on HB1.out)
  have HN := Lib.hid hN
  generalize hNN : w.heap.size = N at *
  clear hW1 hN
  refine (snext_any HR1.out HK1.out).mono ?_
  rintro en w' ⟨rfl, rfl⟩
  cases hx : nextP ks s with
  | false =>
    have hsay := Lib.hid (sfail_any HR1.out (y := 4) (by decide))
    go_wp2_with fail
    refine hsay.out.mono ?_
    rintro en w2 ⟨rfl, hr2, hf2⟩
    have HN2 : Hid (w2.heap[N]? = _) := (hf2.block N (by omega) (by omega)).trans HN.out
    have f0 : ∀ j, w2.frozen? ⟨N, j, none⟩ = false := fun j => frozen_of_row _ _ _ _ _ HN2.out
    have k0 : w2.cell? ⟨N, 0, none⟩ = some (.int .i64 0) := by rw [cell_of_row _ _ _ _ _ _ HN2.out]; rfl
    have k1 : w2.cell? ⟨N, 1, none⟩ = some (.string { data := #[] }) := by rw [cell_of_row _ _ _ _ _ _ HN2.out]; rfl
    have k2 : w2.cell? ⟨N, 2, none⟩ = some (.int .i64 0) := by rw [cell_of_row _ _ _ _ _ _ HN2.out]; rfl
    have k3 : w2.cell? ⟨N, 3, none⟩ = some (.int .i64 0) := by rw [cell_of_row _ _ _ _ _ _ HN2.out]; rfl
    have k4 : w2.cell? ⟨N, 4, none⟩ = some (.int .i64 0) := by rw [cell_of_row _ _ _ _ _ _ HN2.out]; rfl
    have HE : Hid (TakeP b w e o ks s (.returned noTok.v) (set5 w2 N (.int .i64 0) (.string { data := #[] }) (.int .i64 0) (.int .i64 0) (.int .i64 0))) := by
      refine ⟨by rw [take_no hx], ?_, ((Fe.of_below (hNN ▸ HB1.out)).trans hf2).set5 (.inr (by omega)) _ _ _ _ _⟩
      rw [take_no hx]
      exact hr2.other5 (by omega) _ _ _ _ _
    have HQ := Lib.hid (set5_row HN2.out (.int .i64 0) (.string { data := #[] }) (.int .i64 0) (.int .i64 0) (.int .i64 0))
    clear hr2 hf2
    go_wp2_with fail
    change bodyPost _ _ _ _ _ (set5 w2 N (.int .i64 0) (.string { data := #[] }) (.int .i64 0) (.int .i64 0) (.int .i64 0))
    generalize set5 w2 N (.int .i64 0) (.string { data := #[] }) (.int .i64 0) (.int .i64 0) (.int .i64 0) = w3 at HE HQ ⊢
    obtain ⟨q0, q1, q2, q3, q4⟩ := cells5 HQ.out
    exact bodyPost_ret (v := noTok.v) (by simp [noTok_v, results, Tryz.results79, go_sem, q0, q1, q2, q3, q4]) rfl HE.out
  | true =>
    obtain ⟨t, u, rfl, hkt⟩ := next_true hx
    have hrd := HR1.out.rd
    have hfew := HR1.out.few
    simp only [Y.Ps.toks, List.length_cons] at hfew
    obtain ⟨b2, off, hA, hb2, hn, t0, t1, t2, t3, t4⟩ := RdT.first (show RdT W1 b A n c (t :: u) from hrd)
    have htl := RdT.tail (show RdT W1 b A n c (t :: u) from hrd)
    have hcap := hrd.cap
    obtain ⟨c0, _, _, _, _⟩ := HR1.out.cells
    obtain ⟨k0, k1, k2, k3, k4⟩ := cells5 HN.out
    have fN : ∀ j, W1.frozen? ⟨N, j, none⟩ = false := fun j => frozen_of_row _ _ _ _ _ HN.out
    have HOK := Lib.hid HR1.out.ok
    subst hA hn
    have f0 := HR1.out.fr 0
    have hblk := Lib.hid HR1.out.blk
    have HTL := Lib.hid htl
    generalize hv : strOfNums t.text = tx at *
    have HV := Lib.hid hv
    have hend : ∀ (A' : Option Addr) (n' c' : Nat), RdT W1 b A' n' c' u → Hid (TakeP b w e o ks (.live (t :: u)) (.returned t.v) ((set5 (W1.setCell ⟨b, 0, none⟩ (.slice A' n' c')) N (.int .i64 t.kind) (.string tx) (.int .i64 t.low) (.int .i64 t.high) (.int .i64 t.pos)).alloc (.cells #[.int .i64 t.kind, .string tx, .int .i64 t.low, .int .i64 t.high, .int .i64 t.pos] 95))) ∧
        Hid (((set5 (W1.setCell ⟨b, 0, none⟩ (.slice A' n' c')) N (.int .i64 t.kind) (.string tx) (.int .i64 t.low) (.int .i64 t.high) (.int .i64 t.pos)).alloc (.cells #[.int .i64 t.kind, .string tx, .int .i64 t.low, .int .i64 t.high, .int .i64 t.pos] 95)).heap[N]? = some (.cells #[.int .i64 t.kind, .string tx, .int .i64 t.low, .int .i64 t.high, .int .i64 t.pos] 95 (0, 0))) := by
      intro A' n' c' ht
      have hN3 : (W1.setCell ⟨b, 0, none⟩ (.slice A' n' c')).heap[N]? = _ := (Below.heap_setCell _ _ _ _ (by show N ≠ b; omega)).trans HN.out
      have hN4 := set5_row hN3 (.int .i64 t.kind) (.string tx) (.int .i64 t.low) (.int .i64 t.high) (.int .i64 t.pos)
      have hf : Fe b w (set5 (W1.setCell ⟨b, 0, none⟩ (.slice A' n' c')) N (.int .i64 t.kind) (.string tx) (.int .i64 t.low) (.int .i64 t.high) (.int .i64 t.pos)) := ((Fe.of_below (hNN ▸ HB1.out)).set (.inl rfl) _ _).set5 (.inr (by omega)) _ _ _ _ _
      have hr : RdE b (set5 (W1.setCell ⟨b, 0, none⟩ (.slice A' n' c')) N (.int .i64 t.kind) (.string tx) (.int .i64 t.low) (.int .i64 t.high) (.int .i64 t.pos)) e o (.live u) := by
        refine RdE.other5 ⟨A', n', c', ⟨?_, (ht.keep fun p hp' => ?_), (fun _ _ h => by cases h), (by simp only [Y.Ps.toks]; omega)⟩⟩ (by omega) _ _ _ _ _
        · rw [heap_setCell_same _ _ _ _ _ _ hblk.out]; rfl
        · exact World.cell?_of_block (w := W1) (Below.heap_setCell _ _ _ _ (by show p.block ≠ b; omega))
      have hs : N < (set5 (W1.setCell ⟨b, 0, none⟩ (.slice A' n' c')) N (.int .i64 t.kind) (.string tx) (.int .i64 t.low) (.int .i64 t.high) (.int .i64 t.pos)).heap.size := by rw [set5_size]; simp; omega
      generalize set5 (W1.setCell ⟨b, 0, none⟩ (.slice A' n' c')) N (.int .i64 t.kind) (.string tx) (.int .i64 t.low) (.int .i64 t.high) (.int .i64 t.pos) = W4 at hN4 hf hr hs ⊢
      obtain ⟨A5, n5, c5, hr⟩ := hr
      refine ⟨⟨by rw [take_yes hkt], ?_, hf.trans (Fe.of_below (kbelow_push W4 _))⟩, (heap_push W4 _ N hs).trans hN4⟩
      rw [take_yes hkt]
      exact ⟨A5, n5, c5, hr.below (kbelow_push W4 _)⟩
    have HEND := Lib.hid hend
    clear hend htl hrd
    have hs1 : ((u.length + 1 : Nat) : Int) - 1 = (u.length : Nat) := by omega
    by_cases hc1 : c = 1
    · subst hc1
      obtain rfl : u = [] := List.eq_nil_of_length_eq_zero (by omega)
      obtain ⟨HE, HQ⟩ := HEND.out _ _ _ HTL.out
      rw [if_pos rfl] at HE HQ
      simp only [List.length_nil, Nat.zero_add, Nat.sub_self] at HE HQ
      clear HEND HTL
      go_wp2_with fail
      change bodyPost _ _ _ _ _ ((set5 (W1.setCell ⟨b, 0, none⟩ (.slice (some ⟨b2, off, none⟩) 0 0)) N (.int .i64 t.kind) (.string tx) (.int .i64 t.low) (.int .i64 t.high) (.int .i64 t.pos)).alloc (.cells #[.int .i64 t.kind, .string tx, .int .i64 t.low, .int .i64 t.high, .int .i64 t.pos] 95))
      generalize ((set5 (W1.setCell ⟨b, 0, none⟩ (.slice (some ⟨b2, off, none⟩) 0 0)) N (.int .i64 t.kind) (.string tx) (.int .i64 t.low) (.int .i64 t.high) (.int .i64 t.pos)).alloc (.cells #[.int .i64 t.kind, .string tx, .int .i64 t.low, .int .i64 t.high, .int .i64 t.pos] 95)) = w3 at HE HQ ⊢
      obtain ⟨q0, q1, q2, q3, q4⟩ := cells5 HQ.out
      have e : t.v = .agg #[.int .i64 t.kind, .string tx, .int .i64 t.low, .int .i64 t.high, .int .i64 t.pos] := by unfold Tok.v; rw [HV.out]
      exact bodyPost_ret (v := t.v) (by simp [e, results, Tryz.results79, go_sem, q0, q1, q2, q3, q4]) rfl HE.out
    · have hc2 : ¬ (c - 1 = 0) := by omega
      obtain ⟨HE, HQ⟩ := HEND.out _ _ _ HTL.out
      rw [if_neg hc1] at HE HQ
      simp only [Nat.add_sub_cancel, Option.map_some, kadd_none] at HE HQ
      clear HEND HTL
      go_wp2_with fail
      change bodyPost _ _ _ _ _ ((set5 (W1.setCell ⟨b, 0, none⟩ (.slice (some ⟨b2, off + 5, none⟩) u.length (c - 1))) N (.int .i64 t.kind) (.string tx) (.int .i64 t.low) (.int .i64 t.high) (.int .i64 t.pos)).alloc (.cells #[.int .i64 t.kind, .string tx, .int .i64 t.low, .int .i64 t.high, .int .i64 t.pos] 95))
      generalize ((set5 (W1.setCell ⟨b, 0, none⟩ (.slice (some ⟨b2, off + 5, none⟩) u.length (c - 1))) N (.int .i64 t.kind) (.string tx) (.int .i64 t.low) (.int .i64 t.high) (.int .i64 t.pos)).alloc (.cells #[.int .i64 t.kind, .string tx, .int .i64 t.low, .int .i64 t.high, .int .i64 t.pos] 95)) = w3 at HE HQ ⊢
      obtain ⟨q0, q1, q2, q3, q4⟩ := cells5 HQ.out
      have e : t.v = .agg #[.int .i64 t.kind, .string tx, .int .i64 t.low, .int .i64 t.high, .int .i64 t.pos] := by unfold Tok.v; rw [HV.out]
      exact bodyPost_ret (v := t.v) (by simp [e, results, Tryz.results79, go_sem, q0, q1, q2, q3, q4]) rfl HE.out
end
end Go.Proofs.YtdhighnbbpngpaaGreatDoor
namespace Go.Proofs.YtdhighnbbpngpaaGreatDoor
open Go.RowKit
open Y (Nd It Ps nextP takeP failP noTok noName)

theorem kind_any (t : Tok) (w : World) : Calls Tryz.prog 147 #[t.v] w fun e w' => e = .returned (.int .i64 (Y.kindP t.kind)) ∧ Below w.heap.size w w' := by
  have HB := Lib.hid (kbelow_push w (.cells #[.int .i64 t.kind, .string (strOfNums t.text), .int .i64 t.low, .int .i64 t.high, .int .i64 t.pos] 95))
  unfold Tok.v
  generalize strOfNums t.text = tx at *
  unfold Y.kindP
  generalize t.kind = k at *
  by_cases h1 : k = 9
  · subst h1
    go_enter Tryz.func147, Tryz.ntmps147
    go_wp2
    go_ret
    exact ⟨rfl, HB.out⟩
  · rw [if_neg h1]
    have g1 : (k == 9) = false := by simpa using h1
    by_cases h2 : k = 10
    · subst h2
      go_enter Tryz.func147, Tryz.ntmps147
      go_wp2
      go_ret
      exact ⟨rfl, HB.out⟩
    · rw [if_neg h2]
      have g2 : (k == 10) = false := by simpa using h2
      by_cases h3 : k = 11
      · subst h3
        go_enter Tryz.func147, Tryz.ntmps147
        go_wp2
        go_ret
        exact ⟨rfl, HB.out⟩
      · rw [if_neg h3]
        have g3 : (k == 11) = false := by simpa using h3
        by_cases h4 : k = 16
        · subst h4
          go_enter Tryz.func147, Tryz.ntmps147
          go_wp2
          go_ret
          exact ⟨rfl, HB.out⟩
        · rw [if_neg h4]
          have g4 : (k == 16) = false := by simpa using h4
          go_enter Tryz.func147, Tryz.ntmps147
          go_wp2
          go_ret
          exact ⟨rfl, HB.out⟩
/-- A form is handed back; what lay there before is as it was. -/
def NewN (w : World) (x : Nd) (e : Ending) (w' : World) : Prop := ∃ v, e = .returned v ∧ IsN w' (In w.heap.size w'.heap.size) v x ∧ Below w.heap.size w w'
def leafV (x : Nd) : Value := .agg #[.int .i64 x.kind, .string x.name, .int .i64 x.low, .int .i64 x.high, .slice none 0 0]
theorem leaf_is (w : World) (S : Nat → Prop) (x : Nd) (h : x.kids = []) : IsN w S (leafV x) x := ⟨none, 0, 0, rfl, by rw [h]; exact RdN.nil _ _⟩
set_option maxHeartbeats 1000000 in
theorem single_any (t : Tok) (w : World) : Calls Tryz.prog 176 #[t.v] w fun e w' => e = .returned (leafV (Y.single t)) ∧ Below w.heap.size w w' := by
  unfold Tok.v
  unfold Y.single
  generalize strOfNums t.text = tx at *
  by_cases h1 : t.kind = 1
  · rw [if_pos h1, h1]
    go_enter Tryz.func176, Tryz.ntmps176
    go_wp2
    refine bodyPost_ret (v := leafV (.mk 2 tx 0 0 [])) ?_ rfl ⟨rfl, (kbelow_push w _).alloc (by simp) _⟩
    simp [noName, leafV, Nd.kind, Nd.name, Nd.low, Nd.high, results, Tryz.results176, go_sem]
  · rw [if_neg h1]
    have g1 : (t.kind == 1) = false := by simpa using h1
    by_cases h2 : t.kind = 15
    · rw [if_pos h2, h2]
      go_enter Tryz.func176, Tryz.ntmps176
      go_wp2
      refine bodyPost_ret (v := leafV (.mk 5 noName t.low t.high [])) ?_ rfl ⟨rfl, (kbelow_push w _).alloc (by simp) _⟩
      simp [noName, leafV, Nd.kind, Nd.name, Nd.low, Nd.high, results, Tryz.results176, go_sem]
    · rw [if_neg h2]
      have g2 : (t.kind == 15) = false := by simpa using h2
      go_enter Tryz.func176, Tryz.ntmps176
      go_wp2
      refine bodyPost_ret (v := leafV (.mk 3 noName 0 0 [])) ?_ rfl ⟨rfl, (kbelow_push w _).alloc (by simp) _⟩
      simp [noName, leafV, Nd.kind, Nd.name, Nd.low, Nd.high, results, Tryz.results176, go_sem]
/-- A value's five cells. -/
theorem IsN.parts {w : World} {S : Nat → Prop} {v : Value} {x : Nd} (h : IsN w S v x) : ∃ A n c, v = .agg #[.int .i64 x.kind, .string x.name, .int .i64 x.low, .int .i64 x.high, .slice A n c] ∧ RdN w S A n c x.kids := h
set_option maxHeartbeats 1000000 in
theorem several_any (k : Int) {w : World} {S : Nat → Prop} {A : Option Addr} {n c : Nat} {l : List Nd} (h : RdN w S A n c l) (hS : ∀ b, S b → b < w.heap.size) :
    Calls Tryz.prog 80 #[.int .i64 k, .slice A n c] w fun e w' => ∃ v, e = .returned v ∧ IsN w' S v (Y.several k l) ∧ Below w.heap.size w w' := by
  have hn := h.small
  by_cases h1 : n = 1
  · subst h1
    obtain ⟨b, off, x, A', n', c', rfl, hb, hx, hr, t0, t1, t2, t3, t4⟩ := h.got (i := 0) (by omega)
    have hl : l = [x] := by
      have := h.len
      match l, this with
      | [y], _ => simp at hx; rw [hx]
    subst hl
    simp only [Nat.zero_mul, Nat.add_zero] at t0 t1 t2 t3 t4
    have hbw := hS b hb
    have HR := Lib.hid hr
    clear h hx hr
    go_enter Tryz.func80, Tryz.ntmps80
    go_wp2
    refine bodyPost_ret (v := .agg #[.int .i64 x.kind, .string x.name, .int .i64 x.low, .int .i64 x.high, .slice A' n' c']) ?_ rfl ⟨_, rfl, ⟨A', n', c', rfl, HR.out.keep (fun _ h => h) fun p hp => World.cell?_alloc_lt w _ p (hS _ hp)⟩, kbelow_push w _⟩
    simp [results, Tryz.results80, go_sem]
  · have e : Y.several k l = .mk k noName 0 0 l := by
      unfold Y.several
      split
      · exact absurd h.len (by simp; omega)
      · rfl
    rw [e]
    have g1 : ((n : Int) == 1) = false := by simp; omega
    have HR := Lib.hid h
    clear h
    go_enter Tryz.func80, Tryz.ntmps80
    go_wp2
    refine bodyPost_ret (v := .agg #[.int .i64 k, .string noName, .int .i64 0, .int .i64 0, .slice A n c]) ?_ rfl ⟨_, rfl, ⟨A, n, c, rfl, HR.out.keep (fun _ h => h) fun p hp => World.cell?_alloc_lt w _ p (hS _ hp)⟩, kbelow_push w _⟩
    simp [noName, results, Tryz.results80, go_sem]
end Go.Proofs.YtdhighnbbpngpaaGreatDoor
namespace Go.Proofs.YtdhighnbbpngpaaGreatDoor
open Go.RowKit
open Y (Nd It Ps nextP takeP failP noTok noName formP orsP joinP piecesP pieceP bareP setP partsP partP heldP memberP)

/-- What a function leaves that reads a form. -/
def FormQ (b : Nat) (w : World) (e : Int) (o : Nat) (r : Nd × Ps) (en : Ending) (w' : World) : Prop := ∃ v, en = .returned v ∧ IsN w' (In w.heap.size w'.heap.size) v r.1 ∧ RdE b w' e o r.2 ∧ Fe b w w'
/-- What a function leaves that reads several. -/
def PartsQ (b : Nat) (w : World) (e : Int) (o : Nat) (r : List Nd × Ps) (en : Ending) (w' : World) : Prop := ∃ A c, en = .returned (.slice A r.1.length c) ∧ RdN w' (In w.heap.size w'.heap.size) A r.1.length c r.1 ∧ RdE b w' e o r.2 ∧ Fe b w w'
/-- What may be read, with up to L tokens. -/
def Can (b : Nat) (w : World) (e : Int) (o : Nat) (s : Ps) (L : Nat) : Prop := RdE b w e o s ∧ o + s.toks.length ≤ 5000 ∧ s.toks.length ≤ L
def CSet (L : Nat) : Prop := ∀ (b : Nat) (w : World) (e : Int) (o : Nat) (s : Ps), Can b w e o s L → nextP [13] s = true → ∀ m, 10 * s.toks.length + 4 ≤ m → Calls Tryz.prog 175 #[.pointer (some ⟨b, 0, none⟩)] w (FormQ b w e o (setP e m o s))
def CMember (L : Nat) : Prop := ∀ (b : Nat) (w : World) (e : Int) (o : Nat) (s : Ps), Can b w e o s L → ∀ m, 10 * s.toks.length + 7 ≤ m → Calls Tryz.prog 220 #[.pointer (some ⟨b, 0, none⟩)] w (FormQ b w e o (memberP e m o s))
def CPart (L : Nat) : Prop := ∀ (b : Nat) (w : World) (e : Int) (o : Nat) (s : Ps), Can b w e o s L → ∀ m, 10 * s.toks.length + 8 ≤ m → Calls Tryz.prog 205 #[.pointer (some ⟨b, 0, none⟩)] w (FormQ b w e o (partP e m o s))
def CParts (L : Nat) : Prop := ∀ (b : Nat) (w : World) (e : Int) (o : Nat) (s : Ps), Can b w e o s L → ∀ m, 10 * s.toks.length + 9 ≤ m → Calls Tryz.prog 191 #[.pointer (some ⟨b, 0, none⟩)] w (PartsQ b w e o (partsP e m o [] s))
def CBare (L : Nat) : Prop := ∀ (b : Nat) (w : World) (e : Int) (o : Nat) (s : Ps), Can b w e o s L → ∀ m, 10 * s.toks.length + 5 ≤ m → Calls Tryz.prog 146 #[.pointer (some ⟨b, 0, none⟩)] w (FormQ b w e o (bareP e m o s))
def CPiece (L : Nat) : Prop := ∀ (b : Nat) (w : World) (e : Int) (o : Nat) (s : Ps), Can b w e o s L → ∀ m, 10 * s.toks.length + 6 ≤ m → Calls Tryz.prog 117 #[.pointer (some ⟨b, 0, none⟩)] w (FormQ b w e o (pieceP e m o s))
def CJoin (L : Nat) : Prop := ∀ (b : Nat) (w : World) (e : Int) (o : Nat) (s : Ps), Can b w e o s L → ∀ m, 10 * s.toks.length + 8 ≤ m → Calls Tryz.prog 77 #[.pointer (some ⟨b, 0, none⟩)] w (FormQ b w e o (joinP e m o s))
def CForm (L : Nat) : Prop := ∀ (b : Nat) (w : World) (e : Int) (o : Nat) (s : Ps), Can b w e o s L → ∀ m, 10 * s.toks.length + 10 ≤ m → Calls Tryz.prog 36 #[.pointer (some ⟨b, 0, none⟩)] w (FormQ b w e o (formP e m o s))
section
variable {b N : Nat} {t : TypeId} {w w' : World} {e : Int} {o : Nat} {s : Ps}
theorem RdE.below (h : RdE b w e o s) (hb : Below w.heap.size w w') : RdE b w' e o s := by
  obtain ⟨A, n, c, h⟩ := h
  exact ⟨A, n, c, h.below hb⟩
theorem RdE.drewN (h : RdE b w e o s) (q : Nat) : RdE b (w.drewN q) e o s := by
  obtain ⟨A, n, c, h⟩ := h
  exact ⟨A, n, c, h.drewN q⟩
theorem RdE.lt (h : RdE b w e o s) : b < w.heap.size := by
  obtain ⟨A, n, c, h⟩ := h
  exact h.lt
theorem nextE (h : RdE b w e o s) {B : Nat} {Ak : Option Addr} {nk ck : Nat} {ks : List Int} (hk : RdK .i64 w B Ak nk ck ks) :
    Calls Tryz.prog 78 #[.pointer (some ⟨b, 0, none⟩), .slice Ak nk ck] w fun e w' => e = .returned (.bool (nextP ks s)) ∧ w = w' := by
  obtain ⟨A, n, c, h⟩ := h
  exact snext_any h hk
theorem takeE (h : RdE b w e o s) {Ak : Option Addr} {nk ck : Nat} {ks : List Int} (hk : RdK .i64 w w.heap.size Ak nk ck ks) :
    Calls Tryz.prog 79 #[.pointer (some ⟨b, 0, none⟩), .slice Ak nk ck] w (TakeP b w e o ks s) := by
  obtain ⟨A, n, c, h⟩ := h
  exact stake_any h hk
theorem failE (h : RdE b w e o s) {y : Int} (hy : y ≠ 0) : Calls Tryz.prog 76 #[.pointer (some ⟨b, 0, none⟩), .int .i64 y] w (SayP b w e o (failP e y s)) := by
  obtain ⟨A, n, c, h⟩ := h
  exact sfail_any h hy
/-- A block that is new holds these cells. -/
def Box5 (w : World) (N : Nat) (t : TypeId) : Prop := ∃ x0 x1 x2 x3 x4 : Value, w.heap[N]? = some (.cells #[x0, x1, x2, x3, x4] t (0, 0))
theorem Box5.fe (h : Box5 w N t) (hf : Fe b w w') (hN : N ≠ b) (hs : N < w.heap.size) : Box5 w' N t := by
  obtain ⟨x0, x1, x2, x3, x4, h⟩ := h
  exact ⟨x0, x1, x2, x3, x4, (hf.block N hs hN).trans h⟩
theorem Box5.facts (h : Box5 w N t) : (∃ x0 x1 x2 x3 x4, w.cell? ⟨N, 0, none⟩ = some x0 ∧ w.cell? ⟨N, 1, none⟩ = some x1 ∧ w.cell? ⟨N, 2, none⟩ = some x2 ∧ w.cell? ⟨N, 3, none⟩ = some x3 ∧ w.cell? ⟨N, 4, none⟩ = some x4) ∧ ∀ j, w.frozen? ⟨N, j, none⟩ = false := by
  obtain ⟨x0, x1, x2, x3, x4, h⟩ := h
  exact ⟨⟨x0, x1, x2, x3, x4, cells5 h⟩, fun j => frozen_of_row _ _ _ _ _ h⟩
theorem Box5.set (h : Box5 w N t) (a0 a1 a2 a3 a4 : Value) : (set5 w N a0 a1 a2 a3 a4).heap[N]? = some (.cells #[a0, a1, a2, a3, a4] t (0, 0)) := by
  obtain ⟨x0, x1, x2, x3, x4, h⟩ := h
  exact set5_row h _ _ _ _ _
/-- The cell of a result is stored last. -/
theorem form_end {w2 : World} {N lo : Nat} {x : Nd} {A : Option Addr} {n c : Nat} (hf : Fe b w w2) (hr : RdE b w2 e o s) (hN : w.heap.size ≤ N) (hlo : N < lo) (hb : b < w.heap.size) (hv : RdN w2 (In lo w2.heap.size) A n c x.kids) :
    FormQ b w e o (x, s) (.returned (.agg #[.int .i64 x.kind, .string x.name, .int .i64 x.low, .int .i64 x.high, .slice A n c])) (set5 w2 N (.int .i64 x.kind) (.string x.name) (.int .i64 x.low) (.int .i64 x.high) (.slice A n c)) := by
  refine ⟨_, rfl, ⟨A, n, c, rfl, hv.keep (fun i hi => ⟨by have := hi.1; omega, by rw [set5_size]; exact hi.2⟩) fun p hp => ?_⟩, hr.other5 (by omega) _ _ _ _ _, hf.set5 (.inr hN) _ _ _ _ _⟩
  exact World.cell?_of_block (w := w2) (set5_block _ _ _ _ _ _ _ (by have := hp.1; omega))
end
end Go.Proofs.YtdhighnbbpngpaaGreatDoor
namespace Go.Proofs.YtdhighnbbpngpaaGreatDoor
open Go.RowKit
open Y (Nd It Ps nextP takeP failP noTok noName formP orsP joinP piecesP pieceP bareP setP partsP partP heldP memberP)

theorem zero_nd : (Obj.cells #[.int .i64 0, .string { data := #[] }, .int .i64 0, .int .i64 0, .slice none 0 0] 30) = .cells #[.int .i64 0, .string noName, .int .i64 0, .int .i64 0, .slice none 0 0] 30 := rfl
/-- The world in which a function begins that hands back a form. -/
def begN (w : World) : World := w.alloc (.cells #[.int .i64 0, .string { data := #[] }, .int .i64 0, .int .i64 0, .slice none 0 0] 30)
theorem begN_box (w : World) : Box5 (begN w) w.heap.size 30 := ⟨_, _, _, _, _, heap_alloc_new w _⟩
theorem begN_below (w : World) : Below w.heap.size w (begN w) := kbelow_push w _
theorem begN_size (w : World) : (begN w).heap.size = w.heap.size + 1 := by simp [begN]
/-- A list of kinds is written out. -/
def litW (w : World) (ks : List Int) : World := w.alloc (.cells (ks.map (Value.int .i64)).toArray 3)
theorem litW_below (w : World) (ks : List Int) : Below w.heap.size w (litW w ks) := kbelow_push w _
theorem litW_size (w : World) (ks : List Int) : (litW w ks).heap.size = w.heap.size + 1 := by simp [litW]
theorem litW_rd (w : World) (ks : List Int) (N : Nat) (hN : N = w.heap.size) (h : ks.length ≤ 100) : RdK .i64 (litW w ks) (litW w ks).heap.size (some ⟨N, 0, none⟩) ks.length ks.length ks :=
  rd_lit_k w N hN .i64 ks _ _ (by simp) (by omega)
theorem single_kids (t : Tok) : (Y.single t).kids = [] := by
  unfold Y.single
  split
  · rfl
  · split <;> rfl
set_option maxHeartbeats 1000000 in
theorem member_of {L : Nat} (hset : CSet L) : CMember L := by
  intro b w e o s hc m hm
  obtain ⟨hr, ho, hl⟩ := hc
  obtain ⟨m, rfl⟩ : ∃ m', m = m' + 1 := ⟨m - 1, by omega⟩
  have HR := Lib.hid hr
  have hlt := hr.lt
  clear hr
  have hres : memberP e (m + 1) o s = if nextP [13] s = true then setP e m o s else (Y.single (takeP e [15, 1] s).1, (takeP e [15, 1] s).2) := by rw [memberP]
  have HRES := Lib.hid hres
  clear hres
  generalize memberP e (m + 1) o s = r at *
  have HW1 := Lib.hid (begN_below w)
  have HR1 := Lib.hid (HR.out.below HW1.out)
  have HBX := Lib.hid (begN_box w)
  have hs1 := begN_size w
  go_enter Tryz.func220, Tryz.ntmps220
  go_wp2_with fail
  change Calls _ _ _ (litW (begN w) [13]) _
  generalize begN w = W1 at *
  have HL2 := Lib.hid (litW_below W1 [13])
  have HR2 := Lib.hid (HR1.out.below HL2.out)
  have HK2 := Lib.hid (litW_rd W1 [13] (w.heap.size + 1) (by omega) (by decide))
  have HF2 : Hid (Fe b w (litW W1 [13])) := (Fe.of_below HW1.out).trans (Fe.of_below HL2.out)
  have HBX2 : Hid (Box5 (litW W1 [13]) w.heap.size 30) := HBX.out.fe (b := b) (Fe.of_below HL2.out) (by omega) (by omega)
  have hs2 := litW_size W1 [13]
  generalize litW W1 [13] = W2 at *
  clear HR1 HL2 HBX HW1
  refine (nextE HR2.out HK2.out).mono ?_
  rintro en w' ⟨rfl, rfl⟩
  clear HK2
  cases hx : nextP [13] s with
  | true =>
    have HRES2 : Hid (r = setP e m o s) := by show _ = _; rw [HRES.out, if_pos hx]
    have HC := Lib.hid (hset b W2 e o s ⟨HR2.out, ho, hl⟩ hx m (by omega))
    clear HRES HR2
    go_wp2_with fail
    refine HC.out.mono ?_
    rintro en w3 ⟨v, rfl, ⟨A, n, c, rfl, hv⟩, hr3, hf3⟩
    have HF3 := Lib.hid (HF2.out.trans hf3)
    have HBX3 := Lib.hid (HBX2.out.fe hf3 (by omega) (by omega))
    rw [← HRES2.out] at hv hr3 ⊢
    have HE := Lib.hid (form_end (N := w.heap.size) HF3.out hr3 (Nat.le_refl _) (by omega) hlt hv)
    obtain ⟨⟨x0, x1, x2, x3, x4, k0, k1, k2, k3, k4⟩, fN⟩ := HBX3.out.facts
    have HQ := Lib.hid (HBX3.out.set (.int .i64 r.1.kind) (.string r.1.name) (.int .i64 r.1.low) (.int .i64 r.1.high) (.slice A n c))
    clear hv hr3 hf3 HC HF3 HF2 HBX2
    go_wp2_with fail
    change bodyPost _ _ _ _ _ (set5 w3 w.heap.size _ _ _ _ _)
    generalize set5 w3 w.heap.size (.int .i64 r.1.kind) (.string r.1.name) (.int .i64 r.1.low) (.int .i64 r.1.high) (.slice A n c) = w4 at HE HQ ⊢
    obtain ⟨q0, q1, q2, q3, q4⟩ := cells5 HQ.out
    exact bodyPost_ret (v := .agg #[.int .i64 r.1.kind, .string r.1.name, .int .i64 r.1.low, .int .i64 r.1.high, .slice A n c]) (by simp [results, Tryz.results220, go_sem, q0, q1, q2, q3, q4]) rfl HE.out
  | false =>
    have HRES2 : Hid (r = (Y.single (takeP e [15, 1] s).1, (takeP e [15, 1] s).2)) := by show _ = _; rw [HRES.out, if_neg (by rw [hx]; decide)]
    clear HRES
    have HL3 := Lib.hid (litW_below W2 [15, 1])
    have HR3 := Lib.hid (HR2.out.below HL3.out)
    have HK3 := Lib.hid (litW_rd W2 [15, 1] (w.heap.size + 2) (by omega) (by decide))
    have HF3 : Hid (Fe b w (litW W2 [15, 1])) := HF2.out.trans (Fe.of_below HL3.out)
    have HBX3 : Hid (Box5 (litW W2 [15, 1]) w.heap.size 30) := HBX2.out.fe (b := b) (Fe.of_below HL3.out) (by omega) (by omega)
    have hs3 := litW_size W2 [15, 1]
    go_wp2_with fail
    change Calls _ _ _ (litW W2 [15, 1]) _
    generalize litW W2 [15, 1] = W3 at *
    refine (takeE HR3.out HK3.out).mono ?_
    rintro en w4 ⟨rfl, hr4, hf4⟩
    have HR4 := Lib.hid hr4
    have HF4 := Lib.hid (HF3.out.trans hf4)
    have HBX4 := Lib.hid (HBX3.out.fe hf4 (by omega) (by omega))
    have hs4 := hf4.size
    clear HK3 HR3 HR2 HBX2 HBX3 HF2 HF3 HL3 hr4 hf4
    generalize hk : takeP e [15, 1] s = k at *
    go_wp2_with fail
    refine (single_any k.1 w4).mono ?_
    rintro en w5 ⟨he, hb5⟩
    have HR5 := Lib.hid (HR4.out.below hb5)
    have HF5 := Lib.hid (HF4.out.trans (Fe.of_below hb5))
    have HBX5 := Lib.hid (HBX4.out.fe (b := b) (Fe.of_below hb5) (by omega) (by omega))
    have hs5 := hb5.size
    have hkids := single_kids k.1
    unfold leafV at he
    generalize Y.single k.1 = x at *
    subst he
    have HE : Hid (FormQ b w e o r _ _) := HRES2.out ▸ form_end (x := x) (N := w.heap.size) (lo := w.heap.size + 1) HF5.out HR5.out (Nat.le_refl _) (by omega) hlt (show RdN w5 _ none 0 0 x.kids by rw [hkids]; exact RdN.nil _ _)
    obtain ⟨⟨x0, x1, x2, x3, x4, k0, k1, k2, k3, k4⟩, fN⟩ := HBX5.out.facts
    have HQ := Lib.hid (HBX5.out.set (.int .i64 x.kind) (.string x.name) (.int .i64 x.low) (.int .i64 x.high) (.slice none 0 0))
    clear hb5 HR4 HF4 HBX4 hkids HR5 HF5
    go_wp2_with fail
    change bodyPost _ _ _ _ _ (set5 w5 w.heap.size _ _ _ _ _)
    generalize set5 w5 w.heap.size (.int .i64 x.kind) (.string x.name) (.int .i64 x.low) (.int .i64 x.high) (.slice none 0 0) = w6 at HE HQ ⊢
    obtain ⟨q0, q1, q2, q3, q4⟩ := cells5 HQ.out
    exact bodyPost_ret (v := .agg #[.int .i64 x.kind, .string x.name, .int .i64 x.low, .int .i64 x.high, .slice none 0 0]) (by simp [results, Tryz.results220, go_sem, q0, q1, q2, q3, q4]) rfl HE.out
end Go.Proofs.YtdhighnbbpngpaaGreatDoor
namespace Go.Proofs.YtdhighnbbpngpaaGreatDoor
open Go.RowKit
open Y (Nd It Ps nextP takeP failP noTok noName formP orsP joinP piecesP pieceP bareP setP partsP partP heldP memberP)

theorem Fe.grown {b : Nat} {a c d : World} {row : Option Nat} (h : Fe b a c) (hg : c.grownBy d row) (hr : ∀ i, row = some i → a.heap.size ≤ i) : Fe b a d :=
  ⟨hg.os.trans h.os, hg.tape.trans h.tape, hg.output.trans h.output, Nat.le_trans h.size hg.size, fun i hi hn => (hg.block i (Nat.lt_of_lt_of_le hi h.size) (fun e => by have := hr i e.symm; omega)).trans (h.block i hi hn)⟩
theorem RdE.grown {b : Nat} {w w' : World} {e : Int} {o : Nat} {s : Ps} {row : Option Nat} (h : RdE b w e o s) (hg : w.grownBy w' row) (hr : ∀ i, row = some i → b < i) : RdE b w' e o s := by
  obtain ⟨A, n, c, h⟩ := h
  have hlt := h.lt
  have hk : ∀ i, i ≤ b → w'.heap[i]? = w.heap[i]? := fun i hi => hg.block i (by omega) (fun e => by have := hr i e.symm; omega)
  exact ⟨A, n, c, (hk b (Nat.le_refl _)).trans h.blk, h.rd.keep fun p hp => World.cell?_of_block (hk p.block (by omega)), h.ok, h.few⟩
theorem app_n {w : World} {ops : Array Oper} {rest : List Oper} {o : Oper} {a : Act} {Q : Exit → Act → World → Prop} (hgd : o.guard = none) (s x : Operand) 
    (ho : o.op = .call { callee := .builtin .append, args := #[s, x], argTypes := #[28, 28] })
    (base : Nat) (v : Value) (l : List Nd) (hs : a.eval s = v) (hown : OwnN w base v l) (N : Nat) (y : Nd) (x0 x1 x2 x3 x4 : Value)
    (hx : a.eval x = .slice (some ⟨N, 0, none⟩) 1 1) (hrow : w.heap[N]? = some (.cells #[x0, x1, x2, x3, x4] 30 (0, 0))) (hy : NdAt w (fun b => base ≤ b ∧ b < w.heap.size ∧ v.ownBlock ≠ some b) [x0, x1, x2, x3, x4] y)
    (h63 : l.length ≤ 1000000) (hbase : base ≤ w.heap.size)
    (h : ∀ v' w', OwnN w' base v' (l ++ [y]) → w.grownBy w' v.ownBlock → wpList Tryz.prog ops Q rest (a.put o.dst v') w') : wpList Tryz.prog ops Q (o :: rest) a w := by
  obtain ⟨i0, hi0, hz0, hz1, hz2⟩ := info_k info_nd
  obtain ⟨cs, hc, hk⟩ := hown
  have h1 : ∀ u ∈ [x0, x1, x2, x3, x4], u.oneCell' = true := by
    obtain ⟨A, n, c, e, _⟩ := hy.inv
    rw [e]
    intro u hu
    simp only [List.mem_cons, List.not_mem_nil, or_false] at hu
    rcases hu with rfl | rfl | rfl | rfl | rfl <;> rfl
  refine wpList_append_own_at w hgd s x 28 ho base 30 i0 _ 5 64 Tryz.underlying28 hi0 hz0 hz1 hz2 rfl (by decide) v l.length cs hs hc ⟨N, 0, none⟩ 1 1 [x0, x1, x2, x3, x4] hx rfl ?_ h1 (by unfold maxLen; omega) (by omega) hbase ?_
  · intro j u hu
    rw [kadd_none, cell_of_row _ _ _ _ _ _ hrow, Nat.zero_add]
    simpa using hu
  · intro v' w' h2 h3 _ h4
    exact h v' w' (OwnN.push hk hc.1 hy rfl h2 h3 h4) h3
/-- A form is written out as a list of one. -/
def litN (w : World) (x0 x1 x2 x3 x4 : Value) : World := w.alloc (.cells #[x0, x1, x2, x3, x4] 30)
theorem litN_below (w : World) (x0 x1 x2 x3 x4 : Value) : Below w.heap.size w (litN w x0 x1 x2 x3 x4) := kbelow_push w _
theorem litN_size (w : World) (x0 x1 x2 x3 x4 : Value) : (litN w x0 x1 x2 x3 x4).heap.size = w.heap.size + 1 := by simp [litN]
theorem litN_row (w : World) (x0 x1 x2 x3 x4 : Value) (N : Nat) (hN : N = w.heap.size) : (litN w x0 x1 x2 x3 x4).heap[N]? = some (.cells #[x0, x1, x2, x3, x4] 30 (0, 0)) := by subst hN; exact heap_alloc_new w _
/-- A loop that reads forms: where it stands. -/
structure Many {α : Type} (b : Nat) (w : World) (e : Int) (o L m K : Nat) (f : Nat → Nat → List Nd → Ps → α × Ps) (r : α × Ps) (v : Value) (l : List Nd) (s : Ps) (m' : Nat) (wx : World) : Prop where
  own : OwnN wx w.heap.size v l
  rd : RdE b wx e o s
  fe : Fe b w wx
  eq : r = f m' o l s
  fuel : 10 * s.toks.length + K ≤ m'
  few : o + s.toks.length ≤ 5000
  lim : s.toks.length ≤ L
  len : l.length + s.toks.length ≤ 9000
def lenOf (b : Nat) (w : World) : Nat := match w.cell? ⟨b, 0, none⟩ with | some (.slice _ n _) => n | _ => 0
theorem RdE.len {b : Nat} {w : World} {e : Int} {o : Nat} {s : Ps} (h : RdE b w e o s) : lenOf b w = s.toks.length := by
  obtain ⟨A, n, c, h⟩ := h
  unfold lenOf
  rw [h.cells.1]
  exact h.rd.len.symm
theorem RdE.few {b : Nat} {w : World} {e : Int} {o : Nat} {s : Ps} (h : RdE b w e o s) : s.toks.length ≤ 4000 := by
  obtain ⟨A, n, c, h⟩ := h
  exact h.few
section
variable {α : Type} {b : Nat} {w wr W2 w3 w5 : World} {e : Int} {o L m K m' : Nat} {f : Nat → Nat → List Nd → Ps → α × Ps} {r : α × Ps} {v v5 : Value} {l : List Nd} {s : Ps} {k : Nd × Ps} {A : Option Addr} {n c : Nat}
/-- Behind a call that has read one form, as it is written out. -/
structure Got1 (b : Nat) (w : World) (e : Int) (o : Nat) (v : Value) (l : List Nd) (k : Nd × Ps) (A : Option Addr) (n c : Nat) (N : Nat) (W4 : World) : Prop where
  rd : RdE b W4 e o k.2
  fe : Fe b w W4
  own : OwnN W4 w.heap.size v l
  row : W4.heap[N]? = some (.cells #[.int .i64 k.1.kind, .string k.1.name, .int .i64 k.1.low, .int .i64 k.1.high, .slice A n c] 30 (0, 0))
  nd : NdAt W4 (fun b => w.heap.size ≤ b ∧ b < W4.heap.size ∧ v.ownBlock ≠ some b) [.int .i64 k.1.kind, .string k.1.name, .int .i64 k.1.low, .int .i64 k.1.high, .slice A n c] k.1
theorem got_one (hown : OwnN wr w.heap.size v l) (hfe : Fe b w wr) (hb : b < w.heap.size) (h2 : Fe b wr W2) (hr3 : RdE b w3 e o k.2) (hf3 : Fe b W2 w3) (hv : RdN w3 (In W2.heap.size w3.heap.size) A n c k.1.kids) :
    Got1 b w e o v l k A n c w3.heap.size (litN w3 (.int .i64 k.1.kind) (.string k.1.name) (.int .i64 k.1.low) (.int .i64 k.1.high) (.slice A n c)) := by
  have h4 := litN_below w3 (.int .i64 k.1.kind) (.string k.1.name) (.int .i64 k.1.low) (.int .i64 k.1.high) (.slice A n c)
  have hrow := litN_row w3 (.int .i64 k.1.kind) (.string k.1.name) (.int .i64 k.1.low) (.int .i64 k.1.high) (.slice A n c) _ rfl
  generalize litN w3 (.int .i64 k.1.kind) (.string k.1.name) (.int .i64 k.1.low) (.int .i64 k.1.high) (.slice A n c) = W4 at *
  have hbl := hown.block
  have s1 := hfe.size
  have s2 := h2.size
  have s3 := hf3.size
  have s4 := h4.size
  refine ⟨hr3.below h4, (hfe.trans h2).trans (hf3.trans (Fe.of_below h4)), ((hown.fe h2 hb).fe hf3 hb).keep s4 fun i _ hi => h4.block i hi, hrow, ?_⟩
  have h5 : RdN W4 (fun b => w.heap.size ≤ b ∧ b < W4.heap.size ∧ v.ownBlock ≠ some b) A n c k.1.kids := hv.keep (fun i hi => ⟨by have := hi.1; omega, by have := hi.2; omega, fun e => by have := (hbl i e).2; have := hi.1; omega⟩) (fun p hp => h4.cell hp.2)
  have h6 := NdAt.of h5 k.1.kind k.1.low k.1.high k.1.name
  have e : Nd.mk k.1.kind k.1.name k.1.low k.1.high k.1.kids = k.1 := by cases k.1; rfl
  rwa [e] at h6
/-- Behind the append. -/
theorem Got1.done {N : Nat} {W4 : World} (h : Got1 b w e o v l k A n c N W4) (hb : b < w.heap.size) (ho : OwnN w5 w.heap.size v5 (l ++ [k.1])) (hg : W4.grownBy w5 v.ownBlock) (he : r = f m' o (l ++ [k.1]) k.2)
    (hfu : 10 * k.2.toks.length + K ≤ m') (hfew : o + k.2.toks.length ≤ 5000) (hlim : k.2.toks.length ≤ L) (hlen : l.length + 1 + k.2.toks.length ≤ 9000) : Many b w e o L m K f r v5 (l ++ [k.1]) k.2 m' w5 := by
  have hbl := h.own.block
  exact ⟨ho, h.rd.grown hg (fun i hi => by have := (hbl i hi).1; omega), h.fe.grown hg (fun i hi => (hbl i hi).1), he, hfu, hfew, hlim, by simp; omega⟩
end
set_option maxHeartbeats 1000000 in
theorem parts_of {L : Nat} (hpart : CPart L) : CParts L := by
  intro b w e o s hc m hm
  obtain ⟨hr, ho, hl⟩ := hc
  have HR := Lib.hid hr
  have hlt := hr.lt
  have hfew := hr.few
  clear hr
  generalize hres : partsP e m o [] s = r
  have HRES := Lib.hid hres.symm
  have HST : Hid (Many b w e o L m 9 (partsP e) r (.slice none 0 0) [] s m w) := ⟨OwnN.nil _ _, HR.out, Fe.refl _ _, HRES.out, by omega, ho, hl, by simp; omega⟩
  clear hres
  go_enter Tryz.func191, Tryz.ntmps191
  go_wp2_with fail
  go_loopw [3] (fun v wx => ∃ (l : List Nd) (s' : Ps) (m' : Nat), Hid (Many b w e o L m 9 (partsP e) r v l s' m' wx)) (fun _ wx => lenOf b wx)
  case atStart => exact ⟨[], s, m, HST.out⟩
  case round =>
    obtain ⟨l, s', m', HM⟩ := hrel
    clear HST HR HRES ho hl hfew hm
    have hfu := HM.out.fuel
    have hfew := HM.out.few
    have hlim := HM.out.lim
    have hlen := HM.out.len
    have hszr := HM.out.fe.size
    obtain ⟨m', rfl⟩ : ∃ m1, m' = m1 + 1 := ⟨m' - 1, by omega⟩
    have HLN : Hid (lenOf b wr = s'.toks.length) := HM.out.rd.len
    have HL2 := Lib.hid (litW_below wr [15, 1, 13])
    have HR2 := Lib.hid (HM.out.rd.below HL2.out)
    have HK2 := Lib.hid (litW_rd wr [15, 1, 13] wr.heap.size rfl (by decide))
    have HEQ : Hid (r = partsP e (m' + 1) o l s') := HM.out.eq
    have hpn : partsP e (m' + 1) o l s' = if nextP [15, 1, 13] s' = true then partsP e m' o (l ++ [(partP e m' o s').1]) (partP e m' o s').2 else (l, s') := by rw [partsP]
    have HPN := Lib.hid hpn
    clear hpn
    cases hx : nextP [15, 1, 13] s' with
    | true =>
      have hmn : ∃ W, litW wr [15, 1, 13] = W := ⟨_, rfl⟩
      go_wp2_with fail
      change Calls _ _ _ (litW wr [15, 1, 13]) _
      generalize litW wr [15, 1, 13] = W2 at *
      refine (nextE HR2.out HK2.out).mono ?_
      rintro en w' ⟨rfl, rfl⟩
      rw [hx]
      have HC := Lib.hid (hpart b W2 e o s' ⟨HR2.out, hfew, hlim⟩ m' (by omega))
      have hless : (partP e m' o s').2.toks.length < s'.toks.length := by
        obtain ⟨m2, rfl⟩ : ∃ m2, m' = m2 + 3 := ⟨m' - 3, by omega⟩
        exact Y.part_less e m2 o s' hx
      have HK : Hid (r = partsP e m' o (l ++ [(partP e m' o s').1]) (partP e m' o s').2) := by show _ = _; rw [HEQ.out, HPN.out, if_pos hx]
      clear HPN HEQ
      generalize partP e m' o s' = k at *
      go_wp2_with fail
      refine HC.out.mono ?_
      rintro en w3 ⟨v, rfl, ⟨A, n, c, rfl, hv⟩, hr3, hf3⟩
      have HG := Lib.hid (got_one HM.out.own HM.out.fe hlt (Fe.of_below HL2.out) hr3 hf3 hv)
      clear hv hr3 hf3 HC HR2 HK2 hmn
      go_wp2_with (at_builtin; change wpList _ _ _ _ _ (litN w3 (.int .i64 k.1.kind) (.string k.1.name) (.int .i64 k.1.low) (.int .i64 k.1.high) (.slice A n c)); refine app_n rfl _ _ rfl w.heap.size u3 l rfl HG.out.own w3.heap.size k.1 _ _ _ _ _ rfl HG.out.row HG.out.nd (by omega) HG.out.fe.size ?_; intro v5 w5 ho5 hg5)
      have HD : Hid (Many b w e o L m 9 (partsP e) r v5 (l ++ [k.1]) k.2 m' w5) := HG.out.done hlt ho5 hg5 HK.out (by omega) (by omega) (by omega) (by omega)
      clear HG HK ho5 hg5
      go_roundw
      case rel => exact ⟨l ++ [k.1], k.2, m', HD.out⟩
      case measure => show lenOf b w5 < lenOf b wr; rw [HD.out.rd.len, HLN.out]; exact hless
    | false =>
      have HK : Hid (r = (l, s')) := by show _ = _; rw [HEQ.out, HPN.out, if_neg (by rw [hx]; decide)]
      obtain ⟨A, c, rfl, hv⟩ := HM.out.own.rd
      have HE : Hid (PartsQ b w e o r (.returned (.slice A l.length c)) (litW wr [15, 1, 13])) := by
        refine ⟨A, c, by rw [HK.out], ?_, by rw [HK.out]; exact HR2.out, HM.out.fe.trans (Fe.of_below HL2.out)⟩
        rw [HK.out]
        exact hv.keep (fun i hi => ⟨hi.1, Nat.lt_of_lt_of_le hi.2 HL2.out.size⟩) (fun p hp => HL2.out.cell hp.2)
      clear HPN HEQ HK hv
      go_wp2_with fail
      change Calls _ _ _ (litW wr [15, 1, 13]) _
      generalize litW wr [15, 1, 13] = W2 at *
      refine (nextE HR2.out HK2.out).mono ?_
      rintro en w' ⟨rfl, rfl⟩
      rw [hx]
      go_wp2_with fail
      exact bodyPost_ret (v := .slice A l.length c) (by simp [results, Tryz.results191, go_sem]) rfl HE.out
end Go.Proofs.YtdhighnbbpngpaaGreatDoor
namespace Go.Proofs.YtdhighnbbpngpaaGreatDoor
open Go.RowKit
open Y (Nd It Ps nextP takeP failP noTok noName formP orsP joinP piecesP pieceP bareP setP partsP partP heldP memberP)

set_option maxHeartbeats 2000000 in
theorem join_of {L : Nat} (hpiece : CPiece L) : CJoin L := by
  intro b w e o s hc m hm
  obtain ⟨hr, ho, hl⟩ := hc
  obtain ⟨m, rfl⟩ : ∃ m', m = m' + 1 := ⟨m - 1, by omega⟩
  have hlt := hr.lt
  have hfew := hr.few
  have hres : joinP e (m + 1) o s = (if (piecesP e m o [] s).1 = [] then Nd.mk 1 noName 0 0 [] else Y.several 8 (piecesP e m o [] s).1, (piecesP e m o [] s).2) := by rw [joinP]
  have HRES := Lib.hid hres
  clear hres
  generalize joinP e (m + 1) o s = r at *
  generalize hpp : piecesP e m o [] s = pr at *
  have HW1 := Lib.hid (begN_below w)
  have HR1 := Lib.hid (hr.below HW1.out)
  have HBX := Lib.hid (begN_box w)
  have hs1 := begN_size w
  clear hr
  go_enter Tryz.func77, Tryz.ntmps77
  go_wp2_with fail
  have HW : Hid (w.alloc (.cells #[.int .i64 0, .string { data := #[] }, .int .i64 0, .int .i64 0, .slice none 0 0] 30) = begN w) := rfl
  rw [HW.out]
  clear HW
  generalize begN w = W1 at *
  have hb1 : b < W1.heap.size := by omega
  have HST : Hid (Many b W1 e o L m 7 (piecesP e) pr (.slice none 0 0) [] s m W1) := ⟨OwnN.nil _ _, HR1.out, Fe.refl _ _, hpp.symm, by omega, ho, hl, by simp; omega⟩
  clear hpp
  go_loopw [3] (fun v wx => ∃ (l : List Nd) (s' : Ps) (m' : Nat), Hid (Many b W1 e o L m 7 (piecesP e) pr v l s' m' wx)) (fun _ wx => lenOf b wx)
  case atStart => exact ⟨[], s, m, HST.out⟩
  case round =>
    obtain ⟨l, s', m', HM⟩ := hrel
    clear HST HR1 ho hl hfew hm
    have hfu := HM.out.fuel
    have hfew := HM.out.few
    have hlim := HM.out.lim
    have hlen := HM.out.len
    have hszr := HM.out.fe.size
    obtain ⟨m', rfl⟩ : ∃ m1, m' = m1 + 1 := ⟨m' - 1, by omega⟩
    have HLN : Hid (lenOf b wr = s'.toks.length) := HM.out.rd.len
    have HL2 := Lib.hid (litW_below wr [1, 12, 6, 13])
    have HR2 := Lib.hid (HM.out.rd.below HL2.out)
    have HK2 := Lib.hid (litW_rd wr [1, 12, 6, 13] wr.heap.size rfl (by decide))
    have HEQ : Hid (pr = piecesP e (m' + 1) o l s') := HM.out.eq
    have hpn : piecesP e (m' + 1) o l s' = if nextP [1, 12, 6, 13] s' = true then piecesP e m' o (l ++ [(pieceP e m' o s').1]) (pieceP e m' o s').2 else (l, s') := by rw [piecesP]
    have HPN := Lib.hid hpn
    have hsz2 := litW_size wr [1, 12, 6, 13]
    clear hpn
    cases hx : nextP [1, 12, 6, 13] s' with
    | true =>
      go_wp2_with fail
      change Calls _ _ _ (litW wr [1, 12, 6, 13]) _
      generalize litW wr [1, 12, 6, 13] = W2 at *
      refine (nextE HR2.out HK2.out).mono ?_
      rintro en w' ⟨rfl, rfl⟩
      rw [hx]
      have HC := Lib.hid (hpiece b W2 e o s' ⟨HR2.out, hfew, hlim⟩ m' (by omega))
      have hless : (pieceP e m' o s').2.toks.length < s'.toks.length := by
        obtain ⟨m2, rfl⟩ : ∃ m2, m' = m2 + 3 := ⟨m' - 3, by omega⟩
        exact Y.piece_less e m2 o s' hx
      have HK : Hid (pr = piecesP e m' o (l ++ [(pieceP e m' o s').1]) (pieceP e m' o s').2) := by show _ = _; rw [HEQ.out, HPN.out, if_pos hx]
      clear HPN HEQ
      generalize pieceP e m' o s' = k at *
      go_wp2_with fail
      refine HC.out.mono ?_
      rintro en w3 ⟨v, rfl, ⟨A, n, c, rfl, hv⟩, hr3, hf3⟩
      have HG := Lib.hid (got_one HM.out.own HM.out.fe hb1 (Fe.of_below HL2.out) hr3 hf3 hv)
      clear hv hr3 hf3 HC HR2 HK2
      go_wp2_with (at_builtin; change wpList _ _ _ _ _ (litN w3 (.int .i64 k.1.kind) (.string k.1.name) (.int .i64 k.1.low) (.int .i64 k.1.high) (.slice A n c)); refine app_n rfl _ _ rfl W1.heap.size u3 l rfl HG.out.own w3.heap.size k.1 _ _ _ _ _ rfl HG.out.row HG.out.nd (by omega) HG.out.fe.size ?_; intro v5 w5 ho5 hg5)
      have HD : Hid (Many b W1 e o L m 7 (piecesP e) pr v5 (l ++ [k.1]) k.2 m' w5) := HG.out.done hb1 ho5 hg5 HK.out (by omega) (by omega) (by omega) (by omega)
      clear HG HK ho5 hg5
      go_roundw
      case rel => exact ⟨l ++ [k.1], k.2, m', HD.out⟩
      case measure => show lenOf b w5 < lenOf b wr; rw [HD.out.rd.len, HLN.out]; exact hless
    | false =>
      have HKP : Hid (pr = (l, s')) := by show _ = _; rw [HEQ.out, HPN.out, if_neg (by rw [hx]; decide)]
      obtain ⟨A, c, rfl, hv⟩ := HM.out.own.rd
      have HV2 : Hid (RdN (litW wr [1, 12, 6, 13]) (In (w.heap.size + 1) (litW wr [1, 12, 6, 13]).heap.size) A l.length c l) := hv.keep (fun i hi => ⟨by have := hi.1; omega, Nat.lt_of_lt_of_le hi.2 HL2.out.size⟩) (fun p hp => HL2.out.cell hp.2)
      have HF2 : Hid (Fe b w (litW wr [1, 12, 6, 13])) := ((Fe.of_below HW1.out).trans HM.out.fe).trans (Fe.of_below HL2.out)
      have HBX2 : Hid (Box5 (litW wr [1, 12, 6, 13]) w.heap.size 30) := (HBX.out.fe HM.out.fe (by omega) (by omega)).fe (b := b) (Fe.of_below HL2.out) (by omega) (by omega)
      clear HPN HEQ hv HW1 HBX
      have hlen2 : (l.length : Int) ≤ 9000 := by omega
      have hg0 : ((l.length : Int) == 0) = decide (l = []) := by
        rw [Bool.eq_iff_iff, beq_iff_eq, decide_eq_true_eq]
        cases l <;> simp; omega
      have HK : Hid (r = (if l = [] then Nd.mk 1 noName 0 0 [] else Y.several 8 l, s')) := by show _ = _; rw [HRES.out, HKP.out]
      clear HRES HKP
      go_wp2_with fail
      change Calls _ _ _ (litW wr [1, 12, 6, 13]) _
      generalize litW wr [1, 12, 6, 13] = W2 at *
      refine (nextE HR2.out HK2.out).mono ?_
      rintro en w' ⟨rfl, rfl⟩
      rw [hx]
      clear HK2
      by_cases h0 : l = []
      · subst h0
        rw [if_pos rfl] at HK
        have HE : Hid (FormQ b w e o r _ _) := HK.out ▸ form_end (x := Nd.mk 1 noName 0 0 []) (N := w.heap.size) (lo := w.heap.size + 1) HF2.out HR2.out (Nat.le_refl _) (by omega) hlt (RdN.nil _ _)
        have HQ := Lib.hid (HBX2.out.set (.int .i64 1) (.string noName) (.int .i64 0) (.int .i64 0) (.slice none 0 0))
        obtain ⟨⟨x0, x1, x2, x3, x4, k0, k1, k2, k3, k4⟩, fN⟩ := HBX2.out.facts
        clear HR2 HF2 HBX2 HK HV2
        go_wp2_with fail
        change bodyPost _ _ _ _ _ (set5 W2 w.heap.size (.int .i64 1) (.string noName) (.int .i64 0) (.int .i64 0) (.slice none 0 0))
        simp only [Nd.kind, Nd.name, Nd.low, Nd.high] at HE
        generalize set5 W2 w.heap.size (.int .i64 1) (.string noName) (.int .i64 0) (.int .i64 0) (.slice none 0 0) = w6 at HE HQ ⊢
        obtain ⟨q0, q1, q2, q3, q4⟩ := cells5 HQ.out
        exact bodyPost_ret (v := .agg #[.int .i64 1, .string noName, .int .i64 0, .int .i64 0, .slice none 0 0]) (by simp [results, Tryz.results77, go_sem, q0, q1, q2, q3, q4]) rfl HE.out
      · rw [if_neg h0] at HK
        have hg1 : ((l.length : Int) == 0) = false := by rw [hg0, decide_eq_false h0]
        clear hg0
        go_wp2_with fail
        refine (several_any 8 HV2.out (fun _ h => h.2)).mono ?_
        rintro en w5 ⟨v, rfl, ⟨A', n, c, rfl, hv⟩, hb5⟩
        have HR5 := Lib.hid (HR2.out.below hb5)
        have HF5 := Lib.hid (HF2.out.trans (Fe.of_below hb5))
        have HBX5 := Lib.hid (HBX2.out.fe (b := b) (Fe.of_below hb5) (by omega) (by omega))
        have hs5 := hb5.size
        have HXE : Hid (Y.several 8 l = Y.several 8 l) := rfl
        generalize hxx : Y.several 8 l = x at *
        have HE : Hid (FormQ b w e o r (.returned (.agg #[.int .i64 x.kind, .string x.name, .int .i64 x.low, .int .i64 x.high, .slice A' n c])) (set5 w5 w.heap.size (.int .i64 x.kind) (.string x.name) (.int .i64 x.low) (.int .i64 x.high) (.slice A' n c))) := by
          have := form_end (x := x) (N := w.heap.size) (lo := w.heap.size + 1) HF5.out HR5.out (Nat.le_refl _) (by omega) hlt (hv.keep (fun i hi => (⟨hi.1, Nat.lt_of_lt_of_le hi.2 hs5⟩ : In _ _ i)) (fun _ _ => rfl))
          rw [HK.out]; exact this
        have HQ := Lib.hid (HBX5.out.set (.int .i64 x.kind) (.string x.name) (.int .i64 x.low) (.int .i64 x.high) (.slice A' n c))
        obtain ⟨⟨x0, x1, x2, x3, x4, k0, k1, k2, k3, k4⟩, fN⟩ := HBX5.out.facts
        clear hb5 hv HR2 HF2 HBX2 HR5 HF5 HBX5 HK HV2
        go_wp2_with fail
        change bodyPost _ _ _ _ _ (set5 w5 w.heap.size _ _ _ _ _)
        generalize set5 w5 w.heap.size (.int .i64 x.kind) (.string x.name) (.int .i64 x.low) (.int .i64 x.high) (.slice A' n c) = w6 at HE HQ ⊢
        obtain ⟨q0, q1, q2, q3, q4⟩ := cells5 HQ.out
        exact bodyPost_ret (v := .agg #[.int .i64 x.kind, .string x.name, .int .i64 x.low, .int .i64 x.high, .slice A' n c]) (by simp [results, Tryz.results77, go_sem, q0, q1, q2, q3, q4]) rfl HE.out
end Go.Proofs.YtdhighnbbpngpaaGreatDoor
namespace Go.Proofs.YtdhighnbbpngpaaGreatDoor
open Go.RowKit
open Y (Nd It Ps nextP takeP failP noTok noName formP orsP joinP piecesP pieceP bareP setP partsP partP heldP memberP)

/-- A list of one that is written out is a row of one's own. -/
theorem OwnN.lit {w : World} {B : Nat} {x : Nd} {x0 x1 x2 x3 x4 : Value} (hB : B ≤ w.heap.size) (hx : NdAt w (In B w.heap.size) [x0, x1, x2, x3, x4] x) : OwnN (litN w x0 x1 x2 x3 x4) B (.slice (some ⟨w.heap.size, 0, none⟩) 1 1) [x] := by
  refine ⟨[x0, x1, x2, x3, x4], World.ownsRow_lit w #[x0, x1, x2, x3, x4] 1 hB (by unfold maxLen; omega) rfl, fun i y hy => ?_⟩
  have hi : i = 0 := by
    have := (List.getElem?_eq_some_iff.1 hy).1; simp at this; omega
  subst hi
  simp at hy
  subst hy
  refine hx.keep (fun i hi => ⟨hi.1, by rw [litN_size]; have := hi.2; omega, fun e => ?_⟩) fun p hp => (litN_below w x0 x1 x2 x3 x4).cell hp.2
  have h2 : i < w.heap.size := hi.2
  have h3 : w.heap.size = i := Option.some.inj e
  omega
theorem nd_eta (x : Nd) : Nd.mk x.kind x.name x.low x.high x.kids = x := by cases x; rfl
set_option maxHeartbeats 2000000 in
theorem form_of {L : Nat} (hjoin : CJoin L) : CForm L := by
  intro b w e o s hc m hm
  obtain ⟨hr, ho, hl⟩ := hc
  obtain ⟨m, rfl⟩ : ∃ m', m = m' + 1 := ⟨m - 1, by omega⟩
  have hlt := hr.lt
  have hfew := hr.few
  have hres : formP e (m + 1) o s = orsP e m o [(joinP e m o s).1] (joinP e m o s).2 := by rw [formP]
  have HRES := Lib.hid hres
  clear hres
  generalize formP e (m + 1) o s = r at *
  have HW1 := Lib.hid (begN_below w)
  have HR1 := Lib.hid (hr.below HW1.out)
  have HBX := Lib.hid (begN_box w)
  have hs1 := begN_size w
  clear hr
  go_enter Tryz.func36, Tryz.ntmps36
  go_wp2_with fail
  change Calls _ _ _ (begN w) _
  generalize begN w = W1 at *
  have hb1 : b < W1.heap.size := by omega
  have hlen0 : (joinP e m o s).2.toks.length ≤ s.toks.length := (Y.len_all e m).join o s
  have HC := Lib.hid (hjoin b W1 e o s ⟨HR1.out, ho, hl⟩ m (by omega))
  generalize joinP e m o s = k at *
  refine HC.out.mono ?_
  rintro en w3 ⟨v, rfl, ⟨A, n, c, rfl, hv⟩, hr3, hf3⟩
  have hx := NdAt.of hv k.1.kind k.1.low k.1.high k.1.name
  rw [nd_eta] at hx
  have ho4 := OwnN.lit hf3.size hx
  have h4 := litN_below w3 (.int .i64 k.1.kind) (.string k.1.name) (.int .i64 k.1.low) (.int .i64 k.1.high) (.slice A n c)
  have HST : Hid (Many b W1 e o L m 9 (orsP e) r (.slice (some ⟨w3.heap.size, 0, none⟩) 1 1) [k.1] k.2 m (litN w3 (.int .i64 k.1.kind) (.string k.1.name) (.int .i64 k.1.low) (.int .i64 k.1.high) (.slice A n c))) :=
    ⟨ho4, hr3.below h4, hf3.trans (Fe.of_below h4), HRES.out, by omega, by omega, by omega, by simp; omega⟩
  clear hv hr3 hf3 hx ho4 h4 HC HRES HR1
  go_wp2_with fail
  have HW : Hid (w3.alloc (.cells #[.int .i64 k.1.kind, .string k.1.name, .int .i64 k.1.low, .int .i64 k.1.high, .slice A n c] 30) = litN w3 (.int .i64 k.1.kind) (.string k.1.name) (.int .i64 k.1.low) (.int .i64 k.1.high) (.slice A n c)) := rfl
  rw [HW.out]
  clear HW
  generalize litN w3 (.int .i64 k.1.kind) (.string k.1.name) (.int .i64 k.1.low) (.int .i64 k.1.high) (.slice A n c) = W4 at *
  generalize k.1 = k1 at *
  generalize k.2 = k2 at *
  go_loopw [3] (fun v wx => ∃ (l : List Nd) (s' : Ps) (m' : Nat), Hid (Many b W1 e o L m 9 (orsP e) r v l s' m' wx)) (fun _ wx => lenOf b wx)
  case atStart => exact ⟨[k1], k2, m, HST.out⟩
  case round =>
    obtain ⟨l, s', m', HM⟩ := hrel
    clear HST ho hl hfew hm hlen0
    have hfu := HM.out.fuel
    have hfew := HM.out.few
    have hlim := HM.out.lim
    have hlen := HM.out.len
    have hszr := HM.out.fe.size
    obtain ⟨m', rfl⟩ : ∃ m1, m' = m1 + 1 := ⟨m' - 1, by omega⟩
    have HLN : Hid (lenOf b wr = s'.toks.length) := HM.out.rd.len
    have HL2 := Lib.hid (litW_below wr [8])
    have HR2 := Lib.hid (HM.out.rd.below HL2.out)
    have HK2 := Lib.hid (litW_rd wr [8] wr.heap.size rfl (by decide))
    have HEQ : Hid (r = orsP e (m' + 1) o l s') := HM.out.eq
    have hpn : orsP e (m' + 1) o l s' = if nextP [8] s' = true then orsP e m' o (l ++ [(joinP e m' o (takeP e [8] s').2).1]) (joinP e m' o (takeP e [8] s').2).2 else (Y.several 9 l, s') := by rw [orsP]
    have HPN := Lib.hid hpn
    have hsz2 := litW_size wr [8]
    clear hpn
    cases hx : nextP [8] s' with
    | true =>
      go_wp2_with fail
      change Calls _ _ _ (litW wr [8]) _
      have HK : Hid (r = orsP e m' o (l ++ [(joinP e m' o (takeP e [8] s').2).1]) (joinP e m' o (takeP e [8] s').2).2) := by show _ = _; rw [HEQ.out, HPN.out, if_pos hx]
      generalize litW wr [8] = W2 at *
      refine (nextE HR2.out HK2.out).mono ?_
      rintro en w' ⟨rfl, rfl⟩
      rw [hx]
      have HL3 := Lib.hid (litW_below W2 [8])
      have HR3 := Lib.hid (HR2.out.below HL3.out)
      have HK3 := Lib.hid (litW_rd W2 [8] (wr.heap.size + 1) (by omega) (by decide))
      have hsz3 := litW_size W2 [8]
      have hless : (takeP e [8] s').2.toks.length < s'.toks.length := Y.take_less e [8] [8] s' hx
      clear HPN HEQ HK2 HR2
      go_wp2_with fail
      change Calls _ _ _ (litW W2 [8]) _
      generalize litW W2 [8] = W3 at *
      refine (takeE HR3.out HK3.out).mono ?_
      rintro en w4 ⟨rfl, hr4, hf4⟩
      generalize (takeP e [8] s').1.v = tv at *
      generalize (takeP e [8] s').2 = s2 at *
      have HR4 := Lib.hid hr4
      have HF4 : Hid (Fe b wr w4) := ((Fe.of_below HL2.out).trans (Fe.of_below HL3.out)).trans hf4
      have hs4 := hf4.size
      clear hr4 hf4 HL2 HL3 HR3 HK3
      have HC := Lib.hid (hjoin b w4 e o s2 ⟨HR4.out, by omega, by omega⟩ m' (by omega))
      have hlen1 : (joinP e m' o s2).2.toks.length ≤ s2.toks.length := (Y.len_all e m').join o s2
      generalize joinP e m' o s2 = k at *
      go_wp2_with fail
      refine HC.out.mono ?_
      rintro en w5 ⟨v, rfl, ⟨A, n, c, rfl, hv⟩, hr5, hf5⟩
      have HG := Lib.hid (got_one HM.out.own HM.out.fe hb1 HF4.out hr5 hf5 hv)
      clear hv hr5 hf5 HC HR4 HF4
      go_wp2_with (at_builtin; change wpList _ _ _ _ _ (litN w5 (.int .i64 k.1.kind) (.string k.1.name) (.int .i64 k.1.low) (.int .i64 k.1.high) (.slice A n c)); refine app_n rfl _ _ rfl W1.heap.size u3 l rfl HG.out.own w5.heap.size k.1 _ _ _ _ _ rfl HG.out.row HG.out.nd (by omega) HG.out.fe.size ?_; intro v6 w6 ho6 hg6)
      have HD : Hid (Many b W1 e o L m 9 (orsP e) r v6 (l ++ [k.1]) k.2 m' w6) := HG.out.done hb1 ho6 hg6 HK.out (by omega) (by omega) (by omega) (by omega)
      clear HG HK ho6 hg6
      go_roundw
      case rel => exact ⟨l ++ [k.1], k.2, m', HD.out⟩
      case measure => show lenOf b w6 < lenOf b wr; rw [HD.out.rd.len, HLN.out]; omega
    | false =>
      obtain ⟨A, c, rfl, hv⟩ := HM.out.own.rd
      have HV2 : Hid (RdN (litW wr [8]) (In (w.heap.size + 1) (litW wr [8]).heap.size) A l.length c l) := hv.keep (fun i hi => ⟨by have := hi.1; omega, Nat.lt_of_lt_of_le hi.2 HL2.out.size⟩) (fun p hp => HL2.out.cell hp.2)
      have HF2 : Hid (Fe b w (litW wr [8])) := ((Fe.of_below HW1.out).trans HM.out.fe).trans (Fe.of_below HL2.out)
      have HBX2 : Hid (Box5 (litW wr [8]) w.heap.size 30) := (HBX.out.fe HM.out.fe (by omega) (by omega)).fe (b := b) (Fe.of_below HL2.out) (by omega) (by omega)
      have HK : Hid (r = (Y.several 9 l, s')) := by show _ = _; rw [HEQ.out, HPN.out, if_neg (by rw [hx]; decide)]
      clear HPN HEQ hv HW1 HBX
      go_wp2_with fail
      change Calls _ _ _ (litW wr [8]) _
      generalize litW wr [8] = W2 at *
      refine (nextE HR2.out HK2.out).mono ?_
      rintro en w' ⟨rfl, rfl⟩
      rw [hx]
      clear HK2
      go_wp2_with fail
      refine (several_any 9 HV2.out (fun _ h => h.2)).mono ?_
      rintro en w5 ⟨v, rfl, ⟨A', n, c, rfl, hv⟩, hb5⟩
      have HR5 := Lib.hid (HR2.out.below hb5)
      have HF5 := Lib.hid (HF2.out.trans (Fe.of_below hb5))
      have HBX5 := Lib.hid (HBX2.out.fe (b := b) (Fe.of_below hb5) (by omega) (by omega))
      have hs5 := hb5.size
      generalize hxx : Y.several 9 l = x at *
      have HE : Hid (FormQ b w e o r (.returned (.agg #[.int .i64 x.kind, .string x.name, .int .i64 x.low, .int .i64 x.high, .slice A' n c])) (set5 w5 w.heap.size (.int .i64 x.kind) (.string x.name) (.int .i64 x.low) (.int .i64 x.high) (.slice A' n c))) := by
        have := form_end (x := x) (N := w.heap.size) (lo := w.heap.size + 1) HF5.out HR5.out (Nat.le_refl _) (by omega) hlt (hv.keep (fun i hi => (⟨hi.1, Nat.lt_of_lt_of_le hi.2 hs5⟩ : In _ _ i)) (fun _ _ => rfl))
        rw [HK.out]; exact this
      have HQ := Lib.hid (HBX5.out.set (.int .i64 x.kind) (.string x.name) (.int .i64 x.low) (.int .i64 x.high) (.slice A' n c))
      obtain ⟨⟨x0, x1, x2, x3, x4, k0, k1, k2, k3, k4⟩, fN⟩ := HBX5.out.facts
      clear hb5 hv HR2 HF2 HBX2 HR5 HF5 HBX5 HK HV2
      go_wp2_with fail
      change bodyPost _ _ _ _ _ (set5 w5 w.heap.size _ _ _ _ _)
      generalize set5 w5 w.heap.size (.int .i64 x.kind) (.string x.name) (.int .i64 x.low) (.int .i64 x.high) (.slice A' n c) = w6 at HE HQ ⊢
      obtain ⟨q0, q1, q2, q3, q4⟩ := cells5 HQ.out
      exact bodyPost_ret (v := .agg #[.int .i64 x.kind, .string x.name, .int .i64 x.low, .int .i64 x.high, .slice A' n c]) (by simp [results, Tryz.results36, go_sem, q0, q1, q2, q3, q4]) rfl HE.out
end Go.Proofs.YtdhighnbbpngpaaGreatDoor
