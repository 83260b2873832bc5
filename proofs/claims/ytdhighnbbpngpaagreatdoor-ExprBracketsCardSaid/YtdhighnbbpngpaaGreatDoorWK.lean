/- The reader of word. -/
import Derived.Test.YtdhighnbbpngpaaGreatDoorMS
import Derived.Test.YtdhighnbbpngpaaGreatDoorTok
set_option maxRecDepth 100000
namespace Go.Proofs.YtdhighnbbpngpaaGreatDoor
open Go.RowKit
open E (okb encB flat offs)
open W (Tk lexS)

/-- What a reader goes through: a text, its characters, their places. -/
structure Cx where
  At : Option Addr
  nt : Nat
  ct : Nat
  Bs : List Int
  Ac : Option Addr
  nc : Nat
  cc : Nat
  L : List Int
  Ap : Option Addr
  np : Nat
  cp : Nat
  P : List Int
/-- Where a character begins. -/
def plc (L : List Int) (i : Nat) : Nat := (flat (L.take i)).length
structure Cx.Ok (X : Cx) : Prop where
  ok : X.L.all okb = true
  flat : X.Bs = flat X.L
  few : X.Bs.length ≤ 3000
  pl : X.P = offs 0 X.L ++ [(X.Bs.length : Int)]
theorem offs_at (L : List Int) (k i : Nat) (hi : i < L.length) : (offs k L)[i]? = some ((k + plc L i : Nat) : Int) := by
  induction L generalizing k i with
  | nil => simp at hi
  | cons c t ih =>
    rw [E.offs]
    cases i with
    | zero => simp [plc, E.flat]
    | succ i =>
      simp only [List.length_cons] at hi
      rw [List.getElem?_cons_succ, ih _ i (by omega)]
      simp [plc, E.flat]; omega
theorem Cx.Ok.at_ {X : Cx} (h : X.Ok) {i : Nat} (hi : i ≤ X.L.length) : X.P[i]? = some ((plc X.L i : Nat) : Int) := by
  rw [h.pl]
  have hl := E.offs_len 0 X.L
  rcases Nat.lt_or_ge i X.L.length with h1 | h1
  · rw [List.getElem?_append_left (by omega), offs_at _ _ _ h1, Nat.zero_add]
  · have e : i = X.L.length := by omega
    rw [List.getElem?_append_right (by omega), hl, e, Nat.sub_self, h.flat]
    simp [plc]
theorem plc_le (L : List Int) (i : Nat) : plc L i ≤ (flat L).length := E.flat_mono L i
theorem plc_mono (L : List Int) {i j : Nat} (h : i ≤ j) : plc L i ≤ plc L j := by
  unfold plc
  have := E.flat_mono (L.take j) i
  rwa [List.take_take, Nat.min_eq_left h] at this
theorem flat_cut (L : List Int) (i : Nat) : (flat L).drop (plc L i) = flat (L.drop i) := by
  have : flat L = flat (L.take i) ++ flat (L.drop i) := by rw [← E.flat_app, List.take_append_drop]
  rw [this, plc, List.drop_left]
theorem flat_mid (L : List Int) {i j : Nat} (h : i ≤ j) : ((flat L).drop (plc L i)).take (plc L j - plc L i) = flat ((L.drop i).take (j - i)) := by
  rw [flat_cut]
  have e : plc L j = plc L i + (flat ((L.drop i).take (j - i))).length := by
    unfold plc
    rw [← List.length_append, ← E.flat_app, ← List.take_add, show i + (j - i) = j by omega]
  have e2 : flat (L.drop i) = flat ((L.drop i).take (j - i)) ++ flat ((L.drop i).drop (j - i)) := by rw [← E.flat_app, List.take_append_drop]
  rw [e, Nat.add_sub_cancel_left, e2, List.take_left]
/-- Tokens with their places. -/
def Cx.put (X : Cx) (t : Tk) : Tok := ⟨t.kind, t.text, t.low, t.high, plc X.L t.at_⟩
/-- Only the reader's block b and what lies from block b + 4 on may have turned. -/
structure Fr (b : Nat) (w w' : World) : Prop where
  os : w'.os = w.os
  tape : w'.tape = w.tape
  output : w'.output = w.output
  size : w.heap.size ≤ w'.heap.size
  block : ∀ i, i < b + 4 → i ≠ b → w'.heap[i]? = w.heap[i]?
theorem Fr.refl (b : Nat) (w : World) : Fr b w w := ⟨rfl, rfl, rfl, Nat.le_refl _, fun _ _ _ => rfl⟩
theorem Fr.trans {b : Nat} {a c d : World} (h : Fr b a c) (k : Fr b c d) : Fr b a d :=
  ⟨k.os.trans h.os, k.tape.trans h.tape, k.output.trans h.output, Nat.le_trans h.size k.size, fun i hi hn => (k.block i hi hn).trans (h.block i hi hn)⟩
theorem Fr.drewN {b : Nat} {a c : World} (h : Fr b a c) (q : Nat) : Fr b a (c.drewN q) := ⟨h.os, h.tape, h.output, h.size, h.block⟩
theorem Fr.set {b : Nat} {a c : World} (h : Fr b a c) (o : Nat) (v : Value) : Fr b a (c.setCell ⟨b, o, none⟩ v) :=
  h.trans ⟨rfl, rfl, rfl, by simp [World.setCell], fun i _ hi => Below.heap_setCell _ _ _ _ hi⟩
theorem Fr.below {b : Nat} {w w' : World} (h : Below w.heap.size w w') (hs : b + 4 ≤ w.heap.size) : Fr b w w' := ⟨h.os, h.tape, h.output, h.size, fun i hi _ => h.block i (by omega)⟩
/-- The reader at character p, o sets open, the tokens ts read; tv: their slice. -/
structure Rdv (X : Cx) (b : Nat) (w : World) (p o : Nat) (tv : Value) (ts : List Tk) : Prop where
  ok : X.Ok
  size : b + 4 ≤ w.heap.size
  text : RdK .u8 w b X.At X.nt X.ct X.Bs
  chars : RdK .i64 w b X.Ac X.nc X.cc X.L
  places : RdK .i64 w b X.Ap X.np X.cp X.P
  le : p ≤ X.nc
  blk : w.heap[b]? = some (.cells #[.slice X.At X.nt X.ct, .slice X.Ac X.nc X.cc, .slice X.Ap X.np X.cp, .int .i64 p, .int .i64 o, tv] 119 (0, 0))
  row : OwnT w (b + 4) tv (ts.map X.put)
def Rdw (X : Cx) (b : Nat) (w : World) (p o : Nat) (ts : List Tk) : Prop := ∃ tv, Rdv X b w p o tv ts
section
variable {X : Cx} {b : Nat} {w w' : World} {p o : Nat} {tv : Value} {ts : List Tk}
theorem Rdv.drewN (h : Rdv X b w p o tv ts) (q : Nat) : Rdv X b (w.drewN q) p o tv ts := ⟨h.ok, h.size, h.text.drewN q, h.chars.drewN q, h.places.drewN q, h.le, h.blk, h.row⟩
theorem Rdv.below (h : Rdv X b w p o tv ts) (hb : Below w.heap.size w w') : Rdv X b w' p o tv ts := by
  have hk : ∀ q : Addr, q.block < b → w'.cell? q = w.cell? q := fun q hq => hb.cell (by have := h.size; omega)
  exact ⟨h.ok, Nat.le_trans h.size hb.size, h.text.keep hk, h.chars.keep hk, h.places.keep hk, h.le, (hb.block b (by have := h.size; omega)).trans h.blk, h.row.below hb⟩
/-- The reader's own numbers turn. -/
theorem Rdv.at_ (h : Rdv X b w p o tv ts) {q : Nat} (hq : q ≤ X.nc) : Rdv X b (w.setCell ⟨b, 3, none⟩ (.int .i64 q)) q o tv ts := by
  have hk : ∀ a : Addr, a.block < b → (w.setCell ⟨b, 3, none⟩ (.int .i64 q)).cell? a = w.cell? a := fun a ha => World.cell?_of_block (w := w) (Below.heap_setCell _ _ _ _ (by show a.block ≠ b; omega))
  refine ⟨h.ok, by simp; exact h.size, h.text.keep hk, h.chars.keep hk, h.places.keep hk, hq, ?_, h.row.set (by omega) _⟩
  rw [heap_setCell_same _ _ _ _ _ _ h.blk]; rfl
theorem Rdv.open_ (h : Rdv X b w p o tv ts) (o' : Nat) : Rdv X b (w.setCell ⟨b, 4, none⟩ (.int .i64 o')) p o' tv ts := by
  have hk : ∀ a : Addr, a.block < b → (w.setCell ⟨b, 4, none⟩ (.int .i64 o')).cell? a = w.cell? a := fun a ha => World.cell?_of_block (w := w) (Below.heap_setCell _ _ _ _ (by show a.block ≠ b; omega))
  refine ⟨h.ok, by simp; exact h.size, h.text.keep hk, h.chars.keep hk, h.places.keep hk, h.le, ?_, h.row.set (by omega) _⟩
  rw [heap_setCell_same _ _ _ _ _ _ h.blk]; rfl
theorem Rdv.cells (h : Rdv X b w p o tv ts) : w.cell? ⟨b, 0, none⟩ = some (.slice X.At X.nt X.ct) ∧ w.cell? ⟨b, 1, none⟩ = some (.slice X.Ac X.nc X.cc) ∧ w.cell? ⟨b, 2, none⟩ = some (.slice X.Ap X.np X.cp) ∧ w.cell? ⟨b, 3, none⟩ = some (.int .i64 p) ∧ w.cell? ⟨b, 4, none⟩ = some (.int .i64 o) ∧ w.cell? ⟨b, 5, none⟩ = some tv := by
  refine ⟨?_, ?_, ?_, ?_, ?_, ?_⟩ <;> (rw [cell_of_row _ _ _ _ _ _ h.blk]; rfl)
theorem Rdv.fr (h : Rdv X b w p o tv ts) (j : Nat) : w.frozen? ⟨b, j, none⟩ = false := frozen_of_row _ _ _ _ _ h.blk
theorem Rdv.nc (h : Rdv X b w p o tv ts) : X.L.length = X.nc ∧ X.nc ≤ 3000 ∧ X.np = X.nc + 1 ∧ X.nt ≤ 3000 := by
  have h1 := h.chars.len
  have h2 := W.flat_len h.ok.ok
  have h3 := h.ok.few
  rw [h.ok.flat] at h3
  have h4 := h.places.len
  rw [h.ok.pl, List.length_append, E.offs_len] at h4
  have h5 := h.text.len
  rw [h.ok.flat] at h5
  simp at h4
  exact ⟨h1, by omega, by omega, by omega⟩
/-- The place of a character lies in memory. -/
theorem Rdv.place (h : Rdv X b w p o tv ts) {i : Nat} (hi : i ≤ X.nc) : ∃ b2 off, X.Ap = some ⟨b2, off, none⟩ ∧ b2 < b ∧ w.cell? ⟨b2, off + i, none⟩ = some (.int .i64 (plc X.L i : Nat)) := by
  obtain ⟨n1, _, n3, _⟩ := h.nc
  obtain ⟨b2, off, e, hb, hc⟩ := h.places.at_ (by omega)
  exact ⟨b2, off, e, hb, hc _ _ (h.ok.at_ (by omega))⟩
theorem Rdv.pbd (h : Rdv X b w p o tv ts) (i : Nat) : plc X.L i ≤ 3000 := by
  have h1 := plc_le X.L i
  have h3 := h.ok.few
  rw [h.ok.flat] at h3
  omega
end
end Go.Proofs.YtdhighnbbpngpaaGreatDoor
