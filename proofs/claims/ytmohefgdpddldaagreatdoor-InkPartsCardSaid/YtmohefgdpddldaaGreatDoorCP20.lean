/- The reader of word: a note. The reader of word: the next token, outside of sets and in one. The reader of word: the next token in a set. word.read catches what its reader panics with. word.read: all of a text. The program's word.Of. -/
import Derived.Test.YtmohefgdpddldaaGreatDoorCP17
import Derived.Test.YtmohefgdpddldaaGreatDoorCP06
import Derived.Test.YtmohefgdpddldaaGreatDoorCP18
import Derived.Deep.RegionHeldLaw
import Derived.Test.YtmohefgdpddldaaGreatDoorCP19
set_option maxRecDepth 100000
namespace Go.Proofs.YtmohefgdpddldaaGreatDoor
open Go.RowKit
open W (Tk St C lexS opn noLf many noteS allowB allowP)

def HeldN (b b2 off2 p t : Nat) (v0 v2 : Value) (plA plB : Nat) (w : World) : Prop :=
 w.cell? ⟨b, 0, none⟩ = some v0 ∧ w.cell? ⟨b, 2, none⟩ = some v2 ∧ w.cell? ⟨b, 3, none⟩ = some (.int .i64 p) ∧ w.cell? ⟨b2, off2 + p, none⟩ = some (.int .i64 plA) ∧ w.cell? ⟨b2, off2 + t, none⟩ = some (.int .i64 plB)
theorem HeldN.push {b b2 off2 p t : Nat} {v0 v2 : Value} {plA plB : Nat} {w : World} (h : HeldN b b2 off2 p t v0 v2 plA plB w) (o : Obj) : HeldN b b2 off2 p t v0 v2 plA plB (w.alloc o) := by
 obtain ⟨h0, h1, h2, h3, h4⟩ := h
 have hk : ∀ {a : Addr} {v : Value}, w.cell? a = some v → (w.alloc o).cell? a = some v := fun {a} {v} hc => ((kbelow_push w o).cell (klt_of_cell hc)).trans hc
 exact ⟨hk h0, hk h1, hk h2, hk h3, hk h4⟩
section
variable {X : Cx} {b : Nat} {w : World} {p o : Nat} {tv : Value} {ts : List Tk}
end
end Go.Proofs.YtmohefgdpddldaaGreatDoor
namespace Go.Proofs.YtmohefgdpddldaaGreatDoor
open Go.RowKit
open W (Tk St C lexS opn dgB signK outS inS stepS lastK nameS setS numT noteS charsS)

section
variable {X : Cx} {b : Nat} {w : World} {p o : Nat} {tv : Value} {ts : List Tk}
end
end Go.Proofs.YtmohefgdpddldaaGreatDoor
namespace Go.Proofs.YtmohefgdpddldaaGreatDoor
open Go.RowKit
open W (Tk St C lexS opn dgB signK outS inS stepS lastK nameS setS numT noteS charsS)

section
variable {X : Cx} {b : Nat} {w : World} {p o : Nat} {tv : Value} {ts : List Tk}
end
end Go.Proofs.YtmohefgdpddldaaGreatDoor
namespace Go.Proofs.YtmohefgdpddldaaGreatDoor
open Go.RowKit

structure Tri (w : World) (b : Nat) (tv : Value) (v2 v3 : Int) : Prop where
 k1 : w.heap[b + 1]? = some (.cells #[tv] 38 (0, 0))
 k2 : w.heap[b + 2]? = some (.cells #[.int .i64 v2] 3 (0, 0))
 k3 : w.heap[b + 3]? = some (.cells #[.int .i64 v3] 29 (0, 0))
section
variable {w w' : World} {b : Nat} {tv : Value} {v2 v3 : Int}
theorem Tri.lt (h : Tri w b tv v2 v3) : b + 3 < w.heap.size := by
 rcases Nat.lt_or_ge (b + 3) w.heap.size with hl | hl
 ·exact hl
 ·have := h.k3; rw [Array.getElem?_eq_none hl] at this; cases this
theorem Tri.fr (h : Tri w b tv v2 v3) (hf : Fr b w w') : Tri w' b tv v2 v3 :=
 ⟨(hf.block _ (by omega) (by omega)).trans h.k1, (hf.block _ (by omega) (by omega)).trans h.k2, (hf.block _ (by omega) (by omega)).trans h.k3⟩
theorem Tri.below (h : Tri w b tv v2 v3) (hb : Below w.heap.size w w') : Tri w' b tv v2 v3 := by
 have := h.lt
 exact ⟨(hb.block _ (by omega)).trans h.k1, (hb.block _ (by omega)).trans h.k2, (hb.block _ (by omega)).trans h.k3⟩
theorem Tri.drewN (h : Tri w b tv v2 v3) (q : Nat) : Tri (w.drewN q) b tv v2 v3 := ⟨h.k1, h.k2, h.k3⟩
theorem Tri.cells (h : Tri w b tv v2 v3) : w.cell? ⟨b + 1, 0, none⟩ = some tv ∧ w.cell? ⟨b + 2, 0, none⟩ = some (.int .i64 v2) ∧ w.cell? ⟨b + 3, 0, none⟩ = some (.int .i64 v3) ∧ w.frozen? ⟨b + 1, 0, none⟩ = false ∧ w.frozen? ⟨b + 2, 0, none⟩ = false ∧ w.frozen? ⟨b + 3, 0, none⟩ = false := by
 refine ⟨?_, ?_, ?_, frozen_of_row _ _ _ _ _ h.k1, frozen_of_row _ _ _ _ _ h.k2, frozen_of_row _ _ _ _ _ h.k3⟩
 ·rw [cell_of_row _ _ _ _ _ _ h.k1]; rfl
 ·rw [cell_of_row _ _ _ _ _ _ h.k2]; rfl
 ·rw [cell_of_row _ _ _ _ _ _ h.k3]; rfl
theorem Tri.put (h : Tri w b tv v2 v3) (x1 : Value) (x2 x3 : Int) : Tri (((w.setCell ⟨b + 1, 0, none⟩ x1).setCell ⟨b + 2, 0, none⟩ (.int .i64 x2)).setCell ⟨b + 3, 0, none⟩ (.int .i64 x3)) b x1 x2 x3 := by
 refine ⟨?_, ?_, ?_⟩
 ·rw [heap_setCell_other _ _ _ _ (by show b + 1 ≠ b + 3; omega), heap_setCell_other _ _ _ _ (by show b + 1 ≠ b + 2; omega), heap_setCell_same _ _ _ _ _ _ h.k1]; rfl
 ·rw [heap_setCell_other _ _ _ _ (by show b + 2 ≠ b + 3; omega), heap_setCell_same _ _ _ _ _ _ ((heap_setCell_other _ _ _ _ (by show b + 2 ≠ b + 1; omega)).trans h.k2)]; rfl
 ·rw [heap_setCell_same _ _ _ _ _ _ ((heap_setCell_other _ _ _ _ (by show b + 3 ≠ b + 2; omega)).trans ((heap_setCell_other _ _ _ _ (by show b + 3 ≠ b + 1; omega)).trans h.k3))]; rfl
end
end Go.Proofs.YtmohefgdpddldaaGreatDoor
namespace Go.Proofs.YtmohefgdpddldaaGreatDoor
open Go.RowKit
open W (Tk St C Lx lexS opn outS inS stepS lastK)

theorem opn_le (k : Int) (o : Nat) : opn k o ≤ o + 1 := by unfold W.opn; split <;> (try split) <;> omega
theorem Fr.all {b : Nat} {w W0 w1 : World} (hb : Below b w W0) (hf : Fr b W0 w1) : Below b w w1 :=
 ⟨hf.os.trans hb.os, hf.tape.trans hb.tape, hf.output.trans hb.output, Nat.le_trans hb.size hf.size, fun i hi => (hf.block i (by omega) (by omega)).trans (hb.block i hi)⟩
end Go.Proofs.YtmohefgdpddldaaGreatDoor
namespace Go.Proofs.YtmohefgdpddldaaGreatDoor
open Go.RowKit
open E (okb encB flat offs DecIs Upto)
open W (Tk Lx lexS)

def placed (L : List Int) (ts : List Tk) : List Tok := ts.map fun t => ⟨t.kind, t.text, t.low, t.high, plc L t.at_⟩
inductive TokIs (Bs : List Int) : List Tok → Int → Int → Prop where
 | dec (cs ats : List Int) (x er : Int) (h : DecIs Bs cs ats x er) (he : er ≠ 0) : TokIs Bs [] x er
 | bad (cs ats : List Int) (x : Int) (h : DecIs Bs cs ats x 0) (k : Nat) (er : Int) (hl : lexS cs 0 0 [] = .bad k er) : TokIs Bs [] (plc cs k : Nat) er
 | ok (cs ats : List Int) (x : Int) (h : DecIs Bs cs ats x 0) (ts : List Tk) (hl : lexS cs 0 0 [] = .ok ts) : TokIs Bs (placed cs ts) (-1) 0
def OfP5 (w : World) (Bs : List Int) (e : Ending) (w' : World) : Prop := ∃ (A : Option Addr) (n c : Nat) (l : List Tok) (x er : Int),
 e = .returned (.tuple #[.slice A n c, .int .i64 x, .int .i64 er]) ∧ RdT w' w'.heap.size A n c l ∧ TokIs Bs l x er ∧ Below w.heap.size w w'
theorem dec_ok {Bs cs ats : List Int} {x er : Int} (h : DecIs Bs cs ats x er) (he : er = 0) : cs.all okb = true ∧ Bs = flat cs ∧ Bs.length ≤ 3000 ∧ ats = offs 0 cs ++ [(Bs.length : Int)] := by
 cases h with
 | ok _ hl hu => exact ⟨List.all_eq_true.2 hu.ok, by have := hu.eq; rw [List.take_length] at this; exact this, hl, rfl⟩
 | bad _ _ _ _ _ _ => omega
 | long _ => omega
end Go.Proofs.YtmohefgdpddldaaGreatDoor
