/- The reader of expr: part. The reader of expr: all functions, by induction; items in memory. The reader of expr: item. The reader of expr: items. The reader of expr: items, walked. Whether items are the same: the program's Items. Whether all of several items are so. Whether all of several bytes are so. The small functions of byte8 and of the library under it, and the document's of one character's bytes. The small functions of word: letters, digits, marks, signs; digits counted, and their value. The number that a text begins with. Strings of bytes; which errors reading a character may have. Letters of a text; the token of an #allow. The program's ink: whether a form may be written. The program's ink: names. The program's ink: forms that may be written. The program's ink: names, and sets. The program's ink: what stands in a set. The program's ink: what stands outside of sets; how deep; Right. Plain facts: what the document lets be written is what the program does. Plain facts on words: notes and what they allow, in bytes as in characters. The library's contracts, laid at this translation. bytes.Cut at a blank, bytes.CutPrefix; the token of an #allow. The token of an #allow. The reader of word. The reader of word: fail, char, skip. The reader of word: put. The reader of word: set, number. The document's lexer of layer 5: its memory; fail, is, put. The document's lexer of layer 5: put. The document's lexer of layer 5: letters, digits; what a method of it leaves. The document's Plain. The document's hexadecimal digits and the text of a character. -/
import Derived.Test.YtmohefgdpddldaaGreatDoorCW01
import Derived.OwnWalk
import Derived.Lib.ConvBytes
import Derived.Lib.UnsafeStr
import Derived.Laws.AppendOwn
import Derived.Shelf.Strings.Trim
import Derived.Shelf.Strconv.Itoa3
import Derived.Test.YtmohefgdpddldaaGreatDoorProg
import Derived.Recover
import Derived.Laws.Pointers
import Derived.StillTailTactics
import Derived.Deep.RegionHeldLaw
import Derived.IntWalk
set_option maxRecDepth 100000
namespace Go.Proofs.YtmohefgdpddldaaGreatDoor
open Go.RowKit
open Y (Nd It Ps nextP takeP failP noTok noName deepP formP orsP joinP piecesP pieceP bareP setP partsP partP heldP memberP)

theorem Fe.drew {b : Nat} {a c : World} (h : Fe b a c) : Fe b a c.drew := ⟨h.os, h.tape, h.output, h.size, h.block⟩
end Go.Proofs.YtmohefgdpddldaaGreatDoor
namespace Go.Proofs.YtmohefgdpddldaaGreatDoor
open Go.RowKit
open Y (Nd It Ps nextP takeP failP noTok noName zeroN deepP formP orsP joinP piecesP pieceP bareP setP partsP partP heldP memberP)

/-- The cells of an item. -/
def itC (x : It) (Ab : Option Addr) (nb cb : Nat) (Aa : Option Addr) (na ca : Nat) : List Value := [.int .i64 x.kind, .string x.name, .int .i64 x.number, .bool x.cut, .int .i64 x.before.kind, .string x.before.name, .int .i64 x.before.low, .int .i64 x.before.high, .slice Ab nb cb, .int .i64 x.after.kind, .string x.after.name, .int .i64 x.after.low, .int .i64 x.after.high, .slice Aa na ca, .int .i64 x.pos]
def itV (x : It) (Ab : Option Addr) (nb cb : Nat) (Aa : Option Addr) (na ca : Nat) : Value := .agg #[.int .i64 x.kind, .string x.name, .int .i64 x.number, .bool x.cut, .int .i64 x.before.kind, .string x.before.name, .int .i64 x.before.low, .int .i64 x.before.high, .slice Ab nb cb, .int .i64 x.after.kind, .string x.after.name, .int .i64 x.after.low, .int .i64 x.after.high, .slice Aa na ca, .int .i64 x.pos]
def ItAt (w : World) (S : Nat → Prop) (cs : List Value) (x : It) : Prop := ∃ Ab nb cb Aa na ca, cs = itC x Ab nb cb Aa na ca ∧ RdN w S Ab nb cb x.before.kids ∧ RdN w S Aa na ca x.after.kids
def IsI (w : World) (S : Nat → Prop) (v : Value) (x : It) : Prop := ∃ Ab nb cb Aa na ca, v = itV x Ab nb cb Aa na ca ∧ RdN w S Ab nb cb x.before.kids ∧ RdN w S Aa na ca x.after.kids
theorem ItAt.keep {w w' : World} {S S' : Nat → Prop} {cs : List Value} {x : It} (h : ItAt w S cs x) (hS : ∀ b, S b → S' b) (hk : ∀ p : Addr, S p.block → w'.cell? p = w.cell? p) : ItAt w' S' cs x := by
 obtain ⟨Ab, nb, cb, Aa, na, ca, e, h1, h2⟩ := h
 exact ⟨Ab, nb, cb, Aa, na, ca, e, h1.keep hS hk, h2.keep hS hk⟩
/-- A slice value reads as these items. -/
structure RdI6 (w : World) (S : Nat → Prop) (A : Option Addr) (n c : Nat) (l : List It) : Prop where
 len : l.length = n
 cap : n ≤ c
 capm : c ≤ maxLen
 at_ : ∃ cs : Nat → List Value, (0 < n → ∃ b off, A = some ⟨b, off, none⟩ ∧ S b ∧ ∀ i, i < n → ∀ j u, (cs i)[j]? = some u → w.cell? ⟨b, off + (i * 15 + j), none⟩ = some u) ∧ ∀ i x, l[i]? = some x → ItAt w S (cs i) x
theorem RdI6.keep {w w' : World} {S S' : Nat → Prop} {A : Option Addr} {n c : Nat} {l : List It} (h : RdI6 w S A n c l) (hS : ∀ b, S b → S' b) (hk : ∀ p : Addr, S p.block → w'.cell? p = w.cell? p) : RdI6 w' S' A n c l := by
 obtain ⟨h1, h2, h3, cs, h4, h5⟩ := h
 refine ⟨h1, h2, h3, cs, fun hn => ?_, fun i x hx => (h5 i x hx).keep hS hk⟩
 obtain ⟨b, off, e, hb, hcc⟩ := h4 hn
 exact ⟨b, off, e, hS b hb, fun i hi j u hu => (hk ⟨b, _, none⟩ hb).trans (hcc i hi j u hu)⟩
theorem RdI6.nil (w : World) (S : Nat → Prop) : RdI6 w S none 0 0 [] := ⟨rfl, Nat.le_refl _, by simp [maxLen], fun _ => [], fun h => absurd h (by omega), fun i x hx => by simp at hx⟩
/-- Fifteen cells are stored. -/
def set15 (w : World) (N : Nat) (a0 a1 a2 a3 a4 a5 a6 a7 a8 a9 a10 a11 a12 a13 a14 : Value) : World := (((((((((((((((w.setCell ⟨N, 0, none⟩ a0).setCell ⟨N, 1, none⟩ a1).setCell ⟨N, 2, none⟩ a2).setCell ⟨N, 3, none⟩ a3).setCell ⟨N, 4, none⟩ a4).setCell ⟨N, 5, none⟩ a5).setCell ⟨N, 6, none⟩ a6).setCell ⟨N, 7, none⟩ a7).setCell ⟨N, 8, none⟩ a8).setCell ⟨N, 9, none⟩ a9).setCell ⟨N, 10, none⟩ a10).setCell ⟨N, 11, none⟩ a11).setCell ⟨N, 12, none⟩ a12).setCell ⟨N, 13, none⟩ a13).setCell ⟨N, 14, none⟩ a14)
theorem set15_row {w : World} {N : Nat} {x0 x1 x2 x3 x4 x5 x6 x7 x8 x9 x10 x11 x12 x13 x14 : Value} {t : TypeId} (h : w.heap[N]? = some (.cells #[x0, x1, x2, x3, x4, x5, x6, x7, x8, x9, x10, x11, x12, x13, x14] t (0, 0))) (a0 a1 a2 a3 a4 a5 a6 a7 a8 a9 a10 a11 a12 a13 a14 : Value) : (set15 w N a0 a1 a2 a3 a4 a5 a6 a7 a8 a9 a10 a11 a12 a13 a14).heap[N]? = some (.cells #[a0, a1, a2, a3, a4, a5, a6, a7, a8, a9, a10, a11, a12, a13, a14] t (0, 0)) := by
 have h0 : (w.setCell ⟨N, 0, none⟩ a0).heap[N]? = some (.cells #[a0, x1, x2, x3, x4, x5, x6, x7, x8, x9, x10, x11, x12, x13, x14] t (0, 0)) := heap_setCell_same _ _ _ _ _ _ h
 have h1 : ((w.setCell ⟨N, 0, none⟩ a0).setCell ⟨N, 1, none⟩ a1).heap[N]? = some (.cells #[a0, a1, x2, x3, x4, x5, x6, x7, x8, x9, x10, x11, x12, x13, x14] t (0, 0)) := heap_setCell_same _ _ _ _ _ _ h0
 have h2 : (((w.setCell ⟨N, 0, none⟩ a0).setCell ⟨N, 1, none⟩ a1).setCell ⟨N, 2, none⟩ a2).heap[N]? = some (.cells #[a0, a1, a2, x3, x4, x5, x6, x7, x8, x9, x10, x11, x12, x13, x14] t (0, 0)) := heap_setCell_same _ _ _ _ _ _ h1
 have h3 : ((((w.setCell ⟨N, 0, none⟩ a0).setCell ⟨N, 1, none⟩ a1).setCell ⟨N, 2, none⟩ a2).setCell ⟨N, 3, none⟩ a3).heap[N]? = some (.cells #[a0, a1, a2, a3, x4, x5, x6, x7, x8, x9, x10, x11, x12, x13, x14] t (0, 0)) := heap_setCell_same _ _ _ _ _ _ h2
 have h4 : (((((w.setCell ⟨N, 0, none⟩ a0).setCell ⟨N, 1, none⟩ a1).setCell ⟨N, 2, none⟩ a2).setCell ⟨N, 3, none⟩ a3).setCell ⟨N, 4, none⟩ a4).heap[N]? = some (.cells #[a0, a1, a2, a3, a4, x5, x6, x7, x8, x9, x10, x11, x12, x13, x14] t (0, 0)) := heap_setCell_same _ _ _ _ _ _ h3
 have h5 : ((((((w.setCell ⟨N, 0, none⟩ a0).setCell ⟨N, 1, none⟩ a1).setCell ⟨N, 2, none⟩ a2).setCell ⟨N, 3, none⟩ a3).setCell ⟨N, 4, none⟩ a4).setCell ⟨N, 5, none⟩ a5).heap[N]? = some (.cells #[a0, a1, a2, a3, a4, a5, x6, x7, x8, x9, x10, x11, x12, x13, x14] t (0, 0)) := heap_setCell_same _ _ _ _ _ _ h4
 have h6 : (((((((w.setCell ⟨N, 0, none⟩ a0).setCell ⟨N, 1, none⟩ a1).setCell ⟨N, 2, none⟩ a2).setCell ⟨N, 3, none⟩ a3).setCell ⟨N, 4, none⟩ a4).setCell ⟨N, 5, none⟩ a5).setCell ⟨N, 6, none⟩ a6).heap[N]? = some (.cells #[a0, a1, a2, a3, a4, a5, a6, x7, x8, x9, x10, x11, x12, x13, x14] t (0, 0)) := heap_setCell_same _ _ _ _ _ _ h5
 have h7 : ((((((((w.setCell ⟨N, 0, none⟩ a0).setCell ⟨N, 1, none⟩ a1).setCell ⟨N, 2, none⟩ a2).setCell ⟨N, 3, none⟩ a3).setCell ⟨N, 4, none⟩ a4).setCell ⟨N, 5, none⟩ a5).setCell ⟨N, 6, none⟩ a6).setCell ⟨N, 7, none⟩ a7).heap[N]? = some (.cells #[a0, a1, a2, a3, a4, a5, a6, a7, x8, x9, x10, x11, x12, x13, x14] t (0, 0)) := heap_setCell_same _ _ _ _ _ _ h6
 have h8 : (((((((((w.setCell ⟨N, 0, none⟩ a0).setCell ⟨N, 1, none⟩ a1).setCell ⟨N, 2, none⟩ a2).setCell ⟨N, 3, none⟩ a3).setCell ⟨N, 4, none⟩ a4).setCell ⟨N, 5, none⟩ a5).setCell ⟨N, 6, none⟩ a6).setCell ⟨N, 7, none⟩ a7).setCell ⟨N, 8, none⟩ a8).heap[N]? = some (.cells #[a0, a1, a2, a3, a4, a5, a6, a7, a8, x9, x10, x11, x12, x13, x14] t (0, 0)) := heap_setCell_same _ _ _ _ _ _ h7
 have h9 : ((((((((((w.setCell ⟨N, 0, none⟩ a0).setCell ⟨N, 1, none⟩ a1).setCell ⟨N, 2, none⟩ a2).setCell ⟨N, 3, none⟩ a3).setCell ⟨N, 4, none⟩ a4).setCell ⟨N, 5, none⟩ a5).setCell ⟨N, 6, none⟩ a6).setCell ⟨N, 7, none⟩ a7).setCell ⟨N, 8, none⟩ a8).setCell ⟨N, 9, none⟩ a9).heap[N]? = some (.cells #[a0, a1, a2, a3, a4, a5, a6, a7, a8, a9, x10, x11, x12, x13, x14] t (0, 0)) := heap_setCell_same _ _ _ _ _ _ h8
 have h10 : (((((((((((w.setCell ⟨N, 0, none⟩ a0).setCell ⟨N, 1, none⟩ a1).setCell ⟨N, 2, none⟩ a2).setCell ⟨N, 3, none⟩ a3).setCell ⟨N, 4, none⟩ a4).setCell ⟨N, 5, none⟩ a5).setCell ⟨N, 6, none⟩ a6).setCell ⟨N, 7, none⟩ a7).setCell ⟨N, 8, none⟩ a8).setCell ⟨N, 9, none⟩ a9).setCell ⟨N, 10, none⟩ a10).heap[N]? = some (.cells #[a0, a1, a2, a3, a4, a5, a6, a7, a8, a9, a10, x11, x12, x13, x14] t (0, 0)) := heap_setCell_same _ _ _ _ _ _ h9
 have h11 : ((((((((((((w.setCell ⟨N, 0, none⟩ a0).setCell ⟨N, 1, none⟩ a1).setCell ⟨N, 2, none⟩ a2).setCell ⟨N, 3, none⟩ a3).setCell ⟨N, 4, none⟩ a4).setCell ⟨N, 5, none⟩ a5).setCell ⟨N, 6, none⟩ a6).setCell ⟨N, 7, none⟩ a7).setCell ⟨N, 8, none⟩ a8).setCell ⟨N, 9, none⟩ a9).setCell ⟨N, 10, none⟩ a10).setCell ⟨N, 11, none⟩ a11).heap[N]? = some (.cells #[a0, a1, a2, a3, a4, a5, a6, a7, a8, a9, a10, a11, x12, x13, x14] t (0, 0)) := heap_setCell_same _ _ _ _ _ _ h10
 have h12 : (((((((((((((w.setCell ⟨N, 0, none⟩ a0).setCell ⟨N, 1, none⟩ a1).setCell ⟨N, 2, none⟩ a2).setCell ⟨N, 3, none⟩ a3).setCell ⟨N, 4, none⟩ a4).setCell ⟨N, 5, none⟩ a5).setCell ⟨N, 6, none⟩ a6).setCell ⟨N, 7, none⟩ a7).setCell ⟨N, 8, none⟩ a8).setCell ⟨N, 9, none⟩ a9).setCell ⟨N, 10, none⟩ a10).setCell ⟨N, 11, none⟩ a11).setCell ⟨N, 12, none⟩ a12).heap[N]? = some (.cells #[a0, a1, a2, a3, a4, a5, a6, a7, a8, a9, a10, a11, a12, x13, x14] t (0, 0)) := heap_setCell_same _ _ _ _ _ _ h11
 have h13 : ((((((((((((((w.setCell ⟨N, 0, none⟩ a0).setCell ⟨N, 1, none⟩ a1).setCell ⟨N, 2, none⟩ a2).setCell ⟨N, 3, none⟩ a3).setCell ⟨N, 4, none⟩ a4).setCell ⟨N, 5, none⟩ a5).setCell ⟨N, 6, none⟩ a6).setCell ⟨N, 7, none⟩ a7).setCell ⟨N, 8, none⟩ a8).setCell ⟨N, 9, none⟩ a9).setCell ⟨N, 10, none⟩ a10).setCell ⟨N, 11, none⟩ a11).setCell ⟨N, 12, none⟩ a12).setCell ⟨N, 13, none⟩ a13).heap[N]? = some (.cells #[a0, a1, a2, a3, a4, a5, a6, a7, a8, a9, a10, a11, a12, a13, x14] t (0, 0)) := heap_setCell_same _ _ _ _ _ _ h12
 have h14 : (((((((((((((((w.setCell ⟨N, 0, none⟩ a0).setCell ⟨N, 1, none⟩ a1).setCell ⟨N, 2, none⟩ a2).setCell ⟨N, 3, none⟩ a3).setCell ⟨N, 4, none⟩ a4).setCell ⟨N, 5, none⟩ a5).setCell ⟨N, 6, none⟩ a6).setCell ⟨N, 7, none⟩ a7).setCell ⟨N, 8, none⟩ a8).setCell ⟨N, 9, none⟩ a9).setCell ⟨N, 10, none⟩ a10).setCell ⟨N, 11, none⟩ a11).setCell ⟨N, 12, none⟩ a12).setCell ⟨N, 13, none⟩ a13).setCell ⟨N, 14, none⟩ a14).heap[N]? = some (.cells #[a0, a1, a2, a3, a4, a5, a6, a7, a8, a9, a10, a11, a12, a13, a14] t (0, 0)) := heap_setCell_same _ _ _ _ _ _ h13
 exact h14
theorem set15_size (w : World) (N : Nat) (a0 a1 a2 a3 a4 a5 a6 a7 a8 a9 a10 a11 a12 a13 a14 : Value) : (set15 w N a0 a1 a2 a3 a4 a5 a6 a7 a8 a9 a10 a11 a12 a13 a14).heap.size = w.heap.size := by simp [set15]
theorem set15_block (w : World) (N : Nat) (a0 a1 a2 a3 a4 a5 a6 a7 a8 a9 a10 a11 a12 a13 a14 : Value) {i : Nat} (hi : i ≠ N) : (set15 w N a0 a1 a2 a3 a4 a5 a6 a7 a8 a9 a10 a11 a12 a13 a14).heap[i]? = w.heap[i]? := by
 unfold set15
 rw [Below.heap_setCell _ _ _ _ hi]; rw [Below.heap_setCell _ _ _ _ hi]; rw [Below.heap_setCell _ _ _ _ hi]; rw [Below.heap_setCell _ _ _ _ hi]; rw [Below.heap_setCell _ _ _ _ hi]; rw [Below.heap_setCell _ _ _ _ hi]; rw [Below.heap_setCell _ _ _ _ hi]; rw [Below.heap_setCell _ _ _ _ hi]; rw [Below.heap_setCell _ _ _ _ hi]; rw [Below.heap_setCell _ _ _ _ hi]; rw [Below.heap_setCell _ _ _ _ hi]; rw [Below.heap_setCell _ _ _ _ hi]; rw [Below.heap_setCell _ _ _ _ hi]; rw [Below.heap_setCell _ _ _ _ hi]; rw [Below.heap_setCell _ _ _ _ hi]
theorem Fe.set15 {b : Nat} {a c : World} (h : Fe b a c) {g : Nat} (hg : g = b ∨ a.heap.size ≤ g) (a0 a1 a2 a3 a4 a5 a6 a7 a8 a9 a10 a11 a12 a13 a14 : Value) : Fe b a (set15 c g a0 a1 a2 a3 a4 a5 a6 a7 a8 a9 a10 a11 a12 a13 a14) :=
 ((((((((((((((h.set hg _ _).set hg _ _).set hg _ _).set hg _ _).set hg _ _).set hg _ _).set hg _ _).set hg _ _).set hg _ _).set hg _ _).set hg _ _).set hg _ _).set hg _ _).set hg _ _).set hg _ _
theorem cells15 {w : World} {N : Nat} {x0 x1 x2 x3 x4 x5 x6 x7 x8 x9 x10 x11 x12 x13 x14 : Value} {t : TypeId} (h : w.heap[N]? = some (.cells #[x0, x1, x2, x3, x4, x5, x6, x7, x8, x9, x10, x11, x12, x13, x14] t (0, 0))) :
  w.cell? ⟨N, 0, none⟩ = some x0 ∧ w.cell? ⟨N, 1, none⟩ = some x1 ∧ w.cell? ⟨N, 2, none⟩ = some x2 ∧ w.cell? ⟨N, 3, none⟩ = some x3 ∧ w.cell? ⟨N, 4, none⟩ = some x4 ∧ w.cell? ⟨N, 5, none⟩ = some x5 ∧ w.cell? ⟨N, 6, none⟩ = some x6 ∧ w.cell? ⟨N, 7, none⟩ = some x7 ∧ w.cell? ⟨N, 8, none⟩ = some x8 ∧ w.cell? ⟨N, 9, none⟩ = some x9 ∧ w.cell? ⟨N, 10, none⟩ = some x10 ∧ w.cell? ⟨N, 11, none⟩ = some x11 ∧ w.cell? ⟨N, 12, none⟩ = some x12 ∧ w.cell? ⟨N, 13, none⟩ = some x13 ∧ w.cell? ⟨N, 14, none⟩ = some x14 := by
 refine ⟨?_, ?_, ?_, ?_, ?_, ?_, ?_, ?_, ?_, ?_, ?_, ?_, ?_, ?_, ?_⟩ <;> (rw [cell_of_row _ _ _ _ _ _ h]; rfl)
def Box15 (w : World) (N : Nat) : Prop := ∃ x0 x1 x2 x3 x4 x5 x6 x7 x8 x9 x10 x11 x12 x13 x14 : Value, w.heap[N]? = some (.cells #[x0, x1, x2, x3, x4, x5, x6, x7, x8, x9, x10, x11, x12, x13, x14] 35 (0, 0))
theorem Box15.fe {b N : Nat} {w w' : World} (h : Box15 w N) (hf : Fe b w w') (hN : N ≠ b) (hs : N < w.heap.size) : Box15 w' N := by
 obtain ⟨x0, x1, x2, x3, x4, x5, x6, x7, x8, x9, x10, x11, x12, x13, x14, h⟩ := h
 exact ⟨x0, x1, x2, x3, x4, x5, x6, x7, x8, x9, x10, x11, x12, x13, x14, (hf.block N hs hN).trans h⟩
theorem Box15.set {w : World} {N : Nat} (h : Box15 w N) (a0 a1 a2 a3 a4 a5 a6 a7 a8 a9 a10 a11 a12 a13 a14 : Value) : (set15 w N a0 a1 a2 a3 a4 a5 a6 a7 a8 a9 a10 a11 a12 a13 a14).heap[N]? = some (.cells #[a0, a1, a2, a3, a4, a5, a6, a7, a8, a9, a10, a11, a12, a13, a14] 35 (0, 0)) := by
 obtain ⟨x0, x1, x2, x3, x4, x5, x6, x7, x8, x9, x10, x11, x12, x13, x14, h⟩ := h
 exact set15_row h _ _ _ _ _ _ _ _ _ _ _ _ _ _ _
def zeroI : Obj := .cells #[.int .i64 0, .string { data := #[] }, .int .i64 0, .bool false, .int .i64 0, .string { data := #[] }, .int .i64 0, .int .i64 0, .slice none 0 0, .int .i64 0, .string { data := #[] }, .int .i64 0, .int .i64 0, .slice none 0 0, .int .i64 0] 35
def begI (w : World) : World := w.alloc zeroI
theorem begI_box (w : World) : Box15 (begI w) w.heap.size := ⟨_, _, _, _, _, _, _, _, _, _, _, _, _, _, _, heap_alloc_new w _⟩
theorem begI_below (w : World) : Below w.heap.size w (begI w) := kbelow_push w _
theorem begI_size (w : World) : (begI w).heap.size = w.heap.size + 1 := by simp [begI]
/-- The result's cells of an item, stored. -/
def set15I (w : World) (N : Nat) (x : It) (Ab : Option Addr) (nb cb : Nat) (Aa : Option Addr) (na ca : Nat) : World :=
 set15 w N (.int .i64 x.kind) (.string x.name) (.int .i64 x.number) (.bool x.cut) (.int .i64 x.before.kind) (.string x.before.name) (.int .i64 x.before.low) (.int .i64 x.before.high) (.slice Ab nb cb) (.int .i64 x.after.kind) (.string x.after.name) (.int .i64 x.after.low) (.int .i64 x.after.high) (.slice Aa na ca) (.int .i64 x.pos)
end Go.Proofs.YtmohefgdpddldaaGreatDoor
namespace Go.Proofs.YtmohefgdpddldaaGreatDoor
open Go.RowKit
open Y (Nd It Ps nextP takeP failP noTok noName zeroN formP itemP)

end Go.Proofs.YtmohefgdpddldaaGreatDoor
namespace Go.Proofs.YtmohefgdpddldaaGreatDoor
open Go.RowKit
open Y (Nd It Ps nextP takeP failP noTok noName zeroN formP itemP lineP itemsP)

theorem item_less (e : Int) (n : Nat) (s : Ps) (h : s.toks ≠ []) : (itemP e n s).2.toks.length < s.toks.length := by
 have h1 : (takeP e [1, 2, 19] s).2.toks.length < s.toks.length := by
  rcases s with (_ | ⟨t, u⟩) | ⟨a, y⟩
  ·exact absurd rfl h
  ·rw [Y.take_cons]; split <;> simp [Y.Ps.toks]
  ·exact absurd rfl h
 unfold Y.itemP
 split
 ·exact Nat.lt_of_le_of_lt (Nat.le_trans ((Y.len_all e n).form _ _) (Y.take_len _ _ _)) h1
 ·split
  ·exact Nat.lt_of_le_of_lt (Nat.le_trans ((Y.len_all e n).form _ _) (Nat.le_trans (Y.take_len _ _ _) ((Y.len_all e n).form _ _))) h1
  ·exact h1
/-- A row of items of one's own. -/
def OwnI (w : World) (B : Nat) (v : Value) (l : List It) : Prop := ∃ cs, w.ownsRow B 35 15 v l.length cs ∧ ∀ i x, l[i]? = some x → ItAt w (fun b => B ≤ b ∧ b < w.heap.size ∧ v.ownBlock ≠ some b) ((cs.drop (i * 15)).take 15) x
theorem info_it : (Tryz.prog.info? 35).map (fun i => (i.zero, i.size, i.bytes)) = some (some (.agg #[.int .i64 0, .string { data := #[] }, .int .i64 0, .bool false, .int .i64 0, .string { data := #[] }, .int .i64 0, .int .i64 0, .slice none 0 0, .int .i64 0, .string { data := #[] }, .int .i64 0, .int .i64 0, .slice none 0 0, .int .i64 0]), 15, 176) := by kernel_rfl
section
variable {w w' : World} {B : Nat} {v : Value} {l : List It}
theorem OwnI.nil (w : World) (B : Nat) : OwnI w B (.slice none 0 0) [] := ⟨[], World.ownsRow_nil w B _ 15, fun i x hx => by simp at hx⟩
theorem OwnI.rd (h : OwnI w B v l) : ∃ A c, v = .slice A l.length c ∧ RdI6 w (In B w.heap.size) A l.length c l := by
 obtain ⟨cs, ho, hk⟩ := h
 have hs : ∀ i x, l[i]? = some x → ItAt w (In B w.heap.size) ((cs.drop (i * 15)).take 15) x := fun i x hx => (hk i x hx).keep (fun b hb => ⟨hb.1, hb.2.1⟩) (fun _ _ => rfl)
 rcases ho.2 with ⟨h1, h2⟩ | ⟨g, cap, cur, h1, hB, hg, h3, h4, _, _⟩
 ·subst h1
  have : l = [] := List.eq_nil_of_length_eq_zero h2
  subst this
  exact ⟨none, 0, rfl, RdI6.nil _ _⟩
 ·subst h1
  have hlt : g < w.heap.size := by
   rcases Nat.lt_or_ge g w.heap.size with hlt | hge
   ·exact hlt
   ·rw [Array.getElem?_eq_none hge] at hg; cases hg
  refine ⟨_, cap, rfl, rfl, h3, h4, fun i => (cs.drop (i * 15)).take 15, fun _ => ⟨g, 0, rfl, ⟨hB, hlt⟩, fun i hi j u hu => ?_⟩, hs⟩
  rw [← kadd_none]
  have hj : j < 15 := by
   have := (List.getElem?_eq_some_iff.1 hu).1; rw [List.length_take] at this; omega
  rw [List.getElem?_take_of_lt hj, List.getElem?_drop] at hu
  exact World.ownsRow.cells ho (g := g) rfl _ _ hu
theorem OwnI.keep (h : OwnI w B v l) (hs : w.heap.size ≤ w'.heap.size) (hb : ∀ i, B ≤ i → i < w.heap.size → w'.heap[i]? = w.heap[i]?) : OwnI w' B v l := by
 obtain ⟨cs, ho, hk⟩ := h
 exact ⟨cs, row_keep ho fun i h1 h2 _ => hb i h1 h2, fun i x hx => (hk i x hx).keep (fun b hb => ⟨hb.1, by omega, hb.2.2⟩) (fun p hp => World.cell?_of_block (hb p.block hp.1 hp.2.1))⟩
theorem OwnI.block (h : OwnI w B v l) : ∀ i, v.ownBlock = some i → B ≤ i ∧ i < w.heap.size := by
 obtain ⟨cs, ho, _⟩ := h
 exact World.ownsRow.lt ho
theorem OwnI.push {v' : Value} {ns cs : List Value} {x : It} (hk : ∀ i x, l[i]? = some x → ItAt w (fun b => B ≤ b ∧ b < w.heap.size ∧ v.ownBlock ≠ some b) ((cs.drop (i * 15)).take 15) x) (hcl : cs.length = l.length * 15)
  (hx : ItAt w (fun b => B ≤ b ∧ b < w.heap.size ∧ v.ownBlock ≠ some b) ns x) (hn : ns.length = 15) (ho : w'.ownsRow B 35 15 v' (l.length + 1) (cs ++ ns)) (hg : w.grownBy w' v.ownBlock) (hat : v'.ownBlock = v.ownBlock ∨ v'.ownBlock = some w.heap.size) : OwnI w' B v' (l ++ [x]) := by
 have hS : ∀ b, (B ≤ b ∧ b < w.heap.size ∧ v.ownBlock ≠ some b) → B ≤ b ∧ b < w'.heap.size ∧ v'.ownBlock ≠ some b := fun b ⟨h1, h2, h3⟩ => ⟨h1, Nat.lt_of_lt_of_le h2 hg.size, by
  rcases hat with e | e
  ·rw [e]; exact h3
  ·rw [e]; intro e2; injection e2 with e2; omega⟩
 have hc : ∀ p : Addr, (B ≤ p.block ∧ p.block < w.heap.size ∧ v.ownBlock ≠ some p.block) → w'.cell? p = w.cell? p := fun p ⟨_, h2, h3⟩ => World.cell?_of_block (hg.block p.block h2 (fun e => h3 e.symm))
 refine ⟨cs ++ ns, by simpa using ho, fun i y hy => ?_⟩
 rcases Nat.lt_or_ge i l.length with hi | hi
 ·rw [List.getElem?_append_left hi] at hy
  have := (hk i y hy).keep hS hc
  rw [List.drop_append_of_le_length (by omega), List.take_append_of_le_length (by rw [List.length_drop]; omega)]
  exact this
 ·have hil : i = l.length := by
   have := (List.getElem?_eq_some_iff.1 hy).1; simp at this; omega
  subst hil
  rw [List.getElem?_append_right (Nat.le_refl _), Nat.sub_self] at hy
  simp at hy
  subst hy
  rw [List.drop_append, List.drop_eq_nil_of_le (by omega), List.nil_append, hcl, Nat.sub_self, List.drop_zero, List.take_of_length_le (by omega)]
  exact hx.keep hS hc
end
theorem app_i {w : World} {ops : Array Oper} {rest : List Oper} {o : Oper} {a : Act} {Q : Exit → Act → World → Prop} (hgd : o.guard = none) (s y : Operand)
  (ho : o.op = .call { callee := .builtin .append, args := #[s, y], argTypes := #[25, 25] })
  (base : Nat) (v : Value) (l : List It) (hs : a.eval s = v) (hown : OwnI w base v l) (N : Nat) (x : It) (Ab : Option Addr) (nb cb : Nat) (Aa : Option Addr) (na ca : Nat)
  (hx : a.eval y = .slice (some ⟨N, 0, none⟩) 1 1) (hrow : w.heap[N]? = some (.cells #[.int .i64 x.kind, .string x.name, .int .i64 x.number, .bool x.cut, .int .i64 x.before.kind, .string x.before.name, .int .i64 x.before.low, .int .i64 x.before.high, .slice Ab nb cb, .int .i64 x.after.kind, .string x.after.name, .int .i64 x.after.low, .int .i64 x.after.high, .slice Aa na ca, .int .i64 x.pos] 35 (0, 0))) (hy : ItAt w (fun b => base ≤ b ∧ b < w.heap.size ∧ v.ownBlock ≠ some b) (itC x Ab nb cb Aa na ca) x)
  (h63 : l.length ≤ 1000000) (hbase : base ≤ w.heap.size)
  (h : ∀ v' w', OwnI w' base v' (l ++ [x]) → w.grownBy w' v.ownBlock → wpList Tryz.prog ops Q rest (a.put o.dst v') w') : wpList Tryz.prog ops Q (o :: rest) a w := by
 obtain ⟨i0, hi0, hz0, hz1, hz2⟩ := info_k info_it
 obtain ⟨cs, hc, hk⟩ := hown
 refine wpList_append_own_at w hgd s y 25 ho base 35 i0 _ 15 176 Tryz.underlying25 hi0 hz0 hz1 hz2 rfl (by decide) v l.length cs hs hc ⟨N, 0, none⟩ 1 1 (itC x Ab nb cb Aa na ca) hx rfl ?_ ?_ (by unfold maxLen; omega) (by omega) hbase ?_
 ·intro j u hu
  rw [kadd_none, cell_of_row _ _ _ _ _ _ hrow, Nat.zero_add]
  unfold itC at hu
  simpa using hu
 ·intro u hu
  unfold itC at hu
  simp only [List.mem_cons, List.not_mem_nil, or_false] at hu
  rcases hu with rfl | rfl | rfl | rfl | rfl | rfl | rfl | rfl | rfl | rfl | rfl | rfl | rfl | rfl | rfl <;> rfl
 ·intro v' w' h2 h3 _ h4
  exact h v' w' (OwnI.push hk hc.1 hy rfl h2 h3 h4) h3
end Go.Proofs.YtmohefgdpddldaaGreatDoor
namespace Go.Proofs.YtmohefgdpddldaaGreatDoor
open Go.RowKit
open Y (Nd It Ps nextP takeP failP noTok noName zeroN formP itemP lineP itemsP)

end Go.Proofs.YtmohefgdpddldaaGreatDoor
namespace Go.Proofs.YtmohefgdpddldaaGreatDoor
open Go.RowKit
open Y (Nd It)

theorem RdI6.on {w w' : World} {A : Option Addr} {n c : Nat} {l : List It} (h : RdI6 w (Lt w) A n c l) (hb : Below w.heap.size w w') : RdI6 w' (Lt w') A n c l :=
 h.keep (fun _ hi => Nat.lt_of_lt_of_le hi hb.size) (fun _ hp => hb.cell hp)
theorem RdI6.small {w : World} {S : Nat → Prop} {A : Option Addr} {n c : Nat} {l : List It} (h : RdI6 w S A n c l) : n ≤ 9223372036854775807 := by have h1 := h.cap; have h2 := h.capm; unfold maxLen at h2; omega
theorem RdI6.got {w : World} {S : Nat → Prop} {A : Option Addr} {n c : Nat} {l : List It} (h : RdI6 w S A n c l) {i : Nat} (hi : i < n) : ∃ (b off : Nat) (x : It) (Ab Aa : Option Addr) (nb cb na ca : Nat), A = some ⟨b, off, none⟩ ∧ S b ∧ l[i]? = some x ∧ RdN w S Ab nb cb x.before.kids ∧ RdN w S Aa na ca x.after.kids ∧
  ∀ j u, (itC x Ab nb cb Aa na ca)[j]? = some u → w.cell? ⟨b, off + i * 15 + j, none⟩ = some u := by
 obtain ⟨h1, h2, h3, cs, h4, h5⟩ := h
 obtain ⟨b, off, e, hb, hcc⟩ := h4 (by omega)
 have hx := List.getElem?_eq_getElem (l := l) (i := i) (by omega)
 obtain ⟨Ab, nb, cb, Aa, na, ca, e5, r1, r2⟩ := h5 i _ hx
 refine ⟨b, off, _, Ab, Aa, nb, cb, na, ca, e, hb, hx, r1, r2, fun j u hu => ?_⟩
 rw [Nat.add_assoc]
 exact hcc i hi j u (by rw [e5]; exact hu)
theorem it_cells {w : World} {b o : Nat} {x : It} {Ab Aa : Option Addr} {nb cb na ca : Nat} (h : ∀ j u, (itC x Ab nb cb Aa na ca)[j]? = some u → w.cell? ⟨b, o + j, none⟩ = some u) :
  w.cell? ⟨b, o, none⟩ = some (.int .i64 x.kind) ∧ w.cell? ⟨b, o + 1, none⟩ = some (.string x.name) ∧ w.cell? ⟨b, o + 2, none⟩ = some (.int .i64 x.number) ∧ w.cell? ⟨b, o + 3, none⟩ = some (.bool x.cut) ∧ w.cell? ⟨b, o + 4, none⟩ = some (.int .i64 x.before.kind) ∧ w.cell? ⟨b, o + 5, none⟩ = some (.string x.before.name) ∧ w.cell? ⟨b, o + 6, none⟩ = some (.int .i64 x.before.low) ∧ w.cell? ⟨b, o + 7, none⟩ = some (.int .i64 x.before.high) ∧ w.cell? ⟨b, o + 8, none⟩ = some (.slice Ab nb cb) ∧ w.cell? ⟨b, o + 9, none⟩ = some (.int .i64 x.after.kind) ∧ w.cell? ⟨b, o + 10, none⟩ = some (.string x.after.name) ∧ w.cell? ⟨b, o + 11, none⟩ = some (.int .i64 x.after.low) ∧ w.cell? ⟨b, o + 12, none⟩ = some (.int .i64 x.after.high) ∧ w.cell? ⟨b, o + 13, none⟩ = some (.slice Aa na ca) ∧ w.cell? ⟨b, o + 14, none⟩ = some (.int .i64 x.pos) :=
 ⟨h 0 _ rfl, h 1 _ rfl, h 2 _ rfl, h 3 _ rfl, h 4 _ rfl, h 5 _ rfl, h 6 _ rfl, h 7 _ rfl, h 8 _ rfl, h 9 _ rfl, h 10 _ rfl, h 11 _ rfl, h 12 _ rfl, h 13 _ rfl, h 14 _ rfl⟩
end Go.Proofs.YtmohefgdpddldaaGreatDoor
namespace Go.Proofs.YtmohefgdpddldaaGreatDoor
open Go.RowKit
open Y (Nd It noName)

/-- What is asked of a test of items. -/
def PredI (fn : Nat) (lb : Array Value) (p : It → Bool) (l : List It) (w : World) : Prop :=
 ∀ (W : World) (x : It) (Ab : Option Addr) (nb cb : Nat) (Aa : Option Addr) (na ca : Nat), x ∈ l → Below w.heap.size w W → RdN W (Lt W) Ab nb cb x.before.kids → RdN W (Lt W) Aa na ca x.after.kids → Calls Tryz.prog fn (#[.agg #[.int .i64 x.kind, .string x.name, .int .i64 x.number, .bool x.cut, .int .i64 x.before.kind, .string x.before.name, .int .i64 x.before.low, .int .i64 x.before.high, .slice Ab nb cb, .int .i64 x.after.kind, .string x.after.name, .int .i64 x.after.low, .int .i64 x.after.high, .slice Aa na ca, .int .i64 x.pos]] ++ lb) W (BooK W (p x))
set_option maxHeartbeats 1000000 in
theorem idxI_any {w : World} {A : Option Addr} {n c : Nat} {l : List It} (fn : Nat) (lb : Array Value) (p : It → Bool) (hg : RdI6 w (Lt w) A n c l) (eg : ∀ args w, (callFunc fn args).run Tryz.prog w = .ok (.enter fn args) w) (hp : PredI fn lb p l w) :
  Calls Tryz.prog 96 #[.slice A n c, .func (.func fn) #[] lb] w (IdxP w (l.any p)) := by
 have hn := hg.small
 have HG := Lib.hid hg
 have HP := Lib.hid hp
 have HL := Lib.hid hg.len
 clear hg hp
 go_enter Tryz.func96, Tryz.ntmps96
 go_wp2_with fail
 go_loopw [8] (fun i wr => ∃ k : Nat, k ≤ n ∧ i = .int .i64 k ∧ Hid (∀ j x, j < k → l[j]? = some x → p x = false) ∧ Hid (Below w.heap.size w wr)) (fun i _ => n - (intOf i).toNat)
 case atStart => exact ⟨0, Nat.zero_le _, rfl, fun j h hj => absurd hj (by omega), Below.refl _ _⟩
 case round =>
  obtain ⟨k, hk, rfl, HN, HB⟩ := hrel
  by_cases hlt : k < n
  ·obtain ⟨b1, o1, x, Ab, Aa, nb, cb, na, ca, rfl, hb1, hx, hr1, hr2, hc1⟩ := (HG.out.on HB.out).got hlt
   obtain ⟨s0, s1, s2, s3, s4, s5, s6, s7, s8, s9, s10, s11, s12, s13, s14⟩ := it_cells hc1
   have HX := Lib.hid hx
   have hcall := HP.out wr x Ab nb cb Aa na ca (List.mem_of_getElem? hx) HB.out hr1 hr2
   have hj0 : (0 : Int) ≤ (k : Int) := by omega
   have hj1 : (k : Int) < (n : Int) := by omega
   clear hx hr1 hr2 hb1 hc1
   cases hpx : p x
   ·rw [hpx] at hcall
    have HF : Hid (∀ j y, j < k + 1 → l[j]? = some y → p y = false) := fun j y hj hy => by
     by_cases e : j = k
     ·subst e; rw [HX.out] at hy; injection hy with hy; subst hy; exact hpx
     ·exact HN.out j y (by omega) hy
    have HC := Lib.hid hcall
    clear hpx hcall HN
    go_wp2_with fail
    refine HC.out.mono ?_
    rintro e w2 ⟨rfl, hb2⟩
    have HB2 := Lib.hid (HB.out.trans (hb2.mono HB.out.size))
    clear hb2
    go_wp2_with fail
    go_roundw
    case rel => exact ⟨k + 1, by omega, by go_num, HF.out, HB2.out⟩
    case measure => simp [intOf]; omega
   ·rw [hpx] at hcall
    have HF := Lib.hid (any_yes (p := p) HX.out hpx)
    have HC := Lib.hid hcall
    clear hpx hcall HN
    go_wp2_with fail
    refine HC.out.mono ?_
    rintro e w2 ⟨rfl, hb2⟩
    have HB2 := Lib.hid (HB.out.trans (hb2.mono HB.out.size))
    clear hb2
    go_wp2_with fail
    go_ret
    exact ⟨k, rfl, by rw [HF.out]; simp, HB2.out⟩
  ·have HF := Lib.hid (any_no (p := p) (n := k) (by have := HL.out; omega) HN.out)
   clear HN
   go_wp2_with fail
   go_ret
   exact ⟨-1, rfl, by rw [HF.out]; rfl, HB.out⟩
set_option maxHeartbeats 1000000 in
theorem conI_any {w : World} {A : Option Addr} {n c : Nat} {l : List It} (fn : Nat) (lb : Array Value) (p : It → Bool) (hg : RdI6 w (Lt w) A n c l) (eg : ∀ args w, (callFunc fn args).run Tryz.prog w = .ok (.enter fn args) w) (hp : PredI fn lb p l w) :
  Calls Tryz.prog 62 #[.slice A n c, .func (.func fn) #[] lb] w (BooK w (l.any p)) := by
 have HC := Lib.hid (idxI_any fn lb p hg eg hp)
 clear hg hp
 go_enter Tryz.func62, Tryz.ntmps62
 go_wp2_with fail
 refine HC.out.mono ?_
 rintro e w2 ⟨i, rfl, hi, hb⟩
 have HB := Lib.hid hb
 have HI := Lib.hid hi
 clear hb hi
 go_wp2_with fail
 go_ret
 exact ⟨ret_bool HI.out, HB.out⟩
/-- The test turned round, as all hands it on: it has the test in a cell of its own. -/
theorem notI_pred {w : World} (fn : Nat) (lb : Array Value) (p : It → Bool) (l : List It) (b : Nat) (hb : b < w.heap.size) (hc : w.cell? ⟨b, 0, none⟩ = some (.func (.func fn) #[] lb)) (eg : ∀ args w, (callFunc fn args).run Tryz.prog w = .ok (.enter fn args) w) (hp : PredI fn lb p l w) :
  PredI 63 #[.pointer (some ⟨b, 0, none⟩)] (fun x => !p x) l w := fun W x Ab nb cb Aa na ca hx hW hr hr2 => by
 have hc' : W.cell? ⟨b, 0, none⟩ = some (.func (.func fn) #[] lb) := (hW.cell (p := ⟨b, 0, none⟩) hb).trans hc
 have HP := Lib.hid (kbelow_push W (.cells #[.int .i64 x.kind, .string x.name, .int .i64 x.number, .bool x.cut, .int .i64 x.before.kind, .string x.before.name, .int .i64 x.before.low, .int .i64 x.before.high, .slice Ab nb cb, .int .i64 x.after.kind, .string x.after.name, .int .i64 x.after.low, .int .i64 x.after.high, .slice Aa na ca, .int .i64 x.pos] 35))
 have HC := Lib.hid (hp _ x Ab nb cb Aa na ca hx (hW.trans (HP.out.mono hW.size)) (hr.on HP.out) (hr2.on HP.out))
 have hb' : b < W.heap.size := Nat.lt_of_lt_of_le hb hW.size
 clear hr hr2 hW hc hp
 go_enter Tryz.func63, Tryz.ntmps63
 go_wp2_with fail
 refine HC.out.mono ?_
 rintro e w2 ⟨rfl, hb2⟩
 have HB := Lib.hid (HP.out.trans (hb2.mono HP.out.size))
 clear hb2
 go_wp2_with fail
 go_ret
 exact ⟨rfl, HB.out⟩
theorem allI_any {w : World} {A : Option Addr} {n c : Nat} {l : List It} (fn : Nat) (lb : Array Value) (p : It → Bool) (hg : RdI6 w (Lt w) A n c l) (eg : ∀ args w, (callFunc fn args).run Tryz.prog w = .ok (.enter fn args) w) (hp : PredI fn lb p l w) :
  Calls Tryz.prog 27 #[.slice A n c, .func (.func fn) #[] lb] w (BooK w (l.all p)) := by
 have HP := Lib.hid (kbelow_push w (.cells #[.func (.func fn) #[] lb] 33))
 have hp' : PredI fn lb p l (w.alloc (.cells #[.func (.func fn) #[] lb] 33)) := fun W x Ab nb cb Aa na ca hx hW hr hr2 => hp W x Ab nb cb Aa na ca hx (HP.out.trans (hW.mono HP.out.size)) hr hr2
 have HC := Lib.hid (conI_any 63 #[.pointer (some ⟨w.heap.size, 0, none⟩)] (fun x => !p x) (hg.on HP.out) (enters_of Tryz.func63 (by kernel_rfl) rfl) (notI_pred fn lb p l w.heap.size (by simp) (by simp) eg hp'))
 have HF := Lib.hid (all_any_not p l)
 clear hg hp hp'
 generalize (l.any fun x => !p x) = q at *
 go_enter Tryz.func27, Tryz.ntmps27
 go_wp2_with fail
 refine HC.out.mono ?_
 rintro e w2 ⟨rfl, hb2⟩
 have HB := Lib.hid (HP.out.trans (hb2.mono HP.out.size))
 clear hb2
 go_wp2_with fail
 go_ret
 exact ⟨ret_bool HF.out, HB.out⟩
end Go.Proofs.YtmohefgdpddldaaGreatDoor
namespace Go.Proofs.YtmohefgdpddldaaGreatDoor
open Go.RowKit
open Y (Nd It noName)

/-- What is asked of a test of bytes. -/
def PredB (fn : Nat) (lb : Array Value) (p : Int → Bool) (l : List Int) (w : World) : Prop :=
 ∀ (W : World) (x : Int), x ∈ l → Below w.heap.size w W → Calls Tryz.prog fn (#[.int .u8 x] ++ lb) W (BooK W (p x))
set_option maxHeartbeats 1000000 in
theorem idxB_any {w : World} {A : Option Addr} {n c : Nat} {l : List Int} (fn : Nat) (lb : Array Value) (p : Int → Bool) (hg : RdK .u8 w w.heap.size A n c l) (eg : ∀ args w, (callFunc fn args).run Tryz.prog w = .ok (.enter fn args) w) (hp : PredB fn lb p l w) :
  Calls Tryz.prog 123 #[.slice A n c, .func (.func fn) #[] lb] w (IdxP w (l.any p)) := by
 have hn := hg.small
 have HG := Lib.hid hg
 have HP := Lib.hid hp
 have HL := Lib.hid hg.len
 clear hg hp
 go_enter Tryz.func123, Tryz.ntmps123
 go_wp2_with fail
 go_loopw [8] (fun i wr => ∃ k : Nat, k ≤ n ∧ i = .int .i64 k ∧ Hid (∀ j x, j < k → l[j]? = some x → p x = false) ∧ Hid (Below w.heap.size w wr)) (fun i _ => n - (intOf i).toNat)
 case atStart => exact ⟨0, Nat.zero_le _, rfl, fun j h hj => absurd hj (by omega), Below.refl _ _⟩
 case round =>
  obtain ⟨k, hk, rfl, HN, HB⟩ := hrel
  by_cases hlt : k < n
  ·obtain ⟨b1, o1, x, rfl, hb1, hx, s0⟩ := (HG.out.on HB.out).got hlt
   have HX := Lib.hid hx
   have hcall := HP.out wr x (List.mem_of_getElem? hx) HB.out
   have hj0 : (0 : Int) ≤ (k : Int) := by omega
   have hj1 : (k : Int) < (n : Int) := by omega
   clear hx hb1
   cases hpx : p x
   ·rw [hpx] at hcall
    have HF : Hid (∀ j y, j < k + 1 → l[j]? = some y → p y = false) := fun j y hj hy => by
     by_cases e : j = k
     ·subst e; rw [HX.out] at hy; injection hy with hy; subst hy; exact hpx
     ·exact HN.out j y (by omega) hy
    have HC := Lib.hid hcall
    clear hpx hcall HN
    go_wp2_with fail
    refine HC.out.mono ?_
    rintro e w2 ⟨rfl, hb2⟩
    have HB2 := Lib.hid (HB.out.trans (hb2.mono HB.out.size))
    clear hb2
    go_wp2_with fail
    go_roundw
    case rel => exact ⟨k + 1, by omega, by go_num, HF.out, HB2.out⟩
    case measure => simp [intOf]; omega
   ·rw [hpx] at hcall
    have HF := Lib.hid (any_yes (p := p) HX.out hpx)
    have HC := Lib.hid hcall
    clear hpx hcall HN
    go_wp2_with fail
    refine HC.out.mono ?_
    rintro e w2 ⟨rfl, hb2⟩
    have HB2 := Lib.hid (HB.out.trans (hb2.mono HB.out.size))
    clear hb2
    go_wp2_with fail
    go_ret
    exact ⟨k, rfl, by rw [HF.out]; simp, HB2.out⟩
  ·have HF := Lib.hid (any_no (p := p) (n := k) (by have := HL.out; omega) HN.out)
   clear HN
   go_wp2_with fail
   go_ret
   exact ⟨-1, rfl, by rw [HF.out]; rfl, HB.out⟩
set_option maxHeartbeats 1000000 in
theorem conB_any {w : World} {A : Option Addr} {n c : Nat} {l : List Int} (fn : Nat) (lb : Array Value) (p : Int → Bool) (hg : RdK .u8 w w.heap.size A n c l) (eg : ∀ args w, (callFunc fn args).run Tryz.prog w = .ok (.enter fn args) w) (hp : PredB fn lb p l w) :
  Calls Tryz.prog 101 #[.slice A n c, .func (.func fn) #[] lb] w (BooK w (l.any p)) := by
 have HC := Lib.hid (idxB_any fn lb p hg eg hp)
 clear hg hp
 go_enter Tryz.func101, Tryz.ntmps101
 go_wp2_with fail
 refine HC.out.mono ?_
 rintro e w2 ⟨i, rfl, hi, hb⟩
 have HB := Lib.hid hb
 have HI := Lib.hid hi
 clear hb hi
 go_wp2_with fail
 go_ret
 exact ⟨ret_bool HI.out, HB.out⟩
/-- The test turned round, as all hands it on: it has the test in a cell of its own. -/
theorem notB_pred {w : World} (fn : Nat) (lb : Array Value) (p : Int → Bool) (l : List Int) (b : Nat) (hb : b < w.heap.size) (hc : w.cell? ⟨b, 0, none⟩ = some (.func (.func fn) #[] lb)) (eg : ∀ args w, (callFunc fn args).run Tryz.prog w = .ok (.enter fn args) w) (hp : PredB fn lb p l w) :
  PredB 102 #[.pointer (some ⟨b, 0, none⟩)] (fun x => !p x) l w := fun W x hx hW => by
 have hc' : W.cell? ⟨b, 0, none⟩ = some (.func (.func fn) #[] lb) := (hW.cell (p := ⟨b, 0, none⟩) hb).trans hc
 have HC := Lib.hid (hp _ x hx hW)
 have hb' : b < W.heap.size := Nat.lt_of_lt_of_le hb hW.size
 clear hW hc hp
 go_enter Tryz.func102, Tryz.ntmps102
 go_wp2_with fail
 refine HC.out.mono ?_
 rintro e w2 ⟨rfl, hb2⟩
 have HB := Lib.hid hb2
 clear hb2
 go_wp2_with fail
 go_ret
 exact ⟨rfl, HB.out⟩
theorem allB_any {w : World} {A : Option Addr} {n c : Nat} {l : List Int} (fn : Nat) (lb : Array Value) (p : Int → Bool) (hg : RdK .u8 w w.heap.size A n c l) (eg : ∀ args w, (callFunc fn args).run Tryz.prog w = .ok (.enter fn args) w) (hp : PredB fn lb p l w) :
  Calls Tryz.prog 69 #[.slice A n c, .func (.func fn) #[] lb] w (BooK w (l.all p)) := by
 have HP := Lib.hid (kbelow_push w (.cells #[.func (.func fn) #[] lb] 89))
 have hp' : PredB fn lb p l (w.alloc (.cells #[.func (.func fn) #[] lb] 89)) := fun W x hx hW => hp W x hx (HP.out.trans (hW.mono HP.out.size))
 have HC := Lib.hid (conB_any 102 #[.pointer (some ⟨w.heap.size, 0, none⟩)] (fun x => !p x) (hg.on HP.out) (enters_of Tryz.func102 (by kernel_rfl) rfl) (notB_pred fn lb p l w.heap.size (by simp) (by simp) eg hp'))
 have HF := Lib.hid (all_any_not p l)
 clear hg hp hp'
 generalize (l.any fun x => !p x) = q at *
 go_enter Tryz.func69, Tryz.ntmps69
 go_wp2_with fail
 refine HC.out.mono ?_
 rintro e w2 ⟨rfl, hb2⟩
 have HB := Lib.hid (HP.out.trans (hb2.mono HP.out.size))
 clear hb2
 go_wp2_with fail
 go_ret
 exact ⟨ret_bool HF.out, HB.out⟩
end Go.Proofs.YtmohefgdpddldaaGreatDoor
namespace Go.Proofs.YtmohefgdpddldaaGreatDoor
open Go.RowKit
open E (okb encB)

theorem info_i64 : (Tryz.prog.info? 3).map (fun i => (i.zero, i.size, i.bytes)) = some (some (.int .i64 0), 1, 8) := by kernel_rfl
/-- A fresh slice of numbers, given back alone. -/
def NewK (k : IntKind) (w : World) (L : List Int) (e : Ending) (w' : World) : Prop := ∃ A n c, e = .returned (.slice A n c) ∧ RdK k w' w'.heap.size A n c L ∧ Below w.heap.size w w'
def Byt (L : List Int) : Prop := ∀ x ∈ L, 0 ≤ x ∧ x < 256
theorem Byt.take {L : List Int} (h : Byt L) (m : Nat) : Byt (L.take m) := fun x hx => h x (List.mem_of_mem_take hx)
theorem Byt.drop {L : List Int} (h : Byt L) (m : Nat) : Byt (L.drop m) := fun x hx => h x (List.mem_of_mem_drop hx)
theorem enc_byt (c : Int) : Byt (encB c) := fun _ hx => E.enc_byte hx
end Go.Proofs.YtmohefgdpddldaaGreatDoor
namespace Go.Proofs.YtmohefgdpddldaaGreatDoor
open Go.RowKit
open W (dgB ltB smB nmB markB signK many valN)

theorem letter_any (c : Int) (w : World) : Calls Tryz.prog 68 #[.int .i64 c] w fun e w' => e = .returned (.bool (ltB c)) ∧ w = w' := by
 go_enter Tryz.func68, Tryz.ntmps68
 go_wp2
 all_goals
  go_ret
  refine ⟨ret_bool ?_, rfl⟩
  rw [Bool.eq_iff_iff]
  simp [ltB]
  try omega
end Go.Proofs.YtmohefgdpddldaaGreatDoor
namespace Go.Proofs.YtmohefgdpddldaaGreatDoor
open Go.RowKit
open W (dgB many valN partN numB)

theorem RdK.mid {k : IntKind} {w : World} {B n c : Nat} {b off : Nat} {L : List Int} (h : RdK k w B (some ⟨b, off, none⟩) n c L) {lo m : Nat} (hm : lo + m ≤ n) : RdK k w B (some ⟨b, off + lo, none⟩) m (c - lo) ((L.drop lo).take m) :=
 ⟨by rw [List.length_take, List.length_drop, h.len]; omega, by have := h.cap; omega, by have := h.capm; omega, fun h0 => by
  obtain ⟨b', off', e, hb, hc⟩ := h.at_ (by omega)
  injection e with e; injection e with e1 e2 _; subst e1 e2
  refine ⟨b, off + lo, rfl, hb, fun j x hx => ?_⟩
  have hj : j < m := by have := (List.getElem?_eq_some_iff.1 hx).1; rw [List.length_take] at this; omega
  rw [List.getElem?_take_of_lt hj, List.getElem?_drop] at hx
  rw [Nat.add_assoc]; exact hc _ x hx⟩
end Go.Proofs.YtmohefgdpddldaaGreatDoor
namespace Go.Proofs.YtmohefgdpddldaaGreatDoor
open Go.RowKit
open Q (isC plainB digV R numS uS escS readS textB flatT PIs)

/-- A string of these bytes. -/
structure StrIs (s : ByteArray) (S : List Int) : Prop where
 eq : s = strOfNums S
 byt : ∀ x ∈ S, 0 ≤ x ∧ x < 256
theorem StrIs.size {s : ByteArray} {S : List Int} (h : StrIs s S) : s.size = S.length := by rw [h.eq, strOfNums_size]
theorem StrIs.get {s : ByteArray} {S : List Int} (h : StrIs s S) {k : Nat} {x : Int} (hx : S[k]? = some x) (hh : k < s.size) : ((s[k]'hh).toNat : Int) = x := by
 have hb := h.byt x (List.mem_of_getElem? hx)
 have e : s.data.toList = S.map fun n => UInt8.ofNat n.toNat := by rw [h.eq, strOfNums_data]
 have h1 : s.data.toList[k]? = some (UInt8.ofNat x.toNat) := by rw [e]; simp [hx]
 have h2 : s[k]'hh = UInt8.ofNat x.toNat := by
  have h3 : s.data[k]? = some (UInt8.ofNat x.toNat) := by simpa using h1
  have h4 : s.data[k]? = some (s[k]'hh) := Array.getElem?_eq_getElem (by simpa using hh)
  rw [h4] at h3
  exact Option.some.inj h3
 rw [h2]; simp; omega
theorem StrIs.cut {s : ByteArray} {S : List Int} (h : StrIs s S) (i j : Nat) : s.extract i j = strOfNums ((S.drop i).take (j - i)) := by
 apply ByteArray.ext
 apply Array.ext'
 rw [ByteArray.data_extract, Array.toList_extract, h.eq, strOfNums_data, strOfNums_data]
 simp [List.extract_eq_take_drop]
theorem read_errs {l : List Int} {p : Nat} {e : Int} (h : readS l p = .bad e) : e = 5 ∨ e = 6 := by
 have hn : ∀ (l : List Int) (d : Nat) (v : Int) (p : Nat) (e : Int), numS l d v p = .bad e → e = 5 ∨ e = 6 := by
  intro l
  induction l with
  | nil => intro d v p e h; simp [Q.numS] at h; omega
  | cons x t ih =>
   intro d v p e h
   rw [Q.numS] at h
   split at h
   ·cases h
   ·split at h
    ·injection h with h; omega
    ·exact ih _ _ _ _ h
 cases l with
 | nil => simp [Q.readS] at h; omega
 | cons x t =>
  rw [Q.readS] at h
  split at h
  ·cases t with
   | nil => simp [Q.escS] at h; omega
   | cons y u =>
    rw [Q.escS] at h
    split at h
    ·cases u with
     | nil => simp [Q.uS] at h; omega
     | cons z o =>
      rw [Q.uS] at h
      split at h
      ·exact hn _ _ _ _ _ h
      ·injection h with h; omega
    ·split at h
     ·cases h
     ·split at h
      ·cases h
      ·split at h
       ·cases h
       ·injection h with h; omega
  ·split at h
   ·cases h
   ·injection h with h; omega
theorem strIs_of {S : List Int} (h : ∀ x ∈ S, 0 ≤ x ∧ x < 256) : StrIs (strOfNums S) S := ⟨rfl, h⟩
end Go.Proofs.YtmohefgdpddldaaGreatDoor
namespace Go.Proofs.YtmohefgdpddldaaGreatDoor
open Go.RowKit
open W (dgB smB many numB noBl lettersB allowB)

theorem sm_iff (c : Int) : smB c = true ↔ 97 ≤ c ∧ c ≤ 122 := by unfold W.smB; exact decide_eq_true_iff
set_option maxHeartbeats 1000000 in
theorem letters_any {w : World} {s : ByteArray} {S : List Int} (h : StrIs s S) (hn : S.length ≤ 140737488355328) :
  Calls Tryz.prog 34 #[.string s] w fun e w' => e = .returned (.bool (lettersB S)) ∧ w = w' := by
 have HS := Lib.hid h
 have hsz := h.size
 generalize hl : S.length = n at hn hsz
 have HL := Lib.hid hl
 clear h hl
 go_enter Tryz.func34, Tryz.ntmps34
 go_wp2_with fail
 go_loopw [6] (fun iv wx => ∃ k : Nat, k ≤ n ∧ iv = .int .i64 k ∧ w = wx ∧ Hid (∀ j x, j < k → S[j]? = some x → smB x = true)) (fun iv _ => n - (intOf iv).toNat)
 case atStart => exact ⟨0, by omega, rfl, by trivial, fun j x hj => by omega⟩
 case round =>
  obtain ⟨k, hk, rfl, rfl, HD⟩ := hrel
  by_cases hlt : k < n
  ·obtain ⟨x, hx⟩ : ∃ x, S[k]? = some x := ⟨S[k]'(by rw [HL.out]; exact hlt), List.getElem?_eq_getElem _⟩
   have g1 := HS.out.get hx
   obtain ⟨x0, x1⟩ := HS.out.byt x (List.mem_of_getElem? hx)
   have HX := Lib.hid hx
   clear hx
   have hlt2 : k < s.size := by omega
   by_cases hb : 97 ≤ x ∧ x ≤ 122
   ·have HD2 : Hid (∀ j y, j < k + 1 → S[j]? = some y → smB y = true) := fun j y hj hy => by
     rcases Nat.lt_or_ge j k with h1 | h1
     ·exact HD.out j y h1 hy
     ·obtain rfl : j = k := by omega
      rw [HX.out] at hy; injection hy with hy; subst hy; exact (sm_iff x).2 hb
    obtain ⟨b1, b2⟩ := hb
    clear HD
    go_wp2_with fail
    go_roundw
    case rel => exact ⟨k + 1, by omega, by go_num, by trivial, HD2.out⟩
    case measure => simp [intOf]; omega
   ·have HF : Hid (lettersB S = false) := by
     show _ = _
     unfold W.lettersB
     have : S.all smB = false := by
      rw [← Bool.not_eq_true]
      intro h
      exact hb ((sm_iff x).1 (List.all_eq_true.1 h x (List.mem_of_getElem? HX.out)))
     rw [this]; rfl
    have hb2 : x < 97 ∨ ¬ x < 97 ∧ 122 < x := by omega
    clear hb
    rcases hb2 with hb2 | ⟨hb2, hb3⟩
    ·go_wp2_with fail
     go_ret
     exact ⟨ret_bool HF.out.symm, rfl⟩
    ·go_wp2_with fail
     go_ret
     exact ⟨ret_bool HF.out.symm, rfl⟩
  ·obtain rfl : k = n := by omega
   have HA : Hid (lettersB S = (decide (1 ≤ k) && decide (k ≤ 16))) := by
    show _ = _
    unfold W.lettersB
    have : S.all smB = true := List.all_eq_true.2 fun x hx => by
     obtain ⟨j, hj, e⟩ := List.getElem_of_mem hx
     exact HD.out j x (by rw [← HL.out]; exact hj) (by rw [List.getElem?_eq_getElem hj, e])
    rw [this, HL.out]; rfl
   clear HD
   by_cases h1 : 1 ≤ k
   ·rw [decide_eq_true h1, Bool.true_and] at HA
    go_wp2_with fail
    go_ret
    exact ⟨ret_bool (by rw [HA.out, Bool.eq_iff_iff]; simp; try omega), rfl⟩
   ·rw [decide_eq_false h1] at HA
    obtain rfl : k = 0 := by omega
    go_wp2_with fail
    go_ret
    exact ⟨ret_bool HA.out.symm, rfl⟩
end Go.Proofs.YtmohefgdpddldaaGreatDoor
namespace Go.Proofs.YtmohefgdpddldaaGreatDoor
open Go.RowKit
open Y (Nd It noName)
open K (numsOf nameB twoB threeB aloneB endK pairB inS inF nosB deepB rightB noneB numOk mayB)

theorem str_none {s : ByteArray} (h : s.size = 0) : s.toList = [] := by
 rw [Lib.toList_data]
 exact List.eq_nil_of_length_eq_zero h
theorem str_some {s : ByteArray} (h : s.size ≠ 0) : s.toList.isEmpty = false := by
 rw [Lib.toList_data]
 have h2 : s.data.toList.length ≠ 0 := h
 cases h3 : s.data.toList with
 | nil => rw [h3] at h2; exact absurd rfl h2
 | cons => rfl
theorem beqd (a b : Int) : (a == b) = decide (a = b) := by rw [Bool.eq_iff_iff]; simp
theorem strIs_nums (s : ByteArray) : StrIs s (numsOf s) := ⟨(K.strOf_numsOf s).symm, K.numsOf_byte s⟩
set_option maxHeartbeats 1000000 in
theorem alone_any {x : Nd} {w : World} {A : Option Addr} {n c : Nat} :
  Calls Tryz.prog 72 #[.agg #[.int .i64 x.kind, .string x.name, .int .i64 x.low, .int .i64 x.high, .slice A n c]] w (BooK w (aloneB x.name x.low x.high)) := by
 have HP := Lib.hid (kbelow_push w (.cells #[.int .i64 x.kind, .string x.name, .int .i64 x.low, .int .i64 x.high, .slice A n c] 24))
 by_cases h1 : x.name.size = 0
 ·have g1 := str_none h1
  have HF : Hid (aloneB x.name x.low x.high = ((x.low == 0) && (x.high == 0))) := by unfold K.aloneB; rw [decide_eq_true h1, beqd, beqd]; rfl
  clear h1
  cases h2 : (x.low == 0) with
  | true =>
   rw [h2] at HF
   go_enter Tryz.func72, Tryz.ntmps72
   go_wp2_with fail
   go_ret
   exact ⟨ret_bool HF.out.symm, HP.out⟩
  | false =>
   rw [h2] at HF
   go_enter Tryz.func72, Tryz.ntmps72
   go_wp2_with fail
   go_ret
   exact ⟨ret_bool HF.out.symm, HP.out⟩
 ·have g1 := str_some h1
  have HF : Hid (aloneB x.name x.low x.high = false) := by unfold K.aloneB; rw [decide_eq_false h1]; rfl
  clear h1
  go_enter Tryz.func72, Tryz.ntmps72
  go_wp2_with fail
  go_ret
  exact ⟨ret_bool HF.out.symm, HP.out⟩
theorem ofTwo_any (k : Int) (w : World) : Calls Tryz.prog 135 #[.int .i64 k] w fun e w' => e = .returned (.bool (twoB k)) ∧ w = w' := by
 go_enter Tryz.func135, Tryz.ntmps135
 go_wp2
 all_goals
  go_ret
  refine ⟨ret_bool ?_, rfl⟩
  rw [Bool.eq_iff_iff]
  unfold K.twoB
  simp
  try omega
theorem isNumber_any (k : Int) (w : World) : Calls Tryz.prog 33 #[.int .i64 k] w fun e w' => e = .returned (.bool (numOk k)) ∧ w = w' := by
 go_enter Tryz.func33, Tryz.ntmps33
 go_wp2
 all_goals
  go_ret
  refine ⟨ret_bool ?_, rfl⟩
  rw [Bool.eq_iff_iff]
  unfold K.numOk
  simp
  try omega
set_option maxHeartbeats 1000000 in
theorem none_any {x : Nd} {w : World} {A : Option Addr} {n c : Nat} (hn : x.kids.length = n) :
  Calls Tryz.prog 32 #[.agg #[.int .i64 x.kind, .string x.name, .int .i64 x.low, .int .i64 x.high, .slice A n c]] w (BooK w (noneB x)) := by
 have HP := Lib.hid (kbelow_push w (.cells #[.int .i64 x.kind, .string x.name, .int .i64 x.low, .int .i64 x.high, .slice A n c] 24))
 have HROW := Lib.hid (heap_alloc_new w (.cells #[.int .i64 x.kind, .string x.name, .int .i64 x.low, .int .i64 x.high, .slice A n c] 24))
 have hz : (w.alloc (.cells #[.int .i64 x.kind, .string x.name, .int .i64 x.low, .int .i64 x.high, .slice A n c] 24)).heap.size = w.heap.size + 1 := by simp
 have HF : Hid (noneB x = ((x.kind == 0) && aloneB x.name x.low x.high && ((n : Int) == 0))) := by
  show _ = _
  unfold K.noneB; rw [hn, beqd, beqd]
  congr 1
  rw [Bool.eq_iff_iff]; simp
 clear hn
 cases h1 : (x.kind == 0) with
 | true =>
  rw [h1] at HF
  have HC := Lib.hid (alone_any (x := x) (w := w.alloc (.cells #[.int .i64 x.kind, .string x.name, .int .i64 x.low, .int .i64 x.high, .slice A n c] 24)) (A := A) (n := n) (c := c))
  generalize aloneB x.name x.low x.high = q at *
  go_enter Tryz.func32, Tryz.ntmps32
  go_wp2_with fail
  generalize w.alloc (.cells #[.int .i64 x.kind, .string x.name, .int .i64 x.low, .int .i64 x.high, .slice A n c] 24) = W1 at *
  refine HC.out.mono ?_
  rintro e w2 ⟨rfl, hb2⟩
  have HB := Lib.hid (HP.out.trans (hb2.mono HP.out.size))
  obtain ⟨r0, r1, r2, r3, r4⟩ := cells5 ((hb2.block w.heap.size (by omega)).trans HROW.out)
  clear hb2 HC HP
  cases q with
  | true =>
   go_wp2_with fail
   go_ret
   exact ⟨ret_bool HF.out.symm, HB.out⟩
  | false =>
   go_wp2_with fail
   go_ret
   exact ⟨ret_bool HF.out.symm, HB.out⟩
 | false =>
  rw [h1] at HF
  go_enter Tryz.func32, Tryz.ntmps32
  go_wp2_with fail
  go_ret
  exact ⟨ret_bool HF.out.symm, HP.out⟩
/-- The bytes of a text, in memory of their own. -/
theorem bytes_rd (w : World) (e : TypeId) (s : ByteArray) (hs : s.size ≤ maxLen) : RdK .u8 (Lib.bytesWorld w e s) (Lib.bytesWorld w e s).heap.size (some ⟨w.heap.size, 0, none⟩) s.size (grownCap w s.size 0 e) (numsOf s) := by
 refine ⟨K.numsOf_len s, grownCap_ge _ _ _ _, grownCap_le_maxLen _ _ _ _ hs, fun _ => ⟨w.heap.size, 0, rfl, by rw [Lib.bytesWorld_size]; omega, fun j x hx => ?_⟩⟩
 have hj : j < s.size := by have := (List.getElem?_eq_some_iff.1 hx).1; rw [K.numsOf_len] at this; exact this
 rw [Nat.zero_add, Lib.bytesWorld_cell w e s j hj]
 unfold K.numsOf at hx
 rw [List.getElem?_map] at hx
 obtain ⟨b, hb, rfl⟩ := Option.map_eq_some_iff.1 hx
 rw [List.getD_eq_getElem?_getD, hb]; rfl
theorem bytes_below (w : World) (e : TypeId) (s : ByteArray) : Below w.heap.size w (Lib.bytesWorld w e s) := by
 unfold Lib.bytesWorld
 exact Lib.below_freeze ((Below.drew (Below.refl _ w)).alloc (Nat.le_refl _) _) (p := ⟨w.heap.size, _, none⟩) (Nat.le_refl _) _
end Go.Proofs.YtmohefgdpddldaaGreatDoor
namespace Go.Proofs.YtmohefgdpddldaaGreatDoor
open Go.RowKit
open Y (Nd It noName)
open K (numsOf nameB twoB threeB aloneB endK pairB inS inF nosB deepB rightB noneB numOk mayB)

set_option maxHeartbeats 1000000 in
theorem name1_pred (l : List Int) (hl : ∀ x ∈ l, 0 ≤ x ∧ x < 256) (w0 : World) : PredB 70 #[] W.nmB l w0 := fun w x hx hW => by
 show Calls Tryz.prog 70 #[.int .u8 x] w _
 have HC := Lib.hid (plain_any x w)
 have HF : Hid (W.nmB x = (Q.plainB x || (x == 95))) := by show _ = _; unfold W.nmB; rw [beqd]
 have HB : Hid (Below w.heap.size w w) := Below.refl _ _
 obtain ⟨x0, x1⟩ := hl x hx
 clear hW hx hl
 generalize Q.plainB x = q at *
 cases h1 : (x == 95) with
 | true =>
  rw [h1, Bool.or_true] at HF
  go_enter Tryz.func70, Tryz.ntmps70
  go_wp2_with fail
  go_ret
  exact ⟨ret_bool HF.out.symm, HB.out⟩
 | false =>
  rw [h1, Bool.or_false] at HF
  go_enter Tryz.func70, Tryz.ntmps70
  go_wp2_with fail
  refine HC.out.mono ?_
  rintro e w2 ⟨rfl, rfl⟩
  go_wp2_with fail
  go_ret
  exact ⟨ret_bool HF.out.symm, HB.out⟩
theorem name_cons {s : ByteArray} (h : s.size ≠ 0) : ∃ c t, numsOf s = c :: t ∧ nameB (numsOf s) = (decide (s.size ≤ 16) && W.ltB c && (numsOf s).all W.nmB) ∧ (numsOf s)[0]? = some c := by
 cases hs : numsOf s with
 | nil => have := K.numsOf_len s; rw [hs] at this; exact absurd this.symm h
 | cons c t =>
  refine ⟨c, t, rfl, ?_, rfl⟩
  have := K.numsOf_len s
  rw [hs] at this
  unfold K.nameB
  rw [← this]; rfl
set_option maxHeartbeats 1000000 in
theorem isName_any (s : ByteArray) (w : World) : Calls Tryz.prog 31 #[.string s] w (BooK w (nameB (numsOf s))) := by
 by_cases h0 : s.size = 0
 ·have g1 := str_none h0
  have HF : Hid (nameB (numsOf s) = false) := by
   have : numsOf s = [] := List.eq_nil_of_length_eq_zero (by rw [K.numsOf_len, h0])
   show _ = _
   rw [this]; rfl
  have HB : Hid (Below w.heap.size w w) := Below.refl _ _
  clear h0
  go_enter Tryz.func31, Tryz.ntmps31
  go_wp2_with fail
  go_ret
  exact ⟨ret_bool HF.out.symm, HB.out⟩
 ·have g1 := str_some h0
  obtain ⟨c, t, hs, hF, hc0⟩ := name_cons h0
  have g2 : s.toList ≠ [] := fun e => by rw [e] at g1; cases g1
  have HB : Hid (Below w.heap.size w w) := Below.refl _ _
  by_cases h16 : s.size ≤ 16
  ·rw [decide_eq_true h16, Bool.true_and] at hF
   have HF := Lib.hid hF
   have hlt : 0 < s.size := by omega
   have gc := (strIs_nums s).get hc0 hlt
   have g3 : ¬ (16 : Int) < (s.size : Int) := by omega
   have HL := Lib.hid (letter_any c w)
   have q1 := Lib.run_convert_string_bytes (P := Tryz.prog) w 9 41 5 s Tryz.underlying9 Tryz.underlying41 Tryz.underlying5
   have HBW := Lib.hid (bytes_below w 5 s)
   have HC := Lib.hid (allB_any 70 #[] W.nmB (bytes_rd w 5 s (by unfold maxLen; omega)) (enters_of Tryz.func70 (by kernel_rfl) rfl) (name1_pred (numsOf s) (K.numsOf_byte s) _))
   obtain ⟨c0, c1⟩ := K.numsOf_byte s c (List.mem_of_getElem? hc0)
   clear hs hF hc0 h0
   generalize W.ltB c = q at *
   generalize (numsOf s).all W.nmB = q2 at *
   generalize Lib.bytesWorld w 5 s = W1 at *
   go_enter Tryz.func31, Tryz.ntmps31
   go_wp2_with fail
   refine HL.out.mono ?_
   rintro e w2 ⟨rfl, rfl⟩
   cases q with
   | true =>
    go_wp2_with fail
    refine HC.out.mono ?_
    rintro e w2 ⟨rfl, hb2⟩
    have HB2 := Lib.hid (HBW.out.trans (hb2.mono HBW.out.size))
    clear hb2
    go_wp2_with fail
    go_ret
    exact ⟨ret_bool HF.out.symm, HB2.out⟩
   | false =>
    go_wp2_with fail
    go_ret
    exact ⟨ret_bool HF.out.symm, HB.out⟩
  ·rw [decide_eq_false h16] at hF
   have HF := Lib.hid hF
   have g3 : (16 : Int) < (s.size : Int) := by omega
   clear hs hF hc0 h0
   go_enter Tryz.func31, Tryz.ntmps31
   go_wp2_with fail
   go_ret
   exact ⟨ret_bool HF.out.symm, HB.out⟩
end Go.Proofs.YtmohefgdpddldaaGreatDoor
namespace Go.Proofs.YtmohefgdpddldaaGreatDoor
open Go.RowKit
open Y (Nd It noName)
open K (numsOf nameB twoB threeB aloneB endK pairB inS inF nosB deepB rightB noneB numOk mayB)

theorem pair_no {k : Int} {l : List Nd} (h : l.length ≠ 2) : pairB k l = false := by
 unfold K.pairB
 split
 ·exact absurd rfl h
 ·rfl
theorem pair_two (k : Int) (a b : Nd) : pairB k [a, b] = (!twoB b.kind && ((k == 6) || (endK a == 2) || (endK a == 4))) := by unfold K.pairB; simp only [beqd]
theorem end_one {a : Nd} (h : twoB a.kind = false ∨ a.kids.length ≠ 2) : endK a = a.kind := by
 unfold K.endK
 rcases h with h | h
 ·rw [if_neg (by rw [h]; decide)]
 ·split
  ·split
   ·rename_i e; rw [e] at h; exact absurd rfl h
   ·rfl
  ·rfl
theorem end_two {a p q : Nd} (h : twoB a.kind = true) (hk : a.kids = [p, q]) : endK a = q.kind := by
 unfold K.endK
 rw [if_pos h, hk]
theorem two_of {l : List Nd} (h : l.length = 2) : ∃ a b, l = [a, b] := by
 match l, h with
 | [a, b], _ => exact ⟨a, b, rfl⟩
set_option maxHeartbeats 4000000 in
theorem isPair_any {x : Nd} {w : World} {A : Option Addr} {n c : Nat} (h : RdN w (Lt w) A n c x.kids) :
  Calls Tryz.prog 125 #[.agg #[.int .i64 x.kind, .string x.name, .int .i64 x.low, .int .i64 x.high, .slice A n c]] w (BooK w (pairB x.kind x.kids)) := by
 have HP := Lib.hid (kbelow_push w (.cells #[.int .i64 x.kind, .string x.name, .int .i64 x.low, .int .i64 x.high, .slice A n c] 24))
 have HA := Lib.hid (h.on HP.out)
 have HROW := Lib.hid (heap_alloc_new w (.cells #[.int .i64 x.kind, .string x.name, .int .i64 x.low, .int .i64 x.high, .slice A n c] 24))
 have hz : (w.alloc (.cells #[.int .i64 x.kind, .string x.name, .int .i64 x.low, .int .i64 x.high, .slice A n c] 24)).heap.size = w.heap.size + 1 := by simp
 have hn := h.len
 have hsm := h.small
 clear h
 by_cases h2 : n = 2
 ·subst h2
  obtain ⟨a, b, hab⟩ := two_of hn
  have hF := pair_two x.kind a b
  rw [← hab] at hF
  have HF := Lib.hid hF
  rw [hab] at HA
  clear hF hn hab
  generalize pairB x.kind x.kids = res at *
  obtain ⟨b1, o1, y, A1, n1, c1, hA1, hb1, hy, hr1, s0, s1, s2, s3, s4⟩ := HA.out.got (i := 0) (by decide)
  obtain ⟨b2, o2, z, A2, n2, c2, hA2, hb2, hz2, hr2, t0, t1, t2, t3, t4⟩ := HA.out.got (i := 1) (by decide)
  subst hA1
  injection hA2 with hA2
  injection hA2 with e1 e2 _
  subst e1 e2
  obtain rfl : a = y := by simpa using hy
  obtain rfl : b = z := by simpa using hz2
  simp only [Nat.zero_mul, Nat.add_zero, Nat.one_mul] at s0 s1 s2 s3 s4 t0 t1 t2 t3 t4
  have HR1 := Lib.hid hr1
  have hn1 := hr1.len
  have hb1' : b1 < w.heap.size + 1 := by rw [← hz]; exact hb1
  clear hy hz2 hr1 hr2 hb1 hb2 HA t1 t2 t3 t4
  have HT := Lib.hid (fun W => ofTwo_any b.kind W)
  have HT2 := Lib.hid (fun W => ofTwo_any a.kind W)
  go_enter Tryz.func125, Tryz.ntmps125
  go_wp2_with fail
  generalize w.alloc (.cells #[.int .i64 x.kind, .string x.name, .int .i64 x.low, .int .i64 x.high, .slice (some ⟨b1, o1, none⟩) 2 c] 24) = W1 at *
  refine (HT.out _).mono ?_
  rintro e w2 ⟨rfl, rfl⟩
  have HB : Hid (Below w.heap.size w W1) := HP.out
  cases hq : twoB b.kind with
  | true =>
   rw [hq, Bool.not_true, Bool.false_and] at HF
   clear hq
   go_wp2_with fail
   go_ret
   exact ⟨ret_bool HF.out.symm, HB.out⟩
  | false =>
   rw [hq, Bool.not_false, Bool.true_and] at HF
   clear hq
   obtain ⟨r0, r1, r2, r3, r4⟩ := cells5 HROW.out
   go_wp2_with fail
   have HB2 : Hid (Below W1.heap.size W1 (W1.alloc (.cells #[.int .i64 a.kind, .string a.name, .int .i64 a.low, .int .i64 a.high, .slice A1 n1 c1] 24))) := kbelow_push _ _
   have HROW2 := Lib.hid (heap_alloc_new W1 (.cells #[.int .i64 a.kind, .string a.name, .int .i64 a.low, .int .i64 a.high, .slice A1 n1 c1] 24))
   have hz3 : (W1.alloc (.cells #[.int .i64 a.kind, .string a.name, .int .i64 a.low, .int .i64 a.high, .slice A1 n1 c1] 24)).heap.size = W1.heap.size + 1 := by simp
   have HB3 := Lib.hid (HB.out.trans (HB2.out.mono HB.out.size))
   generalize W1.alloc (.cells #[.int .i64 a.kind, .string a.name, .int .i64 a.low, .int .i64 a.high, .slice A1 n1 c1] 24) = W2 at *
   refine (HT2.out _).mono ?_
   rintro e w2 ⟨rfl, rfl⟩
   obtain ⟨u0, u1, u2, u3, u4⟩ := cells5 (N := w.heap.size + 1) (by rw [← hz]; exact HROW2.out)
   obtain ⟨r0, r1, r2, r3, r4⟩ := cells5 ((HB2.out.block w.heap.size (by omega)).trans HROW.out)
   cases hq : twoB a.kind with
   | false =>
    rw [end_one (.inl hq)] at HF
    clear hq s0 s1 s2 s3 s4 t0 HROW
    have HB := HB3
    cases k6 : (x.kind == 6) with
    | true =>
     rw [k6, Bool.true_or, Bool.true_or] at HF
     go_wp2_with fail
     go_ret
     exact ⟨ret_bool HF.out.symm, HB.out⟩
    | false =>
     rw [k6, Bool.false_or] at HF
     cases k2 : (a.kind == 2) with
     | true =>
      rw [k2, Bool.true_or] at HF
      go_wp2_with fail
      go_ret
      exact ⟨ret_bool HF.out.symm, HB.out⟩
     | false =>
      rw [k2, Bool.false_or] at HF
      go_wp2_with fail
      go_ret
      exact ⟨ret_bool HF.out.symm, HB.out⟩
   | true =>
    by_cases hn2 : n1 = 2
    ·subst hn2
     obtain ⟨p, q, hpq⟩ := two_of hn1
     rw [end_two hq hpq] at HF
     rw [hpq] at HR1
     obtain ⟨b3, o3, y, A3, n3, c3, hA3, hb3, hy, hr3, v0, v1, v2, v3, v4⟩ := (HR1.out.on HB2.out).got (i := 1) (by decide)
     subst hA3
     obtain rfl : q = y := by simpa using hy
     simp only [Nat.one_mul] at v0 v1 v2 v3 v4
     have HB : Hid (Below w.heap.size w (set5 W2 (w.heap.size + 1) (.int .i64 q.kind) (.string q.name) (.int .i64 q.low) (.int .i64 q.high) (.slice A3 n3 c3))) := by
      unfold set5
      exact (((((HB3.out.setCell (p := ⟨w.heap.size + 1, _, none⟩) (Nat.le_succ _) _).setCell (p := ⟨w.heap.size + 1, _, none⟩) (Nat.le_succ _) _).setCell (p := ⟨w.heap.size + 1, _, none⟩) (Nat.le_succ _) _).setCell (p := ⟨w.heap.size + 1, _, none⟩) (Nat.le_succ _) _).setCell (p := ⟨w.heap.size + 1, _, none⟩) (Nat.le_succ _) _)
     clear hq hpq hy hr3 hb3 HR1 s0 s1 s2 s3 s4 t0 HROW
     have fz : ∀ j, W2.frozen? ⟨w.heap.size + 1, j, none⟩ = false := fun j => frozen_of_row _ _ _ _ _ (by rw [← hz]; exact HROW2.out)
     cases k6 : (x.kind == 6) with
     | true =>
      rw [k6, Bool.true_or, Bool.true_or] at HF
      go_wp2_with fail
      go_ret
      exact ⟨ret_bool HF.out.symm, HB.out⟩
     | false =>
      rw [k6, Bool.false_or] at HF
      cases k2 : (q.kind == 2) with
      | true =>
       rw [k2, Bool.true_or] at HF
       go_wp2_with fail
       go_ret
       exact ⟨ret_bool HF.out.symm, HB.out⟩
      | false =>
       rw [k2, Bool.false_or] at HF
       go_wp2_with fail
       go_ret
       exact ⟨ret_bool HF.out.symm, HB.out⟩
    ·rw [end_one (.inr (by omega))] at HF
     have g2 : ((n1 : Int) == 2) = false := by rw [beq_eq_false_iff_ne]; omega
     clear hq s0 s1 s2 s3 s4 t0 HROW
     have HB := HB3
     cases k6 : (x.kind == 6) with
     | true =>
      rw [k6, Bool.true_or, Bool.true_or] at HF
      go_wp2_with fail
      go_ret
      exact ⟨ret_bool HF.out.symm, HB.out⟩
     | false =>
      rw [k6, Bool.false_or] at HF
      cases k2 : (a.kind == 2) with
      | true =>
       rw [k2, Bool.true_or] at HF
       go_wp2_with fail
       go_ret
       exact ⟨ret_bool HF.out.symm, HB.out⟩
      | false =>
       rw [k2, Bool.false_or] at HF
       go_wp2_with fail
       go_ret
       exact ⟨ret_bool HF.out.symm, HB.out⟩
 ·have HF := Lib.hid (pair_no (k := x.kind) (l := x.kids) (by omega))
  have g1 : ((n : Int) != 2) = true := by rw [bne_iff_ne]; omega
  clear hn HA
  go_enter Tryz.func125, Tryz.ntmps125
  go_wp2_with fail
  go_ret
  exact ⟨ret_bool HF.out.symm, HP.out⟩
end Go.Proofs.YtmohefgdpddldaaGreatDoor
namespace Go.Proofs.YtmohefgdpddldaaGreatDoor
open Go.RowKit
open Y (Nd It noName)
open K (numsOf nameB twoB threeB aloneB endK pairB inS inF nosB deepB rightB noneB numOk mayB)

theorem ieqn (n : Nat) : ((n : Int) == 0) = decide (n = 0) := by rw [Bool.eq_iff_iff]; simp
/-- May the parts of a set stand in it, of forms of so many nodes? -/
def InSK (k : Nat) : Prop := ∀ (x : Nd), x.size ≤ k → ∀ (w : World) (A : Option Addr) (n c : Nat), RdN w (Lt w) A n c x.kids →
 Calls Tryz.prog 105 #[.agg #[.int .i64 x.kind, .string x.name, .int .i64 x.low, .int .i64 x.high, .slice A n c]] w (BooK w (inS x))
theorem allS_of {k : Nat} (ih : InSK k) {l : List Nd} (hk : Y.sizeL l ≤ k) {w : World} {A : Option Addr} {n c : Nat} (h : RdN w (Lt w) A n c l) :
  Calls Tryz.prog 76 #[.slice A n c, .func (.func 105) #[] #[]] w (BooK w (l.all inS)) :=
 allN_any 105 #[] inS h (enters_of Tryz.func105 (by kernel_rfl) rfl) fun W x A n c hx _ hr => ih x (by have := K.size_in hx; omega) W A n c hr
set_option maxHeartbeats 4000000 in
theorem nos_of {k : Nat} (ih : InSK k) {x : Nd} (hk : Y.sizeL x.kids ≤ k) {w : World} {A : Option Addr} {n c : Nat} (ha : RdN w (Lt w) A n c x.kids) :
  Calls Tryz.prog 78 #[.agg #[.int .i64 x.kind, .string x.name, .int .i64 x.low, .int .i64 x.high, .slice A n c]] w (BooK w (nosB x)) := by
 have HP := Lib.hid (kbelow_push w (.cells #[.int .i64 x.kind, .string x.name, .int .i64 x.low, .int .i64 x.high, .slice A n c] 24))
 have HA := Lib.hid (ha.on HP.out)
 have HROW := Lib.hid (heap_alloc_new w (.cells #[.int .i64 x.kind, .string x.name, .int .i64 x.low, .int .i64 x.high, .slice A n c] 24))
 have hz : (w.alloc (.cells #[.int .i64 x.kind, .string x.name, .int .i64 x.low, .int .i64 x.high, .slice A n c] 24)).heap.size = w.heap.size + 1 := by simp
 have hsm := ha.small
 have HB : Hid (Below w.heap.size w (w.alloc (.cells #[.int .i64 x.kind, .string x.name, .int .i64 x.low, .int .i64 x.high, .slice A n c] 24))) := HP.out
 have HC := Lib.hid (fun W => isName_any x.name W)
 have HAL := Lib.hid (allS_of ih hk HA.out)
 have hF : nosB x = if x.kind = 2 then nameB (numsOf x.name) && (x.low == 0) && (x.high == 0) && ((n : Int) == 0)
   else if x.kind = 4 then decide (x.name.size = 0) && ((x.low == 0) || (x.low == 1)) && (x.high == 0) && x.kids.all inS
   else false := by
  unfold K.nosB; rw [← K.inSL_all, ieqn, ← ha.len]; simp only [beqd]
 clear ha
 by_cases h2 : x.kind = 2
 ·rw [if_pos h2] at hF
  have HF := Lib.hid hF
  have k2 : (x.kind == 2) = true := by simpa using h2
  clear hF h2 HA HAL
  generalize nameB (numsOf x.name) = q at *
  go_enter Tryz.func78, Tryz.ntmps78
  go_wp2_with fail
  generalize w.alloc (.cells #[.int .i64 x.kind, .string x.name, .int .i64 x.low, .int .i64 x.high, .slice A n c] 24) = W1 at *
  refine (HC.out _).mono ?_
  rintro e w2 ⟨rfl, hb2⟩
  have HB2 := Lib.hid (HB.out.trans (hb2.mono HB.out.size))
  clear HB
  have HB := HB2
  clear HB2
  have HROW2 := Lib.hid ((hb2.block w.heap.size (by omega)).trans HROW.out)
  clear HROW
  have HROW := HROW2
  clear HROW2
  obtain ⟨r0, r1, r2, r3, r4⟩ := cells5 HROW.out
  have hz2 := hb2.size
  clear hb2
  cases q with
  | false =>
   go_wp2_with fail
   go_ret
   exact ⟨ret_bool (by rw [HF.out]; rfl), HB.out⟩
  | true =>
   cases g1 : (x.low == 0) with
   | false =>
    rw [g1] at HF
    go_wp2_with fail
    go_ret
    exact ⟨ret_bool (by rw [HF.out]; rfl), HB.out⟩
   | true =>
    rw [g1] at HF
    cases g2 : (x.high == 0) with
    | false =>
     rw [g2] at HF
     go_wp2_with fail
     go_ret
     exact ⟨ret_bool (by rw [HF.out]; rfl), HB.out⟩
    | true =>
     rw [g2] at HF
     go_wp2_with fail
     go_ret
     exact ⟨ret_bool (by rw [HF.out]; rfl), HB.out⟩
 ·rw [if_neg h2] at hF
  have k2 : (x.kind == 2) = false := by simpa using h2
  by_cases h4 : x.kind = 4
  ·rw [if_pos h4] at hF
   have HF := Lib.hid hF
   have k4 : (x.kind == 4) = true := by simpa using h4
   clear hF h2 h4 HA HC
   generalize x.kids.all inS = q at *
   go_enter Tryz.func78, Tryz.ntmps78
   by_cases g0 : x.name.size = 0
   ·have g0' := str_none g0
    rw [decide_eq_true g0] at HF
    clear g0
    cases g7 : (x.low == 0) with
    | true =>
     rw [g7] at HF
     cases g3 : (x.high == 0) with
     | false =>
      rw [g3] at HF
      go_wp2_with fail
      go_ret
      exact ⟨ret_bool (by rw [HF.out]; rfl), HB.out⟩
     | true =>
      rw [g3] at HF
      go_wp2_with fail
      refine HAL.out.mono ?_
      rintro e w2 ⟨rfl, hb2⟩
      have HB2 := Lib.hid (HB.out.trans (hb2.mono HB.out.size))
      clear HB
      have HB := HB2
      clear HB2
      have HROW2 := Lib.hid ((hb2.block w.heap.size (by omega)).trans HROW.out)
      clear HROW
      have HROW := HROW2
      clear HROW2
      obtain ⟨r0, r1, r2, r3, r4⟩ := cells5 HROW.out
      have hz2 := hb2.size
      clear hb2
      go_wp2_with fail
      go_ret
      exact ⟨ret_bool (by rw [HF.out]; rfl), HB.out⟩
    | false =>
     rw [g7] at HF
     cases g3 : (x.low == 1) with
     | false =>
      rw [g3] at HF
      go_wp2_with fail
      go_ret
      exact ⟨ret_bool (by rw [HF.out]; rfl), HB.out⟩
     | true =>
      rw [g3] at HF
      cases g4 : (x.high == 0) with
      | false =>
       rw [g4] at HF
       go_wp2_with fail
       go_ret
       exact ⟨ret_bool (by rw [HF.out]; rfl), HB.out⟩
      | true =>
       rw [g4] at HF
       go_wp2_with fail
       refine HAL.out.mono ?_
       rintro e w2 ⟨rfl, hb2⟩
       have HB2 := Lib.hid (HB.out.trans (hb2.mono HB.out.size))
       clear HB
       have HB := HB2
       clear HB2
       have HROW2 := Lib.hid ((hb2.block w.heap.size (by omega)).trans HROW.out)
       clear HROW
       have HROW := HROW2
       clear HROW2
       obtain ⟨r0, r1, r2, r3, r4⟩ := cells5 HROW.out
       have hz2 := hb2.size
       clear hb2
       go_wp2_with fail
       go_ret
       exact ⟨ret_bool (by rw [HF.out]; rfl), HB.out⟩

   ·have g0' := str_some g0
    rw [decide_eq_false g0] at HF
    clear g0
    go_wp2_with fail
    go_ret
    exact ⟨ret_bool (by rw [HF.out]; rfl), HB.out⟩
  ·rw [if_neg h4] at hF
   have HF := Lib.hid hF
   have k4 : (x.kind == 4) = false := by simpa using h4
   clear hF h2 h4 HA HC HAL
   go_enter Tryz.func78, Tryz.ntmps78
   go_wp2_with fail
   go_ret
   exact ⟨ret_bool (by rw [HF.out]), HB.out⟩
end Go.Proofs.YtmohefgdpddldaaGreatDoor
namespace Go.Proofs.YtmohefgdpddldaaGreatDoor
open Go.RowKit
open Y (Nd It noName)
open K (numsOf nameB twoB threeB aloneB endK pairB inS inF nosB deepB rightB noneB numOk mayB)

theorem ieqn_kids (x : Nd) {n : Nat} (h : x.kids.length = n) : ((n : Int) == 0) = decide (x.kids.length = 0) := by rw [ieqn, h]
set_option maxHeartbeats 8000000 in
theorem inS_step {k : Nat} (ih : InSK k) : InSK (k + 1) := by
 intro x hk w A n c ha
 have hkk : Y.sizeL x.kids ≤ k := by have := K.size_eq x; omega
 have HP := Lib.hid (kbelow_push w (.cells #[.int .i64 x.kind, .string x.name, .int .i64 x.low, .int .i64 x.high, .slice A n c] 24))
 have HA := Lib.hid (ha.on HP.out)
 have HROW := Lib.hid (heap_alloc_new w (.cells #[.int .i64 x.kind, .string x.name, .int .i64 x.low, .int .i64 x.high, .slice A n c] 24))
 have hz : (w.alloc (.cells #[.int .i64 x.kind, .string x.name, .int .i64 x.low, .int .i64 x.high, .slice A n c] 24)).heap.size = w.heap.size + 1 := by simp
 have hsm := ha.small
 have HB : Hid (Below w.heap.size w (w.alloc (.cells #[.int .i64 x.kind, .string x.name, .int .i64 x.low, .int .i64 x.high, .slice A n c] 24))) := HP.out
 have HCA : Hid (∀ W, Calls Tryz.prog 72 #[.agg #[.int .i64 x.kind, .string x.name, .int .i64 x.low, .int .i64 x.high, .slice A n c]] W (BooK W (aloneB x.name x.low x.high))) := fun W => alone_any
 have HCP : Hid (∀ W, Below w.heap.size w W → Calls Tryz.prog 125 #[.agg #[.int .i64 x.kind, .string x.name, .int .i64 x.low, .int .i64 x.high, .slice A n c]] W (BooK W (pairB x.kind x.kids))) := fun W h => isPair_any (ha.on h)
 have HAL : Hid (∀ W, Below w.heap.size w W → Calls Tryz.prog 76 #[.slice A n c, .func (.func 105) #[] #[]] W (BooK W (x.kids.all inS))) := fun W h => allS_of ih hkk (ha.on h)
 have HNO : Hid (∀ W, Below w.heap.size w W → Calls Tryz.prog 78 #[.agg #[.int .i64 x.kind, .string x.name, .int .i64 x.low, .int .i64 x.high, .slice A n c]] W (BooK W (nosB x))) := fun W h => nos_of ih hkk (ha.on h)
 have hF := K.inS_eq x
 rw [← ieqn_kids x ha.len] at hF
 clear ha ih HA hk
 by_cases h5 : x.kind = 5
 ·rw [if_pos h5] at hF
  have k5 : (x.kind == 5) = true := by rw [beqd]; exact decide_eq_true (by omega)
  have HF := Lib.hid hF
  clear hF h5 HCA HCP HAL HNO
  generalize inS x = res at *
  go_enter Tryz.func105, Tryz.ntmps105
  by_cases g0 : x.name.size = 0
  ·have g0' := str_none g0
   rw [decide_eq_true g0] at HF
   clear g0
   cases g1 : ((n : Int) == 0) with
   | false =>
    rw [g1] at HF
    go_wp2_with fail
    go_ret
    exact ⟨ret_bool (by rw [HF.out]; rfl), HB.out⟩
   | true =>
    rw [g1] at HF
    by_cases g2 : 0 ≤ x.low
    ·rw [decide_eq_true g2] at HF
     by_cases g3 : x.low ≤ x.high
     ·rw [decide_eq_true g3] at HF
      go_wp2_with fail
      go_ret
      exact ⟨ret_bool (by rw [HF.out]; rfl), HB.out⟩
     ·rw [decide_eq_false g3] at HF
      go_wp2_with fail
      go_ret
      exact ⟨ret_bool (by rw [HF.out]; rfl), HB.out⟩
    ·rw [decide_eq_false g2] at HF
     go_wp2_with fail
     go_ret
     exact ⟨ret_bool (by rw [HF.out]; rfl), HB.out⟩
  ·have g0' := str_some g0
   rw [decide_eq_false g0] at HF
   clear g0
   go_wp2_with fail
   go_ret
   exact ⟨ret_bool (by rw [HF.out]; rfl), HB.out⟩
 ·rw [if_neg h5] at hF
  have k5 : (x.kind == 5) = false := by rw [beqd]; exact decide_eq_false (by omega)
  by_cases h67 : x.kind = 6 ∨ x.kind = 7
  ·rw [if_pos h67] at hF
   have HF := Lib.hid hF
   have h67' : (x.kind == 6) = true ∨ (x.kind == 6) = false ∧ (x.kind == 7) = true := by simp only [beqd]; rcases h67 with h | h <;> simp [h]
   clear hF h5 h67 HNO
   generalize inS x = res at *
   generalize aloneB x.name x.low x.high = q at *
   generalize pairB x.kind x.kids = q2 at *
   generalize x.kids.all inS = q3 at *
   rcases h67' with k6 | ⟨k6, k7⟩
   all_goals
    go_enter Tryz.func105, Tryz.ntmps105
    go_wp2_with fail
    refine (HCA.out _).mono ?_
    rintro e w2 ⟨rfl, hb2⟩
    have HB2 := Lib.hid (HB.out.trans (hb2.mono HB.out.size))
    clear HB
    have HB := HB2
    clear HB2
    have HROW2 := Lib.hid ((hb2.block w.heap.size (by omega)).trans HROW.out)
    clear HROW
    have HROW := HROW2
    clear HROW2
    obtain ⟨r0, r1, r2, r3, r4⟩ := cells5 HROW.out
    have hz2 := hb2.size
    clear hb2
    cases q with
    | false =>
     go_wp2_with fail
     go_ret
     exact ⟨ret_bool (by rw [HF.out]; rfl), HB.out⟩
    | true =>
     go_wp2_with fail
     refine (HCP.out _ HB.out).mono ?_
     rintro e w2 ⟨rfl, hb2⟩
     have HB2 := Lib.hid (HB.out.trans (hb2.mono HB.out.size))
     clear HB
     have HB := HB2
     clear HB2
     have HROW2 := Lib.hid ((hb2.block w.heap.size (by omega)).trans HROW.out)
     clear HROW
     have HROW := HROW2
     clear HROW2
     obtain ⟨r0, r1, r2, r3, r4⟩ := cells5 HROW.out
     have hz2 := hb2.size
     clear hb2
     cases q2 with
     | false =>
      go_wp2_with fail
      go_ret
      exact ⟨ret_bool (by rw [HF.out]; rfl), HB.out⟩
     | true =>
      go_wp2_with fail
      refine (HAL.out _ HB.out).mono ?_
      rintro e w2 ⟨rfl, hb2⟩
      have HB2 := Lib.hid (HB.out.trans (hb2.mono HB.out.size))
      clear HB
      have HB := HB2
      clear HB2
      have HROW2 := Lib.hid ((hb2.block w.heap.size (by omega)).trans HROW.out)
      clear HROW
      have HROW := HROW2
      clear HROW2
      obtain ⟨r0, r1, r2, r3, r4⟩ := cells5 HROW.out
      have hz2 := hb2.size
      clear hb2
      go_wp2_with fail
      go_ret
      exact ⟨ret_bool (by rw [HF.out]; rfl), HB.out⟩
  ·rw [if_neg h67] at hF
   have HF := Lib.hid hF
   have k6 : (x.kind == 6) = false := by rw [beqd]; exact decide_eq_false (by omega)
   have k7 : (x.kind == 7) = false := by rw [beqd]; exact decide_eq_false (by omega)
   clear hF h5 h67 HCA HCP HAL
   generalize inS x = res at *
   generalize nosB x = q at *
   go_enter Tryz.func105, Tryz.ntmps105
   go_wp2_with fail
   refine (HNO.out _ HB.out).mono ?_
   rintro e w2 ⟨rfl, hb2⟩
   have HB2 := Lib.hid (HB.out.trans (hb2.mono HB.out.size))
   clear HB
   have HB := HB2
   clear HB2
   have HROW2 := Lib.hid ((hb2.block w.heap.size (by omega)).trans HROW.out)
   clear HROW
   have HROW := HROW2
   clear HROW2
   obtain ⟨r0, r1, r2, r3, r4⟩ := cells5 HROW.out
   have hz2 := hb2.size
   clear hb2
   go_wp2_with fail
   go_ret
   exact ⟨ret_bool HF.out.symm, HB.out⟩
theorem inS_all : ∀ k : Nat, InSK k := by
 intro k
 induction k with
 | zero => intro x h; have := Nd.size_pos x; omega
 | succ k ih => exact inS_step ih
theorem nos_any {x : Nd} {w : World} {A : Option Addr} {n c : Nat} (ha : RdN w (Lt w) A n c x.kids) :
  Calls Tryz.prog 78 #[.agg #[.int .i64 x.kind, .string x.name, .int .i64 x.low, .int .i64 x.high, .slice A n c]] w (BooK w (nosB x)) := nos_of (inS_all _) (Nat.le_refl _) ha
end Go.Proofs.YtmohefgdpddldaaGreatDoor
namespace Go.Proofs.YtmohefgdpddldaaGreatDoor
open Go.RowKit
open Y (Nd It noName)
open K (numsOf nameB twoB threeB aloneB endK pairB inS inF nosB deepB rightB noneB numOk mayB)

/-- May it stand outside of sets, of forms of so many nodes? -/
def InFK (k : Nat) : Prop := ∀ (x : Nd), x.size ≤ k → ∀ (w : World) (A : Option Addr) (n c : Nat), RdN w (Lt w) A n c x.kids →
 Calls Tryz.prog 40 #[.agg #[.int .i64 x.kind, .string x.name, .int .i64 x.low, .int .i64 x.high, .slice A n c]] w (BooK w (inF x))
theorem allF_of {k : Nat} (ih : InFK k) {l : List Nd} (hk : Y.sizeL l ≤ k) {w : World} {A : Option Addr} {n c : Nat} (h : RdN w (Lt w) A n c l) :
  Calls Tryz.prog 76 #[.slice A n c, .func (.func 40) #[] #[]] w (BooK w (l.all inF)) :=
 allN_any 40 #[] inF h (enters_of Tryz.func40 (by kernel_rfl) rfl) fun W x A n c hx _ hr => ih x (by have := K.size_in hx; omega) W A n c hr
theorem ieq1_kids (x : Nd) {n : Nat} (h : x.kids.length = n) : ((n : Int) == 1) = decide (x.kids.length = 1) := by rw [Bool.eq_iff_iff, h]; simp; omega
theorem ige2_kids (x : Nd) {n : Nat} (h : x.kids.length = n) : decide ((2 : Int) ≤ (n : Int)) = decide (2 ≤ x.kids.length) := by rw [Bool.eq_iff_iff, h]; simp; omega
set_option maxHeartbeats 8000000 in
theorem inF_step {k : Nat} (ih : InFK k) : InFK (k + 1) := by
 intro x hk w A n c ha
 have hkk : Y.sizeL x.kids ≤ k := by have := K.size_eq x; omega
 have HP := Lib.hid (kbelow_push w (.cells #[.int .i64 x.kind, .string x.name, .int .i64 x.low, .int .i64 x.high, .slice A n c] 24))
 have HA := Lib.hid (ha.on HP.out)
 have HROW := Lib.hid (heap_alloc_new w (.cells #[.int .i64 x.kind, .string x.name, .int .i64 x.low, .int .i64 x.high, .slice A n c] 24))
 have hz : (w.alloc (.cells #[.int .i64 x.kind, .string x.name, .int .i64 x.low, .int .i64 x.high, .slice A n c] 24)).heap.size = w.heap.size + 1 := by simp
 have hsm := ha.small
 have HB : Hid (Below w.heap.size w (w.alloc (.cells #[.int .i64 x.kind, .string x.name, .int .i64 x.low, .int .i64 x.high, .slice A n c] 24))) := HP.out
 have HCA : Hid (∀ W, Calls Tryz.prog 72 #[.agg #[.int .i64 x.kind, .string x.name, .int .i64 x.low, .int .i64 x.high, .slice A n c]] W (BooK W (aloneB x.name x.low x.high))) := fun W => alone_any
 have HAL : Hid (∀ W, Below w.heap.size w W → Calls Tryz.prog 76 #[.slice A n c, .func (.func 40) #[] #[]] W (BooK W (x.kids.all inF))) := fun W h => allF_of ih hkk (ha.on h)
 have HNO : Hid (∀ W, Below w.heap.size w W → Calls Tryz.prog 78 #[.agg #[.int .i64 x.kind, .string x.name, .int .i64 x.low, .int .i64 x.high, .slice A n c]] W (BooK W (nosB x))) := fun W h => nos_any (ha.on h)
 have hF := K.inF_eq x
 rw [← ieqn_kids x ha.len, ← ieq1_kids x ha.len, ← ige2_kids x ha.len] at hF
 clear ha ih HA hk
 generalize inF x = res at *
 generalize aloneB x.name x.low x.high = q at *
 generalize x.kids.all inF = q3 at *
 by_cases h13 : x.kind = 1 ∨ x.kind = 3
 ·rw [if_pos h13] at hF
  have HF := Lib.hid hF
  have h13' : (x.kind == 1) = true ∨ (x.kind == 1) = false ∧ (x.kind == 3) = true := by simp only [beqd]; rcases h13 with h | h <;> simp [h]
  clear hF h13 HNO HAL
  rcases h13' with k1 | ⟨k1, k3⟩
  all_goals
   go_enter Tryz.func40, Tryz.ntmps40
   go_wp2_with fail
   refine (HCA.out _).mono ?_
   rintro e w2 ⟨rfl, hb2⟩
   have HB2 := Lib.hid (HB.out.trans (hb2.mono HB.out.size))
   clear HB
   have HB := HB2
   clear HB2
   have HROW2 := Lib.hid ((hb2.block w.heap.size (by omega)).trans HROW.out)
   clear HROW
   have HROW := HROW2
   clear HROW2
   obtain ⟨r0, r1, r2, r3, r4⟩ := cells5 HROW.out
   have hz2 := hb2.size
   clear hb2
   cases q with
   | false =>
    go_wp2_with fail
    go_ret
    exact ⟨ret_bool (by rw [HF.out]; rfl), HB.out⟩
   | true =>
    go_wp2_with fail
    go_ret
    exact ⟨ret_bool (by rw [HF.out]; rfl), HB.out⟩
 ·rw [if_neg h13] at hF
  have k1 : (x.kind == 1) = false := by rw [beqd]; exact decide_eq_false (by omega)
  have k3 : (x.kind == 3) = false := by rw [beqd]; exact decide_eq_false (by omega)
  clear h13
  by_cases h89 : x.kind = 8 ∨ x.kind = 9
  ·rw [if_pos h89] at hF
   have HF := Lib.hid hF
   have h89' : (x.kind == 8) = true ∨ (x.kind == 8) = false ∧ (x.kind == 9) = true := by simp only [beqd]; rcases h89 with h | h <;> simp [h]
   clear hF h89 HNO
   rcases h89' with k8 | ⟨k8, k9⟩
   all_goals
    go_enter Tryz.func40, Tryz.ntmps40
    go_wp2_with fail
    refine (HCA.out _).mono ?_
    rintro e w2 ⟨rfl, hb2⟩
    have HB2 := Lib.hid (HB.out.trans (hb2.mono HB.out.size))
    clear HB
    have HB := HB2
    clear HB2
    have HROW2 := Lib.hid ((hb2.block w.heap.size (by omega)).trans HROW.out)
    clear HROW
    have HROW := HROW2
    clear HROW2
    obtain ⟨r0, r1, r2, r3, r4⟩ := cells5 HROW.out
    have hz2 := hb2.size
    clear hb2
    cases q with
    | false =>
     go_wp2_with fail
     go_ret
     exact ⟨ret_bool (by rw [HF.out]; rfl), HB.out⟩
    | true =>
     by_cases g1 : (2 : Int) ≤ (n : Int)
     ·rw [decide_eq_true g1] at HF
      go_wp2_with fail
      refine (HAL.out _ HB.out).mono ?_
      rintro e w2 ⟨rfl, hb2⟩
      have HB2 := Lib.hid (HB.out.trans (hb2.mono HB.out.size))
      clear HB
      have HB := HB2
      clear HB2
      have HROW2 := Lib.hid ((hb2.block w.heap.size (by omega)).trans HROW.out)
      clear HROW
      have HROW := HROW2
      clear HROW2
      obtain ⟨r0, r1, r2, r3, r4⟩ := cells5 HROW.out
      have hz2 := hb2.size
      clear hb2
      go_wp2_with fail
      go_ret
      exact ⟨ret_bool (by rw [HF.out]; rfl), HB.out⟩
     ·rw [decide_eq_false g1] at HF
      go_wp2_with fail
      go_ret
      exact ⟨ret_bool (by rw [HF.out]; rfl), HB.out⟩
  ·rw [if_neg h89] at hF
   have k8 : (x.kind == 8) = false := by rw [beqd]; exact decide_eq_false (by omega)
   have k9 : (x.kind == 9) = false := by rw [beqd]; exact decide_eq_false (by omega)
   clear h89
   by_cases h3 : x.kind = 10 ∨ x.kind = 11 ∨ x.kind = 12
   ·rw [if_pos h3] at hF
    have HF := Lib.hid hF
    have h3' : (x.kind == 10) = true ∨ (x.kind == 10) = false ∧ (x.kind == 11) = true ∨ (x.kind == 10) = false ∧ (x.kind == 11) = false ∧ (x.kind == 12) = true := by simp only [beqd]; rcases h3 with h | h | h <;> simp [h]
    clear hF h3 HNO
    rcases h3' with k10 | ⟨k10, k11⟩ | ⟨k10, k11, k12⟩
    all_goals
     go_enter Tryz.func40, Tryz.ntmps40
     go_wp2_with fail
     refine (HCA.out _).mono ?_
     rintro e w2 ⟨rfl, hb2⟩
     have HB2 := Lib.hid (HB.out.trans (hb2.mono HB.out.size))
     clear HB
     have HB := HB2
     clear HB2
     have HROW2 := Lib.hid ((hb2.block w.heap.size (by omega)).trans HROW.out)
     clear HROW
     have HROW := HROW2
     clear HROW2
     obtain ⟨r0, r1, r2, r3, r4⟩ := cells5 HROW.out
     have hz2 := hb2.size
     clear hb2
     cases q with
     | false =>
      go_wp2_with fail
      go_ret
      exact ⟨ret_bool (by rw [HF.out]; rfl), HB.out⟩
     | true =>
      cases g1 : ((n : Int) == 1) with
      | false =>
       rw [g1] at HF
       go_wp2_with fail
       go_ret
       exact ⟨ret_bool (by rw [HF.out]; rfl), HB.out⟩
      | true =>
       rw [g1] at HF
       go_wp2_with fail
       refine (HAL.out _ HB.out).mono ?_
       rintro e w2 ⟨rfl, hb2⟩
       have HB2 := Lib.hid (HB.out.trans (hb2.mono HB.out.size))
       clear HB
       have HB := HB2
       clear HB2
       have HROW2 := Lib.hid ((hb2.block w.heap.size (by omega)).trans HROW.out)
       clear HROW
       have HROW := HROW2
       clear HROW2
       obtain ⟨r0, r1, r2, r3, r4⟩ := cells5 HROW.out
       have hz2 := hb2.size
       clear hb2
       go_wp2_with fail
       go_ret
       exact ⟨ret_bool (by rw [HF.out]; rfl), HB.out⟩
   ·rw [if_neg h3] at hF
    have HF := Lib.hid hF
    have k10 : (x.kind == 10) = false := by rw [beqd]; exact decide_eq_false (by omega)
    have k11 : (x.kind == 11) = false := by rw [beqd]; exact decide_eq_false (by omega)
    have k12 : (x.kind == 12) = false := by rw [beqd]; exact decide_eq_false (by omega)
    clear hF h3 HCA HAL
    generalize nosB x = q5 at *
    go_enter Tryz.func40, Tryz.ntmps40
    go_wp2_with fail
    refine (HNO.out _ HB.out).mono ?_
    rintro e w2 ⟨rfl, hb2⟩
    have HB2 := Lib.hid (HB.out.trans (hb2.mono HB.out.size))
    clear HB
    have HB := HB2
    clear HB2
    have HROW2 := Lib.hid ((hb2.block w.heap.size (by omega)).trans HROW.out)
    clear HROW
    have HROW := HROW2
    clear HROW2
    obtain ⟨r0, r1, r2, r3, r4⟩ := cells5 HROW.out
    have hz2 := hb2.size
    clear hb2
    go_wp2_with fail
    go_ret
    exact ⟨ret_bool HF.out.symm, HB.out⟩
theorem inF_all : ∀ k : Nat, InFK k := by
 intro k
 induction k with
 | zero => intro x h; have := Nd.size_pos x; omega
 | succ k ih => exact inF_step ih
/-- Is a form at most so many deep? -/
def DeepK (m : Nat) : Prop := ∀ (x : Nd) (w : World) (A : Option Addr) (n c : Nat), RdN w (Lt w) A n c x.kids →
 Calls Tryz.prog 39 #[.agg #[.int .i64 x.kind, .string x.name, .int .i64 x.low, .int .i64 x.high, .slice A n c], .int .i64 m] w (BooK w (deepB m x))
set_option maxHeartbeats 4000000 in
theorem deep_pred {m : Nat} (hm : m ≤ 1000) (ih : DeepK m) (l : List Nd) (w : World) (b : Nat) (hb : b < w.heap.size) (hc : w.cell? ⟨b, 0, none⟩ = some (.int .i64 ((m + 1 : Nat) : Int))) :
  PredN 77 #[.pointer (some ⟨b, 0, none⟩)] (deepB m) l w := fun W x A n c hx hW hr => by
 obtain ⟨M, hM⟩ : ∃ M : Int, M = ((m + 1 : Nat) : Int) := ⟨_, rfl⟩
 have hc' : W.cell? ⟨b, 0, none⟩ = some (.int .i64 M) := by rw [hM]; exact (hW.cell (p := ⟨b, 0, none⟩) hb).trans hc
 have hb' : b < W.heap.size := Nat.lt_of_lt_of_le hb hW.size
 have HP := Lib.hid (kbelow_push W (.cells #[.int .i64 x.kind, .string x.name, .int .i64 x.low, .int .i64 x.high, .slice A n c] 24))
 have hcall := ih x _ A n c (hr.on HP.out)
 rw [show (m : Int) = M - 1 by omega] at hcall
 have HC := Lib.hid hcall
 have hM0 : 0 ≤ M := by omega
 have hM1 : M ≤ 2000 := by omega
 clear hr hW hc hcall hx ih hM
 show Calls Tryz.prog 77 #[.agg #[.int .i64 x.kind, .string x.name, .int .i64 x.low, .int .i64 x.high, .slice A n c], .pointer (some ⟨b, 0, none⟩)] W _
 go_enter Tryz.func77, Tryz.ntmps77
 go_wp2_with fail
 refine HC.out.mono ?_
 rintro e w2 ⟨rfl, hb2⟩
 have HB := Lib.hid (HP.out.trans (hb2.mono HP.out.size))
 clear hb2
 go_wp2_with fail
 go_ret
 exact ⟨rfl, HB.out⟩
set_option maxHeartbeats 4000000 in
theorem deep_all : ∀ m : Nat, m ≤ 1000 → DeepK m := by
 intro m
 induction m with
 | zero =>
  intro _ x w A n c ha
  have HB : Hid (Below w.heap.size w ((w.alloc (.cells #[.int .i64 x.kind, .string x.name, .int .i64 x.low, .int .i64 x.high, .slice A n c] 24)).alloc (.cells #[.int .i64 0] 3))) := (kbelow_push w _).alloc (by simp) _
  have HF : Hid (deepB 0 x = false) := by show _ = _; cases x; rw [K.deepB]
  clear ha
  go_enter Tryz.func39, Tryz.ntmps39
  go_wp2_with fail
  go_ret
  exact ⟨ret_bool HF.out.symm, HB.out⟩
 | succ m ih =>
  intro hm x w A n c ha
  obtain ⟨M, hM⟩ : ∃ M : Int, M = ((m + 1 : Nat) : Int) := ⟨_, rfl⟩
  have HB : Hid (Below w.heap.size w ((w.alloc (.cells #[.int .i64 x.kind, .string x.name, .int .i64 x.low, .int .i64 x.high, .slice A n c] 24)).alloc (.cells #[.int .i64 M] 3))) := (kbelow_push w _).alloc (by simp) _
  have HF : Hid (deepB (m + 1) x = x.kids.all (deepB m)) := K.deepB_eq m x
  have HC := Lib.hid (allN_any 77 #[.pointer (some ⟨w.heap.size + 1, 0, none⟩)] (deepB m) (ha.on HB.out) (enters_of Tryz.func77 (by kernel_rfl) rfl)
   (deep_pred (by omega) (ih (by omega)) x.kids _ (w.heap.size + 1) (by simp) (by rw [← hM]; simp)))
  have hM0 : 0 < M := by omega
  rw [← hM]
  generalize deepB (m + 1) x = res at *
  generalize x.kids.all (deepB m) = q at *
  clear ha ih hM
  go_enter Tryz.func39, Tryz.ntmps39
  go_wp2_with fail
  refine HC.out.mono ?_
  rintro e w2 ⟨rfl, hb2⟩
  have HB2 := Lib.hid (HB.out.trans (hb2.mono HB.out.size))
  clear hb2
  go_wp2_with fail
  go_ret
  exact ⟨ret_bool HF.out.symm, HB2.out⟩
set_option maxHeartbeats 4000000 in
theorem right_any {x : Nd} {w : World} {A : Option Addr} {n c : Nat} (ha : RdN w (Lt w) A n c x.kids) :
  Calls Tryz.prog 16 #[.agg #[.int .i64 x.kind, .string x.name, .int .i64 x.low, .int .i64 x.high, .slice A n c]] w (BooK w (rightB x)) := by
 have HP := Lib.hid (kbelow_push w (.cells #[.int .i64 x.kind, .string x.name, .int .i64 x.low, .int .i64 x.high, .slice A n c] 24))
 have HA := Lib.hid (ha.on HP.out)
 have HROW := Lib.hid (heap_alloc_new w (.cells #[.int .i64 x.kind, .string x.name, .int .i64 x.low, .int .i64 x.high, .slice A n c] 24))
 have hz : (w.alloc (.cells #[.int .i64 x.kind, .string x.name, .int .i64 x.low, .int .i64 x.high, .slice A n c] 24)).heap.size = w.heap.size + 1 := by simp
 have hsm := ha.small
 have HB : Hid (Below w.heap.size w (w.alloc (.cells #[.int .i64 x.kind, .string x.name, .int .i64 x.low, .int .i64 x.high, .slice A n c] 24))) := HP.out
 obtain ⟨R, hR⟩ : ∃ R : Int, R = ((min x.size 100000 : Nat) : Int) := ⟨_, rfl⟩
 have HSZ := size_any HA.out
 rw [← hR] at HSZ
 replace HSZ := Lib.hid HSZ
 have HD : Hid (∀ W, Below w.heap.size w W → Calls Tryz.prog 39 #[.agg #[.int .i64 x.kind, .string x.name, .int .i64 x.low, .int .i64 x.high, .slice A n c], .int .i64 100] W (BooK W (deepB 100 x))) := fun W h => deep_all 100 (by decide) x W A n c (ha.on h)
 have HI : Hid (∀ W, Below w.heap.size w W → Calls Tryz.prog 40 #[.agg #[.int .i64 x.kind, .string x.name, .int .i64 x.low, .int .i64 x.high, .slice A n c]] W (BooK W (inF x))) := fun W h => inF_all x.size x (Nat.le_refl _) W A n c (ha.on h)
 have HF : Hid (rightB x = (decide (R ≤ 500) && deepB 100 x && inF x)) := by
  show _ = _
  unfold K.rightB
  congr 2
  rw [decide_eq_decide]; omega
 clear ha HA hR
 generalize rightB x = res at *
 generalize deepB 100 x = q at *
 generalize inF x = q2 at *
 go_enter Tryz.func16, Tryz.ntmps16
 go_wp2_with fail
 generalize w.alloc (.cells #[.int .i64 x.kind, .string x.name, .int .i64 x.low, .int .i64 x.high, .slice A n c] 24) = W1 at *
 refine (HSZ.out).mono ?_
 rintro e w2 ⟨rfl, hb2⟩
 have HB2 := Lib.hid (HB.out.trans (hb2.mono HB.out.size))
 clear HB
 have HB := HB2
 clear HB2
 have HROW2 := Lib.hid ((hb2.block w.heap.size (by omega)).trans HROW.out)
 clear HROW
 have HROW := HROW2
 clear HROW2
 obtain ⟨r0, r1, r2, r3, r4⟩ := cells5 HROW.out
 have hz2 := hb2.size
 clear hb2
 by_cases g0 : R ≤ 500
 ·rw [decide_eq_true g0] at HF
  go_wp2_with fail
  refine (HD.out _ HB.out).mono ?_
  rintro e w2 ⟨rfl, hb2⟩
  have HB2 := Lib.hid (HB.out.trans (hb2.mono HB.out.size))
  clear HB
  have HB := HB2
  clear HB2
  have HROW2 := Lib.hid ((hb2.block w.heap.size (by omega)).trans HROW.out)
  clear HROW
  have HROW := HROW2
  clear HROW2
  obtain ⟨r0, r1, r2, r3, r4⟩ := cells5 HROW.out
  have hz2 := hb2.size
  clear hb2
  cases q with
  | false =>
   go_wp2_with fail
   go_ret
   exact ⟨ret_bool (by rw [HF.out]; rfl), HB.out⟩
  | true =>
   go_wp2_with fail
   refine (HI.out _ HB.out).mono ?_
   rintro e w2 ⟨rfl, hb2⟩
   have HB2 := Lib.hid (HB.out.trans (hb2.mono HB.out.size))
   clear HB
   have HB := HB2
   clear HB2
   have HROW2 := Lib.hid ((hb2.block w.heap.size (by omega)).trans HROW.out)
   clear HROW
   have HROW := HROW2
   clear HROW2
   obtain ⟨r0, r1, r2, r3, r4⟩ := cells5 HROW.out
   have hz2 := hb2.size
   clear hb2
   go_wp2_with fail
   go_ret
   exact ⟨ret_bool (by rw [HF.out]; rfl), HB.out⟩
 ·rw [decide_eq_false g0] at HF
  go_wp2_with fail
  go_ret
  exact ⟨ret_bool (by rw [HF.out]; rfl), HB.out⟩
end Go.Proofs.YtmohefgdpddldaaGreatDoor
namespace Go.Proofs.YtmohefgdpddldaaGreatDoor
namespace K
open Y (Nd It noName zeroN sizeL)

def innerB (k : Int) : Bool := decide (k = 5 ∨ k = 2 ∨ k = 4 ∨ k = 6 ∨ k = 7)
mutual
/-- Does it end with a name, or a set? -/
def endsD : Nd → Bool
 | .mk k _ _ _ l => if (k = 6 ∨ k = 7) ∧ l.length = 2 then endsL l else decide (k = 2 ∨ k = 4)
def endsL : List Nd → Bool
 | [] => false
 | x :: t => if t.isEmpty = true then endsD x else endsL t
end
theorem endsD_eq (x : Nd) : endsD x = if (x.kind = 6 ∨ x.kind = 7) ∧ x.kids.length = 2 then endsL x.kids else decide (x.kind = 2 ∨ x.kind = 4) := by
 cases x with
 | mk k s lo hi l => rw [endsD]; rfl
theorem endsL_two (a b : Nd) : endsL [a, b] = endsD b := by
 simp [endsL]
/-- What must not be in a node of a kind. -/
def badD (x : Nd) (within : Bool) : Bool := decide ((x.kind ≠ 2 ∧ x.name.size ≠ 0) ∨ (x.kind ≠ 5 ∧ (x.high ≠ 0 ∨ x.kind ≠ 4 ∧ x.low ≠ 0)) ∨ (within = true ∧ innerB x.kind = false))
def pairD (k : Int) : List Nd → Bool
 | [a, b] => !twoB b.kind && (decide (k = 6) || endsD a)
 | _ => false
def nodeD (x : Nd) (within : Bool) : Bool :=
 if badD x within = true then false
 else if x.kind = 1 ∨ x.kind = 3 then decide (x.kids.length = 0)
 else if x.kind = 2 then decide (x.kids.length = 0) && nameB (numsOf x.name)
 else if x.kind = 4 then decide (x.low = 0) || decide (x.low = 1)
 else if x.kind = 5 then within && decide (x.kids.length = 0) && decide (0 ≤ x.low) && decide (x.low ≤ x.high) && decide (x.high ≤ 1114111)
 else if x.kind = 6 ∨ x.kind = 7 then within && pairD x.kind x.kids
 else if x.kind = 8 ∨ x.kind = 9 then decide (2 ≤ x.kids.length)
 else if x.kind = 10 ∨ x.kind = 11 ∨ x.kind = 12 then decide (x.kids.length = 1)
 else false
mutual
def allD : Bool → Nd → Bool
 | b, .mk k s lo hi l => nodeD (.mk k s lo hi l) b && allDL (b || decide (k = 4)) l
def allDL : Bool → List Nd → Bool
 | _, [] => true
 | b, x :: t => allD b x && allDL b t
end
theorem allDL_all (b : Bool) (l : List Nd) : allDL b l = l.all (allD b) := by
 induction l with
 | nil => rw [allDL]; rfl
 | cons x t ih => rw [allDL, ih]; rfl
theorem allD_eq (x : Nd) (b : Bool) : allD b x = (nodeD x b && x.kids.all (allD (b || decide (x.kind = 4)))) := by
 cases x with
 | mk k s lo hi l => rw [allD, allDL_all]; rfl
theorem all_congr {p q : Nd → Bool} {l : List Nd} (h : ∀ y ∈ l, p y = q y) : l.all p = l.all q := by
 induction l with
 | nil => rfl
 | cons x t ih => rw [List.all_cons, List.all_cons, h x (List.mem_cons_self ..), ih fun y hy => h y (List.mem_cons_of_mem _ hy)]
theorem twoB_iff (k : Int) : twoB k = decide (k = 6 ∨ k = 7) := rfl
theorem endK_of {a : Nd} (h : inS a = true) : endsD a = (decide (endK a = 2) || decide (endK a = 4)) := by
 rw [endsD_eq]
 by_cases ht : a.kind = 6 ∨ a.kind = 7
 ·rw [inS_eq, if_neg (by omega), if_pos ht] at h
  simp only [Bool.and_eq_true] at h
  have hp := h.1.2
  unfold pairB at hp
  split at hp
  ·rename_i p q e
   simp only [Bool.and_eq_true, Bool.not_eq_true'] at hp
   have hq : ¬ (q.kind = 6 ∨ q.kind = 7) := by have := hp.1; rw [twoB_iff] at this; exact of_decide_eq_false this
   have hl : a.kids.length = 2 := by rw [e]; rfl
   have hk : endK a = q.kind := by
    unfold endK
    rw [if_pos (show twoB a.kind = true from decide_eq_true ht), e]
   rw [if_pos ⟨ht, hl⟩, hk, e, endsL_two, endsD_eq, if_neg (fun e => hq e.1)]
   simp
  ·cases hp
 ·rw [if_neg (fun e => ht e.1)]
  have hk : endK a = a.kind := by
   unfold endK
   rw [if_neg (show ¬ twoB a.kind = true by rw [twoB_iff]; simp; omega)]
  rw [hk]
  simp
theorem pairD_of {k : Int} : ∀ {l : List Nd}, l.all inS = true → pairD k l = pairB k l
 | [a, b], h => by
  simp only [List.all_cons, Bool.and_eq_true] at h
  show (!twoB b.kind && (decide (k = 6) || endsD a)) = (!twoB b.kind && (decide (k = 6) || decide (endK a = 2) || decide (endK a = 4)))
  rw [endK_of h.1, Bool.or_assoc]
 | [], _ => rfl
 | [_], _ => rfl
 | _ :: _ :: _ :: _, _ => rfl
theorem and_of {a b c : Bool} (h : c = true → a = b) : (a && c) = (b && c) := by
 cases c with
 | false => rw [Bool.and_false, Bool.and_false]
 | true => rw [h rfl]
/-- A name, or a set, wherever it stands. -/
theorem nos_all {x : Nd} (b : Bool) (hk : x.kind = 2 ∨ x.kind = 4) (ih : ∀ y ∈ x.kids, allD true y = inS y) : allD b x = nosB x := by
 rw [allD_eq]
 rcases hk with h | h
 ·unfold nosB nodeD badD innerB
  simp only [h]
  by_cases h0 : x.kids.length = 0
  ·rw [List.eq_nil_of_length_eq_zero h0]
   by_cases e1 : x.low = 0 <;> by_cases e2 : x.high = 0 <;> cases b <;> simp [e1, e2]
  ·cases b <;> simp [h0]
 ·have : x.kids.all (allD (b || decide (x.kind = 4))) = inSL x.kids := by rw [decide_eq_true h, Bool.or_true, inSL_all]; exact all_congr ih
  rw [this]
  unfold nosB nodeD badD innerB
  simp only [h]
  by_cases e1 : x.name.size = 0 <;> by_cases e2 : x.high = 0 <;> cases b <;> simp [e1, e2]
theorem allD_in : ∀ (n : Nat) (x : Nd), x.size ≤ n → allD true x = inS x := by
 intro n
 induction n with
 | zero => intro x h; have := x.size_pos; omega
 | succ n ih =>
  intro x hn
  have hs := size_eq x
  have hk : ∀ y ∈ x.kids, allD true y = inS y := fun y hy => ih y (by have := size_in hy; omega)
  by_cases h24 : x.kind = 2 ∨ x.kind = 4
  ·rw [nos_all true h24 hk, inS_eq, if_neg (by omega), if_neg (by omega)]
  ·rw [allD_eq, inS_eq, Bool.true_or, all_congr hk]
   by_cases h5 : x.kind = 5
   ·unfold nodeD badD innerB
    simp only [h5]
    by_cases h0 : x.kids.length = 0
    ·rw [List.eq_nil_of_length_eq_zero h0]
     by_cases e1 : x.name.size = 0 <;> simp [e1]
    ·simp [h0]
   ·rw [if_neg h5]
    by_cases h67 : x.kind = 6 ∨ x.kind = 7
    ·rw [if_pos h67]
     refine and_of fun hall => ?_
     unfold nodeD
     rw [if_neg (show ¬ (x.kind = 1 ∨ x.kind = 3) by omega), if_neg (show ¬ x.kind = 2 by omega), if_neg (show ¬ x.kind = 4 by omega), if_neg h5, if_pos h67, pairD_of hall]
     unfold badD innerB aloneB
     rcases h67 with h | h <;> simp only [h] <;> by_cases e1 : x.name.size = 0 <;> by_cases e2 : x.high = 0 <;> by_cases e3 : x.low = 0 <;> simp [e1, e2, e3]
    ·rw [if_neg h67]
     have hb : badD x true = true := by
      unfold badD innerB
      refine decide_eq_true (.inr (.inr ⟨rfl, decide_eq_false (by omega)⟩))
     unfold nodeD nosB
     rw [if_pos hb, if_neg (by omega), if_neg (by omega), Bool.false_and]
theorem allD_out : ∀ (n : Nat) (x : Nd), x.size ≤ n → allD false x = inF x := by
 intro n
 induction n with
 | zero => intro x h; have := x.size_pos; omega
 | succ n ih =>
  intro x hn
  have hs := size_eq x
  have hk : ∀ y ∈ x.kids, allD false y = inF y := fun y hy => ih y (by have := size_in hy; omega)
  by_cases h24 : x.kind = 2 ∨ x.kind = 4
  ·rw [nos_all false h24 (fun y _ => allD_in _ y (Nat.le_refl _)), inF_eq, if_neg (by omega), if_neg (by omega), if_neg (by omega)]
  ·rw [allD_eq, inF_eq, Bool.false_or, decide_eq_false (show ¬ x.kind = 4 by omega), all_congr hk]
   by_cases h13 : x.kind = 1 ∨ x.kind = 3
   ·rw [if_pos h13]
    unfold nodeD badD innerB aloneB
    by_cases h0 : x.kids.length = 0
    ·rw [List.eq_nil_of_length_eq_zero h0]
     rcases h13 with h | h <;> simp only [h] <;> by_cases e1 : x.name.size = 0 <;> by_cases e2 : x.high = 0 <;> by_cases e3 : x.low = 0 <;> simp [e1, e2, e3]
    ·rcases h13 with h | h <;> simp [h, h0]
   ·rw [if_neg h13]
    by_cases h89 : x.kind = 8 ∨ x.kind = 9
    ·rw [if_pos h89]
     refine and_of fun _ => ?_
     unfold nodeD badD innerB aloneB
     rcases h89 with h | h <;> simp only [h] <;> by_cases e1 : x.name.size = 0 <;> by_cases e2 : x.high = 0 <;> by_cases e3 : x.low = 0 <;> simp [e1, e2, e3]
    ·rw [if_neg h89]
     by_cases h3 : x.kind = 10 ∨ x.kind = 11 ∨ x.kind = 12
     ·rw [if_pos h3]
      refine and_of fun _ => ?_
      unfold nodeD badD innerB aloneB
      rcases h3 with h | h | h <;> simp only [h] <;> by_cases e1 : x.name.size = 0 <;> by_cases e2 : x.high = 0 <;> by_cases e3 : x.low = 0 <;> simp [e1, e2, e3]
     ·rw [if_neg h3]
      unfold nosB
      rw [if_neg (by omega), if_neg (by omega)]
      unfold nodeD
      rw [if_neg h13, if_neg (show ¬ x.kind = 2 by omega), if_neg (show ¬ x.kind = 4 by omega), if_neg h89, if_neg h3]
      by_cases hb : badD x false = true
      ·rw [if_pos hb]; rfl
      ·rw [if_neg hb]
       by_cases h5 : x.kind = 5
       ·rw [if_pos h5]; simp
       ·rw [if_neg h5]
        by_cases h67 : x.kind = 6 ∨ x.kind = 7
        ·rw [if_pos h67]; simp
        ·rw [if_neg h67]; rfl
mutual
/-- How deep a form is. -/
def deepD : Nd → Nat
 | .mk _ _ _ _ l => deepM l + 1
def deepM : List Nd → Nat
 | [] => 0
 | x :: t => max (deepD x) (deepM t)
end
theorem deepD_eq (x : Nd) : deepD x = deepM x.kids + 1 := by cases x; rw [deepD]; rfl
theorem deepM_snoc (l : List Nd) (x : Nd) : deepM (l ++ [x]) = max (deepM l) (deepD x) := by
 induction l with
 | nil => rw [List.nil_append, deepM, deepM, deepM]; omega
 | cons y t ih => rw [List.cons_append, deepM, deepM, ih]; omega
theorem deepM_le {l : List Nd} {m : Nat} : deepM l ≤ m ↔ ∀ x ∈ l, deepD x ≤ m := by
 induction l with
 | nil => rw [deepM]; simp
 | cons y t ih => rw [deepM, Nat.max_le, ih]; simp
theorem deepB_of : ∀ (m : Nat) (x : Nd), deepB m x = decide (deepD x ≤ m)
 | 0, x => by rw [deepD_eq, deepB]; simp
 | m + 1, x => by
  rw [deepB_eq, deepD_eq, Bool.eq_iff_iff, List.all_eq_true, decide_eq_true_eq, show deepM x.kids + 1 ≤ m + 1 ↔ deepM x.kids ≤ m by omega, deepM_le]
  refine forall_congr' fun y => forall_congr' fun _ => ?_
  rw [deepB_of m y, decide_eq_true_eq]
theorem deep_size : ∀ (n : Nat) (x : Nd), x.size ≤ n → deepD x ≤ x.size := by
 intro n
 induction n with
 | zero => intro x h; have := x.size_pos; omega
 | succ n ih =>
  intro x hn
  have hs := size_eq x
  have : deepM x.kids ≤ sizeL x.kids := deepM_le.2 fun y hy => by
   have h1 := size_in hy
   exact Nat.le_trans (ih y (by omega)) h1
  rw [deepD_eq]; omega
theorem rightB_eq (x : Nd) : rightB x = (decide (x.size ≤ 500) && decide (deepD x ≤ 100) && allD false x) := by
 unfold rightB
 rw [deepB_of, allD_out x.size x (Nat.le_refl _)]
theorem inF_three {x : Nd} (hk : x.kind = 10 ∨ x.kind = 11 ∨ x.kind = 12) : inF x = (aloneB x.name x.low x.high && decide (x.kids.length = 1) && x.kids.all inF) := by rw [inF_eq, if_neg (by omega), if_neg (by omega), if_pos hk]
theorem txt_great {x : Nd} (hk : 6 ≤ x.kind) : txt x = kidsT x.kind true x.kids ++ behindT x.kind := by rw [txt_eq, if_neg (by omega), if_neg (by omega), if_neg (by omega), if_neg (by omega), if_neg (by omega)]
end K
end Go.Proofs.YtmohefgdpddldaaGreatDoor
namespace Go.Proofs.YtmohefgdpddldaaGreatDoor
namespace W
open E (okb encB flat)

end W
end Go.Proofs.YtmohefgdpddldaaGreatDoor
namespace Go.Proofs
open Go.Shelf
def Tryz.layItoa_ren : Go.Shelf.Ren := ⟨fun | 171 => 97 | 243 => 118 | 246 => 131 | 283 => 138 | 284 => 139 | 285 => 140 | 286 => 141 | 129 => 146 | 317 => 145 | 318 => 147 | 319 => 148 | 320 => 149 | 337 => 155 | 338 => 156 | n => n, fun | 3 => 3 | 9 => 9 | 2 => 2 | 4 => 4 | 171 => 126 | 0 => 0 | 53 => 127 | 37 => 41 | 5 => 5 | 173 => 130 | 212 => 134 | 51 => 135 | 20 => 20 | 213 => 136 | 46 => 137 | 232 => 147 | 233 => 148 | n => n, fun | 17 => 0 | 18 => 4 | 19 => 5 | n => n⟩
theorem Tryz.layItoa : Go.Proofs.LaysM.n171 Tryz.prog Tryz.layItoa_ren := {
 mixed := by kernel_rfl
 f129 := Tryz.func146.trans (congrArg some (by kernel_rfl))
 f171 := Tryz.func97.trans (congrArg some (by kernel_rfl))
 f243 := Tryz.func118.trans (congrArg some (by kernel_rfl))
 f246 := Tryz.func131.trans (congrArg some (by kernel_rfl))
 f283 := Tryz.func138.trans (congrArg some (by kernel_rfl))
 f284 := Tryz.func139.trans (congrArg some (by kernel_rfl))
 f285 := Tryz.func140.trans (congrArg some (by kernel_rfl))
 f286 := Tryz.func141.trans (congrArg some (by kernel_rfl))
 f317 := Tryz.func145.trans (congrArg some (by kernel_rfl))
 f318 := Tryz.func147.trans (congrArg some (by kernel_rfl))
 f319 := Tryz.func148.trans (congrArg some (by kernel_rfl))
 f320 := Tryz.func149.trans (congrArg some (by kernel_rfl))
 f337 := Tryz.func155.trans (congrArg some (by kernel_rfl))
 f338 := Tryz.func156.trans (congrArg some (by kernel_rfl))
 t0 := Tryz.underlying0
 a0 := Tryz.isAgg0
 z0 := Tryz.sizeOf0
 v0 := Tryz.zeroValue0
 t2 := Tryz.underlying2
 a2 := Tryz.isAgg2
 z2 := Tryz.sizeOf2
 v2 := Tryz.zeroValue2
 t3 := Tryz.underlying3
 a3 := Tryz.isAgg3
 z3 := Tryz.sizeOf3
 v3 := Tryz.zeroValue3
 t4 := Tryz.underlying4
 a4 := Tryz.isAgg4
 z4 := Tryz.sizeOf4
 v4 := Tryz.zeroValue4
 t5 := Tryz.underlying5
 a5 := Tryz.isAgg5
 z5 := Tryz.sizeOf5
 v5 := Tryz.zeroValue5
 t9 := Tryz.underlying9
 a9 := Tryz.isAgg9
 z9 := Tryz.sizeOf9
 v9 := Tryz.zeroValue9
 t20 := Tryz.underlying20
 a20 := Tryz.isAgg20
 z20 := Tryz.sizeOf20
 v20 := Tryz.zeroValue20
 t37 := Tryz.underlying41
 a37 := Tryz.isAgg41
 z37 := Tryz.sizeOf41
 v37 := Tryz.zeroValue41
 t46 := Tryz.underlying137
 a46 := Tryz.isAgg137
 z46 := Tryz.sizeOf137
 v46 := Tryz.zeroValue137
 t51 := Tryz.underlying135
 a51 := Tryz.isAgg135
 z51 := Tryz.sizeOf135
 v51 := Tryz.zeroValue135
 t53 := Tryz.underlying127
 a53 := Tryz.isAgg127
 z53 := Tryz.sizeOf127
 v53 := Tryz.zeroValue127
 t171 := Tryz.underlying126
 a171 := Tryz.isAgg126
 z171 := Tryz.sizeOf126
 v171 := Tryz.zeroValue126
 t173 := Tryz.underlying130
 a173 := Tryz.isAgg130
 z173 := Tryz.sizeOf130
 v173 := Tryz.zeroValue130
 t212 := Tryz.underlying134
 a212 := Tryz.isAgg134
 z212 := Tryz.sizeOf134
 v212 := Tryz.zeroValue134
 t213 := Tryz.underlying136
 a213 := Tryz.isAgg136
 z213 := Tryz.sizeOf136
 t232 := Tryz.underlying147
 a232 := Tryz.isAgg147
 z232 := Tryz.sizeOf147
 v232 := Tryz.zeroValue147
 t233 := Tryz.underlying148
 a233 := Tryz.isAgg148
 z233 := Tryz.sizeOf148
 v233 := Tryz.zeroValue148
 g17 := by kernel_rfl
 g18 := by kernel_rfl
 g19 := by kernel_rfl
 i0 := by kernel_rfl
 i2 := by kernel_rfl
 i3 := by kernel_rfl
 i4 := by kernel_rfl
 i5 := by kernel_rfl
 i9 := by kernel_rfl
 i20 := by kernel_rfl
 i37 := by kernel_rfl
 i46 := by kernel_rfl
 i51 := by kernel_rfl
 i53 := by kernel_rfl
 i171 := by kernel_rfl
 i173 := by kernel_rfl
 i212 := by kernel_rfl
 i232 := by kernel_rfl
 i233 := by kernel_rfl
 m17 := by kernel_rfl
 m18 := by kernel_rfl
 m19 := by kernel_rfl }
def Tryz.layTrim_ren : Go.Shelf.Ren := ⟨fun | 162 => 98 | 232 => 119 | 227 => 120 | 234 => 121 | 236 => 122 | 228 => 132 | 271 => 133 | 151 => 134 | 120 => 142 | 197 => 143 | 152 => 144 | 260 => 150 | 137 => 151 | 119 => 152 | 224 => 153 | 225 => 154 | 217 => 157 | 266 => 158 | n => n, fun | 9 => 9 | 4 => 4 | 3 => 3 | 5 => 5 | 117 => 114 | 116 => 113 | 0 => 0 | 124 => 117 | 21 => 21 | 105 => 122 | 46 => 137 | 119 => 143 | 139 => 146 | 138 => 145 | n => n, fun | 3 => 1 | 4 => 2 | n => n⟩
theorem Tryz.layTrim : Go.Proofs.Lays.n162 Tryz.prog Tryz.layTrim_ren := {
 mixed := by kernel_rfl
 f119 := Tryz.func152.trans (congrArg some (by kernel_rfl))
 f120 := Tryz.func142.trans (congrArg some (by kernel_rfl))
 f137 := Tryz.func151.trans (congrArg some (by kernel_rfl))
 f151 := Tryz.func134.trans (congrArg some (by kernel_rfl))
 f152 := Tryz.func144.trans (congrArg some (by kernel_rfl))
 f162 := Tryz.func98.trans (congrArg some (by kernel_rfl))
 f197 := Tryz.func143.trans (congrArg some (by kernel_rfl))
 f217 := Tryz.func157.trans (congrArg some (by kernel_rfl))
 f224 := Tryz.func153.trans (congrArg some (by kernel_rfl))
 f225 := Tryz.func154.trans (congrArg some (by kernel_rfl))
 f227 := Tryz.func120.trans (congrArg some (by kernel_rfl))
 f228 := Tryz.func132.trans (congrArg some (by kernel_rfl))
 f232 := Tryz.func119.trans (congrArg some (by kernel_rfl))
 f234 := Tryz.func121.trans (congrArg some (by kernel_rfl))
 f236 := Tryz.func122.trans (congrArg some (by kernel_rfl))
 f260 := Tryz.func150.trans (congrArg some (by kernel_rfl))
 f266 := Tryz.func158.trans (congrArg some (by kernel_rfl))
 f271 := Tryz.func133.trans (congrArg some (by kernel_rfl))
 t0 := Tryz.underlying0
 a0 := Tryz.isAgg0
 z0 := Tryz.sizeOf0
 v0 := Tryz.zeroValue0
 t3 := Tryz.underlying3
 a3 := Tryz.isAgg3
 z3 := Tryz.sizeOf3
 v3 := Tryz.zeroValue3
 t4 := Tryz.underlying4
 a4 := Tryz.isAgg4
 z4 := Tryz.sizeOf4
 v4 := Tryz.zeroValue4
 t5 := Tryz.underlying5
 a5 := Tryz.isAgg5
 z5 := Tryz.sizeOf5
 v5 := Tryz.zeroValue5
 t9 := Tryz.underlying9
 a9 := Tryz.isAgg9
 z9 := Tryz.sizeOf9
 v9 := Tryz.zeroValue9
 t21 := Tryz.underlying21
 a21 := Tryz.isAgg21
 z21 := Tryz.sizeOf21
 v21 := Tryz.zeroValue21
 t46 := Tryz.underlying137
 a46 := Tryz.isAgg137
 z46 := Tryz.sizeOf137
 v46 := Tryz.zeroValue137
 t105 := Tryz.underlying122
 a105 := Tryz.isAgg122
 z105 := Tryz.sizeOf122
 v105 := Tryz.zeroValue122
 t116 := Tryz.underlying113
 a116 := Tryz.isAgg113
 z116 := Tryz.sizeOf113
 t117 := Tryz.underlying114
 a117 := Tryz.isAgg114
 z117 := Tryz.sizeOf114
 v117 := Tryz.zeroValue114
 t119 := Tryz.underlying143
 a119 := Tryz.isAgg143
 z119 := Tryz.sizeOf143
 t124 := Tryz.underlying117
 a124 := Tryz.isAgg117
 z124 := Tryz.sizeOf117
 v124 := Tryz.zeroValue117
 t138 := Tryz.underlying145
 a138 := Tryz.isAgg145
 z138 := Tryz.sizeOf145
 v138 := Tryz.zeroValue145
 t139 := Tryz.underlying146
 a139 := Tryz.isAgg146
 z139 := Tryz.sizeOf146
 v139 := Tryz.zeroValue146
 g3 := by kernel_rfl
 g4 := by kernel_rfl }
end Go.Proofs
namespace Go.Proofs.YtmohefgdpddldaaGreatDoor
open Go.RowKit
open W (dgB smB many numB noBl lettersB allowB)

open W (allowP)
end Go.Proofs.YtmohefgdpddldaaGreatDoor
namespace Go.Proofs.YtmohefgdpddldaaGreatDoor
open Go.RowKit
open W (dgB smB many numB noBl lettersB allowB allowP)

/-- A token, as a value. -/
def tokV (k : Int) (s : ByteArray) (lo hi pos : Int) : Value := .agg #[.int .i64 k, .string s, .int .i64 lo, .int .i64 hi, .int .i64 pos]
end Go.Proofs.YtmohefgdpddldaaGreatDoor
namespace Go.Proofs.YtmohefgdpddldaaGreatDoor
open Go.RowKit
open E (okb encB flat offs)
open W (Tk lexS)

/-- What a reader goes through: a text, its characters, their places. -/
structure Cx where
 At : Option Addr
 nt : Nat
 ct : Nat
 Bs : List Int
 Ac : Option Addr
 nc : Nat
 cc : Nat
 L : List Int
 Ap : Option Addr
 np : Nat
 cp : Nat
 P : List Int
/-- Where a character begins. -/
def plc (L : List Int) (i : Nat) : Nat := (flat (L.take i)).length
structure Cx.Ok (X : Cx) : Prop where
 ok : X.L.all okb = true
 flat : X.Bs = flat X.L
 few : X.Bs.length ≤ 3000
 pl : X.P = offs 0 X.L ++ [(X.Bs.length : Int)]
theorem offs_at (L : List Int) (k i : Nat) (hi : i < L.length) : (offs k L)[i]? = some ((k + plc L i : Nat) : Int) := by
 induction L generalizing k i with
 | nil => simp at hi
 | cons c t ih =>
  rw [E.offs]
  cases i with
  | zero => simp [plc, E.flat]
  | succ i =>
   simp only [List.length_cons] at hi
   rw [List.getElem?_cons_succ, ih _ i (by omega)]
   simp [plc, E.flat]; omega
theorem Cx.Ok.at_ {X : Cx} (h : X.Ok) {i : Nat} (hi : i ≤ X.L.length) : X.P[i]? = some ((plc X.L i : Nat) : Int) := by
 rw [h.pl]
 have hl := E.offs_len 0 X.L
 rcases Nat.lt_or_ge i X.L.length with h1 | h1
 ·rw [List.getElem?_append_left (by omega), offs_at _ _ _ h1, Nat.zero_add]
 ·have e : i = X.L.length := by omega
  rw [List.getElem?_append_right (by omega), hl, e, Nat.sub_self, h.flat]
  simp [plc]
theorem plc_le (L : List Int) (i : Nat) : plc L i ≤ (flat L).length := E.flat_mono L i
/-- Tokens with their places. -/
def Cx.put (X : Cx) (t : Tk) : Tok := ⟨t.kind, t.text, t.low, t.high, plc X.L t.at_⟩
/-- Only the reader's block b and what lies from block b + 4 on may have turned. -/
structure Fr (b : Nat) (w w' : World) : Prop where
 os : w'.os = w.os
 tape : w'.tape = w.tape
 output : w'.output = w.output
 size : w.heap.size ≤ w'.heap.size
 block : ∀ i, i < b + 4 → i ≠ b → w'.heap[i]? = w.heap[i]?
theorem Fr.refl (b : Nat) (w : World) : Fr b w w := ⟨rfl, rfl, rfl, Nat.le_refl _, fun _ _ _ => rfl⟩
theorem Fr.trans {b : Nat} {a c d : World} (h : Fr b a c) (k : Fr b c d) : Fr b a d :=
 ⟨k.os.trans h.os, k.tape.trans h.tape, k.output.trans h.output, Nat.le_trans h.size k.size, fun i hi hn => (k.block i hi hn).trans (h.block i hi hn)⟩
theorem Fr.drewN {b : Nat} {a c : World} (h : Fr b a c) (q : Nat) : Fr b a (c.drewN q) := ⟨h.os, h.tape, h.output, h.size, h.block⟩
theorem Fr.set {b : Nat} {a c : World} (h : Fr b a c) (o : Nat) (v : Value) : Fr b a (c.setCell ⟨b, o, none⟩ v) :=
 h.trans ⟨rfl, rfl, rfl, by simp [World.setCell], fun i _ hi => Below.heap_setCell _ _ _ _ hi⟩
theorem Fr.below {b : Nat} {w w' : World} (h : Below w.heap.size w w') (hs : b + 4 ≤ w.heap.size) : Fr b w w' := ⟨h.os, h.tape, h.output, h.size, fun i hi _ => h.block i (by omega)⟩
section
variable {X : Cx} {b : Nat} {w w' : World} {p o : Nat} {tv : Value} {ts : List Tk}
end
end Go.Proofs.YtmohefgdpddldaaGreatDoor
namespace Go.Proofs.YtmohefgdpddldaaGreatDoor
open Go.RowKit
open W (Tk lexS)

section
variable {X : Cx} {b : Nat} {w : World} {p o : Nat} {tv : Value} {ts : List Tk}
end
end Go.Proofs.YtmohefgdpddldaaGreatDoor
namespace Go.Proofs.YtmohefgdpddldaaGreatDoor
open Go.RowKit
open W (Tk lexS)

theorem info_tok : (Tryz.prog.info? 94).map (fun i => (i.zero, i.size, i.bytes)) = some (some (.agg #[.int .i64 0, .string { data := #[] }, .int .i64 0, .int .i64 0, .int .i64 0]), 5, 48) := by kernel_rfl
/-- The cells that put loads. -/
def HeldT (b N : Nat) (tv : Value) (k : Int) (s : ByteArray) (lo hi pl : Int) (w : World) : Prop :=
 w.cell? ⟨b, 5, none⟩ = some tv ∧ w.cell? ⟨N, 0, none⟩ = some (.int .i64 k) ∧ w.cell? ⟨N, 1, none⟩ = some (.string s) ∧ w.cell? ⟨N, 2, none⟩ = some (.int .i64 lo) ∧ w.cell? ⟨N, 3, none⟩ = some (.int .i64 hi) ∧ w.cell? ⟨N, 4, none⟩ = some (.int .i64 pl)
theorem HeldT.keep {b N : Nat} {tv : Value} {k lo hi pl : Int} {s : ByteArray} {w w' : World} (h : HeldT b N tv k s lo hi pl w) (hb : w'.heap[b]? = w.heap[b]?) (hN : w'.heap[N]? = w.heap[N]?) : HeldT b N tv k s lo hi pl w' := by
 obtain ⟨h0, h1, h2, h3, h4, h5⟩ := h
 exact ⟨(World.cell?_of_block (a := ⟨b, 5, none⟩) hb).trans h0, (World.cell?_of_block (a := ⟨N, 0, none⟩) hN).trans h1, (World.cell?_of_block (a := ⟨N, 1, none⟩) hN).trans h2, (World.cell?_of_block (a := ⟨N, 2, none⟩) hN).trans h3, (World.cell?_of_block (a := ⟨N, 3, none⟩) hN).trans h4, (World.cell?_of_block (a := ⟨N, 4, none⟩) hN).trans h5⟩
section
variable {X : Cx} {b : Nat} {w : World} {p o : Nat} {tv : Value} {ts : List Tk}
end
end Go.Proofs.YtmohefgdpddldaaGreatDoor
namespace Go.Proofs.YtmohefgdpddldaaGreatDoor
open Go.RowKit
open W (Tk St lexS opn setS numT numB nameS many nmB ltB)

section
variable {X : Cx} {b : Nat} {w : World} {p o : Nat} {tv : Value} {ts : List Tk}
end
end Go.Proofs.YtmohefgdpddldaaGreatDoor
namespace Go.Proofs.YtmohefgdpddldaaGreatDoor
open Go.RowKit
open W (Tk)

/-- The lexer at character p, o sets open, the tokens ts read; wr, er: what is wrong. -/
structure Rdx (X : Cx) (b : Nat) (w : World) (p o : Nat) (tv : Value) (ts : List Tk) (wr er : Int) : Prop where
 ok : X.Ok
 size : b < w.heap.size
 chars : RdK .i64 w b X.Ac X.nc X.cc X.L
 places : RdK .i64 w b X.Ap X.np X.cp X.P
 le : p ≤ X.nc
 blk : w.heap[b]? = some (.cells #[.slice X.Ac X.nc X.cc, .slice X.Ap X.np X.cp, .int .i64 p, .int .i64 o, tv, .int .i64 wr, .int .i64 er] 72 (0, 0))
 row : OwnT w (b + 1) tv (ts.map X.put)
section
variable {X : Cx} {b : Nat} {w w' : World} {p o : Nat} {tv : Value} {ts : List Tk} {wr er : Int}
theorem Rdx.drewN (h : Rdx X b w p o tv ts wr er) (q : Nat) : Rdx X b (w.drewN q) p o tv ts wr er := ⟨h.ok, h.size, h.chars.drewN q, h.places.drewN q, h.le, h.blk, h.row⟩
theorem Rdx.below (h : Rdx X b w p o tv ts wr er) (hb : Below w.heap.size w w') : Rdx X b w' p o tv ts wr er := by
 have hk : ∀ q : Addr, q.block < b → w'.cell? q = w.cell? q := fun q hq => hb.cell (by have := h.size; omega)
 exact ⟨h.ok, Nat.lt_of_lt_of_le h.size hb.size, h.chars.keep hk, h.places.keep hk, h.le, (hb.block b h.size).trans h.blk, h.row.below hb⟩
theorem Rdx.cells (h : Rdx X b w p o tv ts wr er) : w.cell? ⟨b, 0, none⟩ = some (.slice X.Ac X.nc X.cc) ∧ w.cell? ⟨b, 1, none⟩ = some (.slice X.Ap X.np X.cp) ∧ w.cell? ⟨b, 2, none⟩ = some (.int .i64 p) ∧ w.cell? ⟨b, 3, none⟩ = some (.int .i64 o) ∧ w.cell? ⟨b, 4, none⟩ = some tv ∧ w.cell? ⟨b, 5, none⟩ = some (.int .i64 wr) ∧ w.cell? ⟨b, 6, none⟩ = some (.int .i64 er) := by
 refine ⟨?_, ?_, ?_, ?_, ?_, ?_, ?_⟩ <;> (rw [cell_of_row _ _ _ _ _ _ h.blk]; rfl)
theorem Rdx.fr (h : Rdx X b w p o tv ts wr er) (j : Nat) : w.frozen? ⟨b, j, none⟩ = false := frozen_of_row _ _ _ _ _ h.blk
theorem Rdx.nc (h : Rdx X b w p o tv ts wr er) : X.L.length = X.nc ∧ X.nc ≤ 3000 ∧ X.np = X.nc + 1 := by
 have h1 := h.chars.len
 have h2 := W.flat_len h.ok.ok
 have h3 := h.ok.few
 rw [h.ok.flat] at h3
 have h4 := h.places.len
 rw [h.ok.pl, List.length_append, E.offs_len] at h4
 simp at h4
 exact ⟨h1, by omega, by omega⟩
theorem Rdx.place (h : Rdx X b w p o tv ts wr er) {i : Nat} (hi : i ≤ X.nc) : ∃ b2 off, X.Ap = some ⟨b2, off, none⟩ ∧ b2 < b ∧ w.cell? ⟨b2, off + i, none⟩ = some (.int .i64 (plc X.L i : Nat)) := by
 obtain ⟨n1, _, n3⟩ := h.nc
 obtain ⟨b2, off, e, hb, hc⟩ := h.places.at_ (by omega)
 exact ⟨b2, off, e, hb, hc _ _ (h.ok.at_ (by omega))⟩
theorem Rdx.pbd (h : Rdx X b w p o tv ts wr er) (i : Nat) : plc X.L i ≤ 3000 := by
 have h1 := plc_le X.L i
 have h3 := h.ok.few
 rw [h.ok.flat] at h3
 omega
theorem Rdx.far (w : World) (b j : Nat) (v : Value) : ∀ a : Addr, a.block < b → (w.setCell ⟨b, j, none⟩ v).cell? a = w.cell? a := fun a ha => World.cell?_of_block (w := w) (Below.heap_setCell _ _ _ _ (by show a.block ≠ b; omega))
theorem Rdx.at_ (h : Rdx X b w p o tv ts wr er) {q : Nat} (hq : q ≤ X.nc) : Rdx X b (w.setCell ⟨b, 2, none⟩ (.int .i64 q)) q o tv ts wr er := by
 refine ⟨h.ok, by simp; exact h.size, h.chars.keep (Rdx.far _ _ _ _), h.places.keep (Rdx.far _ _ _ _), hq, ?_, h.row.set (by omega) _⟩
 rw [heap_setCell_same _ _ _ _ _ _ h.blk]; rfl
theorem Rdx.open_ (h : Rdx X b w p o tv ts wr er) (o' : Nat) : Rdx X b (w.setCell ⟨b, 3, none⟩ (.int .i64 o')) p o' tv ts wr er := by
 refine ⟨h.ok, by simp; exact h.size, h.chars.keep (Rdx.far _ _ _ _), h.places.keep (Rdx.far _ _ _ _), h.le, ?_, h.row.set (by omega) _⟩
 rw [heap_setCell_same _ _ _ _ _ _ h.blk]; rfl
theorem Rdx.err (h : Rdx X b w p o tv ts wr er) (x y : Int) : Rdx X b ((w.setCell ⟨b, 5, none⟩ (.int .i64 x)).setCell ⟨b, 6, none⟩ (.int .i64 y)) p o tv ts x y := by
 refine ⟨h.ok, by simp; exact h.size, (h.chars.keep (Rdx.far _ _ _ _)).keep (Rdx.far _ _ _ _), (h.places.keep (Rdx.far _ _ _ _)).keep (Rdx.far _ _ _ _), h.le, ?_, (h.row.set (by omega) _).set (by omega) _⟩
 rw [heap_setCell_same _ _ _ _ _ _ (heap_setCell_same _ _ _ _ _ _ h.blk)]; rfl
/-- What fail leaves: the first fault stays. -/
def FailP (X : Cx) (b : Nat) (w : World) (p o : Nat) (tv : Value) (ts : List Tk) (wr er : Int) (i : Nat) (x : Int) (e : Ending) (w' : World) : Prop :=
 e = .returned (.tuple #[]) ∧ Rdx X b w' p o tv ts (if er = 0 then (plc X.L i : Nat) else wr) (if er = 0 then x else er) ∧ Below b w w'
set_option maxHeartbeats 1000000 in
theorem dfail_any (h : Rdx X b w p o tv ts wr er) {i : Nat} (hi : i ≤ X.nc) (x : Int) :
  Calls Tryz.prog 46 #[.pointer (some ⟨b, 0, none⟩), .int .i64 i, .int .i64 x] w (FailP X b w p o tv ts wr er i x) := by
 obtain ⟨c0, c1, c2, c3, c4, c5, c6⟩ := h.cells
 obtain ⟨b2, off, hA, hb2, hc⟩ := h.place hi
 obtain ⟨n1, n2, n3⟩ := h.nc
 have f5 := h.fr 5
 have f6 := h.fr 6
 rw [hA] at c1
 have hnp : (i : Int) < (X.np : Int) := by omega
 have hi0 : (0 : Int) ≤ (i : Int) := by omega
 have HH := Lib.hid h
 by_cases h0 : er = 0
 ·subst h0
  have HE : Hid (FailP X b w p o tv ts wr 0 i x (.returned (.tuple #[])) ((w.setCell ⟨b, 5, none⟩ (.int .i64 (plc X.L i : Nat))).setCell ⟨b, 6, none⟩ (.int .i64 x))) :=
   ⟨rfl, by rw [if_pos rfl, if_pos rfl]; exact HH.out.err _ x, ((Below.refl b w).setCell (p := ⟨b, 5, none⟩) (Nat.le_refl _) _).setCell (p := ⟨b, 6, none⟩) (Nat.le_refl _) _⟩
  clear h hA n1 n3
  go_enter Tryz.func46, Tryz.ntmps46
  go_wp2_with fail
  exact bodyPost_ret (v := .tuple #[]) (by simp [results, Tryz.results46, go_sem]) rfl HE.out
 ·have HE : Hid (FailP X b w p o tv ts wr er i x (.returned (.tuple #[])) w) := ⟨rfl, by rw [if_neg h0, if_neg h0]; exact HH.out, Below.refl _ _⟩
  have g0 : (er == 0) = false := by simpa using h0
  clear h hA n1 n3 h0
  go_enter Tryz.func46, Tryz.ntmps46
  go_wp2_with fail
  exact bodyPost_ret (v := .tuple #[]) (by simp [results, Tryz.results46, go_sem]) rfl HE.out
set_option maxHeartbeats 1000000 in
theorem dis_any (h : Rdx X b w p o tv ts wr er) (i : Nat) (hi : i ≤ 100000) (x : Int) :
  Calls Tryz.prog 85 #[.pointer (some ⟨b, 0, none⟩), .int .i64 i, .int .i64 x] w fun e w' => e = .returned (.bool (decide (X.L[i]? = some x))) ∧ w = w' := by
 obtain ⟨c0, c1, c2, c3, c4, c5, c6⟩ := h.cells
 obtain ⟨n1, n2, n3⟩ := h.nc
 have hi0 : (0 : Int) ≤ (i : Int) := by omega
 rcases Nat.lt_or_ge i X.nc with hlt | hge
 ·obtain ⟨b2, off, y, hA, hb2, hy, hc⟩ := h.chars.got hlt
  rw [hA] at c0
  have HX : Hid (decide (X.L[i]? = some x) = (y == x)) := by show _ = _; rw [hy, Bool.eq_iff_iff]; simp
  have hi1 : (i : Int) < (X.nc : Int) := by omega
  clear h hy hA n1 n3
  go_enter Tryz.func85, Tryz.ntmps85
  go_wp2_with fail
  go_ret
  exact ⟨ret_bool HX.out.symm, rfl⟩
 ·have HX : Hid (decide (X.L[i]? = some x) = false) := by show _ = _; rw [List.getElem?_eq_none (by omega)]; rfl
  have hi1 : ¬ (i : Int) < (X.nc : Int) := by omega
  clear h n1 n3
  go_enter Tryz.func85, Tryz.ntmps85
  go_wp2_with fail
  go_ret
  exact ⟨ret_bool HX.out.symm, rfl⟩
end
end Go.Proofs.YtmohefgdpddldaaGreatDoor
namespace Go.Proofs.YtmohefgdpddldaaGreatDoor
open Go.RowKit
open W (Tk)

/-- The cells that put loads. -/
def HeldU (b N : Nat) (tv : Value) (k : Int) (s : ByteArray) (lo hi pl : Int) (w : World) : Prop :=
 w.cell? ⟨b, 4, none⟩ = some tv ∧ w.cell? ⟨N, 0, none⟩ = some (.int .i64 k) ∧ w.cell? ⟨N, 1, none⟩ = some (.string s) ∧ w.cell? ⟨N, 2, none⟩ = some (.int .i64 lo) ∧ w.cell? ⟨N, 3, none⟩ = some (.int .i64 hi) ∧ w.cell? ⟨N, 4, none⟩ = some (.int .i64 pl)
theorem HeldU.keep {b N : Nat} {tv : Value} {k lo hi pl : Int} {s : ByteArray} {w w' : World} (h : HeldU b N tv k s lo hi pl w) (hb : w'.heap[b]? = w.heap[b]?) (hN : w'.heap[N]? = w.heap[N]?) : HeldU b N tv k s lo hi pl w' := by
 obtain ⟨h0, h1, h2, h3, h4, h5⟩ := h
 exact ⟨(World.cell?_of_block (a := ⟨b, 4, none⟩) hb).trans h0, (World.cell?_of_block (a := ⟨N, 0, none⟩) hN).trans h1, (World.cell?_of_block (a := ⟨N, 1, none⟩) hN).trans h2, (World.cell?_of_block (a := ⟨N, 2, none⟩) hN).trans h3, (World.cell?_of_block (a := ⟨N, 3, none⟩) hN).trans h4, (World.cell?_of_block (a := ⟨N, 4, none⟩) hN).trans h5⟩
section
variable {X : Cx} {b : Nat} {w : World} {p o : Nat} {tv : Value} {ts : List Tk} {wr er : Int}
theorem Rdx.grow {W W' : World} {v' : Value} {t : Tk} (h : Rdx X b W p o tv ts wr er) (hg : W.grownBy W' tv.ownBlock) (ho : OwnT W' (b + 1) v' ((ts ++ [t]).map X.put)) : Rdx X b (W'.setCell ⟨b, 4, none⟩ v') p o v' (ts ++ [t]) wr er ∧ Below b W (W'.setCell ⟨b, 4, none⟩ v') := by
 have hsz := h.size
 have hrow : ∀ i, i < b + 1 → W'.heap[i]? = W.heap[i]? := fun i hi => hg.block i (by omega) (fun e => by have := (h.row.block i e.symm).1; omega)
 have hk : ∀ a : Addr, a.block < b → (W'.setCell ⟨b, 4, none⟩ v').cell? a = W.cell? a := fun a ha =>
  World.cell?_of_block (w := W) ((Below.heap_setCell _ _ _ _ (by show a.block ≠ b; omega)).trans (hrow _ (by omega)))
 have hb : W'.heap[b]? = _ := (hrow b (by omega)).trans h.blk
 refine ⟨⟨h.ok, by have := hg.size; simp; omega, h.chars.keep hk, h.places.keep hk, h.le, ?_, ho.set (by omega) _⟩, ⟨hg.os, hg.tape, hg.output, by have := hg.size; simp; omega, fun i hi => (Below.heap_setCell _ _ _ _ (by show i ≠ b; omega)).trans (hrow i (by omega))⟩⟩
 rw [heap_setCell_same _ _ _ _ _ _ hb]; rfl
/-- What put leaves. -/
def DPutP (X : Cx) (b : Nat) (w : World) (p o : Nat) (ts : List Tk) (wr er : Int) (e : Ending) (w' : World) : Prop := e = .returned (.tuple #[]) ∧ (∃ tv, Rdx X b w' p o tv ts wr er) ∧ Below b w w'
set_option maxHeartbeats 2000000 in
theorem dput_any (h : Rdx X b w p o tv ts wr er) (k lo hi pos0 : Int) (x : List Int) {i : Nat} (hi' : i ≤ X.nc) (hts : ts.length ≤ 3000) :
  Calls Tryz.prog 82 #[.pointer (some ⟨b, 0, none⟩), tokV k (strOfNums x) lo hi pos0, .int .i64 i] w (DPutP X b w p o (ts ++ [⟨k, x, lo, hi, i⟩]) wr er) := by
 have HH := Lib.hid h
 obtain ⟨n1, n2, n3⟩ := h.nc
 have hsz := h.size
 generalize hs : strOfNums x = s
 have HS := Lib.hid hs
 clear h hs
 unfold tokV
 have HB1 := Lib.hid (kbelow_push w (.cells #[.int .i64 k, .string s, .int .i64 lo, .int .i64 hi, .int .i64 pos0] 94))
 have hN := heap_alloc_new w (.cells #[.int .i64 k, .string s, .int .i64 lo, .int .i64 hi, .int .i64 pos0] 94)
 have HR1 := Lib.hid (HH.out.below HB1.out)
 have hz : (w.alloc (.cells #[.int .i64 k, .string s, .int .i64 lo, .int .i64 hi, .int .i64 pos0] 94)).heap.size = w.heap.size + 1 := by simp
 obtain ⟨c0, c1, c2, c3, c4, c5, c6⟩ := HR1.out.cells
 obtain ⟨b2, off, hA, hb2, hc⟩ := HR1.out.place hi'
 rw [hA] at c1
 have f4 : (w.alloc (.cells #[.int .i64 k, .string s, .int .i64 lo, .int .i64 hi, .int .i64 pos0] 94)).frozen? ⟨w.heap.size, 4, none⟩ = false := frozen_of_row _ _ _ _ _ hN
 have k4 : (w.alloc (.cells #[.int .i64 k, .string s, .int .i64 lo, .int .i64 hi, .int .i64 pos0] 94)).cell? ⟨w.heap.size, 4, none⟩ = some (.int .i64 pos0) := by rw [cell_of_row _ _ _ _ _ _ hN]; rfl
 have hnp : (i : Int) < (X.np : Int) := by omega
 have hp0 : (0 : Int) ≤ (i : Int) := by omega
 have hpb := HR1.out.pbd i
 generalize hpl : plc X.L i = pl at *
 have HPL := Lib.hid hpl
 have HN0 := Lib.hid hN
 clear hA hpl n3 n1 hN
 go_enter Tryz.func82, Tryz.ntmps82
 go_wp2_with fail
 clear c0 c1 c2 c3 c4 c5 c6 hc f4 k4 hnp hp0 HR1 HB1 hz HN0
 have HB2 := Lib.hid (kbelow_push w (.cells #[.int .i64 k, .string s, .int .i64 lo, .int .i64 hi, .int .i64 pl] 94))
 have hN2 := heap_alloc_new w (.cells #[.int .i64 k, .string s, .int .i64 lo, .int .i64 hi, .int .i64 pl] 94)
 have hz2 : (w.alloc (.cells #[.int .i64 k, .string s, .int .i64 lo, .int .i64 hi, .int .i64 pl] 94)).heap.size = w.heap.size + 1 := by simp
 generalize hW2 : w.alloc (.cells #[.int .i64 k, .string s, .int .i64 lo, .int .i64 hi, .int .i64 pl] 94) = W2 at *
 generalize hNN : w.heap.size = N at *
 have HNN := Lib.hid hNN
 clear hW2 hNN
 have hR2 := HH.out.below (by rw [HNN.out]; exact HB2.out)
 have c4 := hR2.cells.2.2.2.2.1
 have k0 : W2.cell? ⟨N, 0, none⟩ = some (.int .i64 k) := by rw [cell_of_row _ _ _ _ _ _ hN2]; rfl
 have k1 : W2.cell? ⟨N, 1, none⟩ = some (.string s) := by rw [cell_of_row _ _ _ _ _ _ hN2]; rfl
 have k2 : W2.cell? ⟨N, 2, none⟩ = some (.int .i64 lo) := by rw [cell_of_row _ _ _ _ _ _ hN2]; rfl
 have k3 : W2.cell? ⟨N, 3, none⟩ = some (.int .i64 hi) := by rw [cell_of_row _ _ _ _ _ _ hN2]; rfl
 have k4 : W2.cell? ⟨N, 4, none⟩ = some (.int .i64 pl) := by rw [cell_of_row _ _ _ _ _ _ hN2]; rfl
 have HR2 := Lib.hid hR2
 have hz2' := hz2
 clear hN2 hR2 hz2
 obtain ⟨i0, hi0, hz0, hz1, hz2⟩ := info_k info_tok
 have SS : HeldU b N tv k s lo hi pl W2.drew := ⟨c4, k0, k1, k2, k3, k4⟩
 have HSS := Lib.hid SS
 refine region_plain (HeldU b N tv k s lo hi pl) 10 11 (by kernel_rfl) rfl ?_
 refine Z_takeW 0 (v := .pointer (some ⟨b, 0, none⟩)) rfl (by kernel_rfl) (by kernel_rfl) (by kernel_rfl) (by kernel_rfl) (fun _ _ _ h => h) SS rfl (fun w' hS => ?_) ?_
 ·obtain ⟨s0, s1, s2, s3, s4, s5⟩ := hS; go_simp
 refine Z_takeW 1 (v := .pointer (some ⟨b, 0, none⟩)) rfl (by kernel_rfl) (by kernel_rfl) (by kernel_rfl) (by kernel_rfl) (fun _ _ _ h => h) SS rfl (fun w' hS => ?_) ?_
 ·obtain ⟨s0, s1, s2, s3, s4, s5⟩ := hS; go_simp
 refine Z_takeW 2 (v := .pointer (some ⟨b, 0, none⟩)) rfl (by kernel_rfl) (by kernel_rfl) (by kernel_rfl) (by kernel_rfl) (fun _ _ _ h => h) SS rfl (fun w' hS => ?_) ?_
 ·obtain ⟨s0, s1, s2, s3, s4, s5⟩ := hS; go_simp
 refine Z_takeW 3 (v := .pointer (some ⟨b, 4, none⟩)) rfl (by kernel_rfl) (by kernel_rfl) (by kernel_rfl) (by kernel_rfl) (fun _ _ _ h => h) SS rfl (fun w' hS => ?_) ?_
 ·obtain ⟨s0, s1, s2, s3, s4, s5⟩ := hS; go_simp
 refine Z_takeW 4 (v := tv) rfl (by kernel_rfl) (by kernel_rfl) (by kernel_rfl) (by kernel_rfl) (fun _ _ _ h => h) SS rfl (fun w' hS => ?_) ?_
 ·obtain ⟨s0, s1, s2, s3, s4, s5⟩ := hS; go_simp
 refine Z_takeW 5 (v := .agg #[.int .i64 k, .string s, .int .i64 lo, .int .i64 hi, .int .i64 pl]) rfl (by kernel_rfl) (by kernel_rfl) (by kernel_rfl) (by kernel_rfl) (fun _ _ _ h => h) SS rfl (fun w' hS => ?_) ?_
 ·obtain ⟨s0, s1, s2, s3, s4, s5⟩ := hS; go_simp
 refine Z_one 6 rfl (by kernel_rfl) rfl ?_
 go_simp
 generalize hW3 : (W2.alloc (.cells #[.int .i64 k, .string s, .int .i64 lo, .int .i64 hi, .int .i64 pl] 94)).drew = W3
 have hB3 : Below W2.heap.size W2 W3 := by rw [← hW3]; exact (kbelow_push W2 _).drew
 have hN3 : W3.heap[N + 1]? = some (.cells #[.int .i64 k, .string s, .int .i64 lo, .int .i64 hi, .int .i64 pl] 94 (0, 0)) := by
  rw [← hW3, ← hz2']; exact heap_alloc_new W2 _
 have HR3 := Lib.hid (HR2.out.below hB3)
 have HS3 : Hid (HeldU b N tv k s lo hi pl W3) := HSS.out.keep (hB3.block b (by omega)) (hB3.block N (by omega))
 have HB3 := Lib.hid (HB2.out.trans (hB3.mono (by omega)))
 clear hW3
 refine ⟨HS3.out, ?_⟩
 refine Z_one 7 rfl (by kernel_rfl) rfl ?_
 refine app_wp (.tmp 18) (.tmp 20) 38 rfl (b + 1) 94 i0 _ 5 48 Tryz.underlying38 hi0 hz0 hz1 hz2 rfl (by decide) tv (ts.map X.put).length (cellsP (ts.map X.put)) rfl HR3.out.row ⟨N + 1, 0, none⟩ 1 1 (Tok.cells ⟨k, x, lo, hi, pl⟩) (by rw [← hz2']; rfl) rfl ?_ ?_ (by rw [List.length_map]; unfold maxLen; omega) (by rw [List.length_map]; omega) (by have := HR3.out.size; omega) ?_
 ·intro j u hu
  rw [kadd_none, cell_of_row _ _ _ _ _ _ hN3, Nat.zero_add]
  simp only [Tok.cells, HS.out] at hu
  simpa using hu
 ·exact fun u hu => cellsP_one [(⟨k, x, lo, hi, pl⟩ : Tok)] u (by simpa [cellsP] using hu)
 intro v' w4 hown hgr _
 have ho4 : OwnT w4 (b + 1) v' ((ts ++ [(⟨k, x, lo, hi, i⟩ : Tk)]).map X.put) := by
  unfold OwnT
  have e : (ts ++ [(⟨k, x, lo, hi, i⟩ : Tk)]).map X.put = ts.map X.put ++ [⟨k, x, lo, hi, pl⟩] := by rw [List.map_append, ← HPL.out]; rfl
  rw [e, cellsP_app, List.length_append, show cellsP [(⟨k, x, lo, hi, pl⟩ : Tok)] = Tok.cells ⟨k, x, lo, hi, pl⟩ by simp [cellsP]]
  exact hown
 obtain ⟨A4, c4', hv4, _⟩ := ho4.rd
 subst hv4
 have hlen4 : ((ts ++ [(⟨k, x, lo, hi, i⟩ : Tk)]).map X.put).length = ts.length + 1 := by simp
 rw [hlen4] at ho4
 have HG := Lib.hid (HR3.out.grow hgr ho4)
 have hrow : ∀ j, j < b + 1 → w4.heap[j]? = W3.heap[j]? := fun j hj => hgr.block j (by have := HR3.out.size; omega) (fun e => by have := (HR3.out.row.block j e.symm).1; omega)
 have hb4 := (hrow b (by omega)).trans HR3.out.blk
 have c54 : w4.cell? ⟨b, 4, none⟩ = some tv := by rw [cell_of_row _ _ _ _ _ _ hb4]; rfl
 have f54 : w4.frozen? ⟨b, 4, none⟩ = false := frozen_of_row _ _ _ _ _ hb4
 have hN4 : w4.heap[N]? = W3.heap[N]? := hgr.block N (by have := hB3.size; omega) (fun e => by have := (HH.out.row.block N e.symm).2; have := HNN.out; omega)
 have HS4 : Hid (HeldU b N tv k s lo hi pl w4) := HS3.out.keep (hrow b (by omega)) hN4
 clear hown hgr ho4 hrow hb4 hN3 hN4
 refine ⟨fun _ => HS4.out, ?_⟩
 refine Z_one 8 rfl (by kernel_rfl) rfl ?_
 go_simp
 refine ⟨HS4.out, ?_⟩
 refine Z_one 9 rfl (by kernel_rfl) rfl ?_
 go_simp
 refine ⟨HS4.out, ?_⟩
 refine Z_one 10 rfl (by kernel_rfl) rfl ?_
 go_simp
 refine Z_done (by kernel_rfl) ?_
 unfold OnlyN
 simp only []
 have HE : Hid (DPutP X b w p o (ts ++ [⟨k, x, lo, hi, i⟩]) wr er (.returned (.tuple #[])) (w4.setCell ⟨b, 4, none⟩ (.slice A4 (ts.length + 1) c4'))) := ⟨rfl, ⟨_, HG.out.1⟩, (HB3.out.mono (by omega)).trans HG.out.2⟩
 go_wp2_with fail
 exact bodyPost_ret (v := .tuple #[]) (by simp [results, Tryz.results82, go_sem]) rfl HE.out
end
end Go.Proofs.YtmohefgdpddldaaGreatDoor
namespace Go.Proofs.YtmohefgdpddldaaGreatDoor
open Go.RowKit
open W (Tk St dgB ltB opn)

theorem dletter_any (c : Int) (w : World) : Calls Tryz.prog 73 #[.int .i64 c] w fun e w' => e = .returned (.bool (ltB c)) ∧ w = w' := by
 go_enter Tryz.func73, Tryz.ntmps73
 go_wp2
 all_goals
  go_ret
  refine ⟨ret_bool ?_, rfl⟩
  rw [Bool.eq_iff_iff]
  simp [ltB]
  try omega
theorem ddigit_any (c : Int) (w : World) : Calls Tryz.prog 87 #[.int .i64 c] w fun e w' => e = .returned (.bool (dgB c)) ∧ w = w' := by
 go_enter Tryz.func87, Tryz.ntmps87
 go_wp2
 all_goals
  go_ret
  refine ⟨ret_bool ?_, rfl⟩
  rw [Bool.eq_iff_iff]
  simp [dgB]
  try omega
/-- What a method of the document's lexer leaves that reads a token. -/
def StepD (X : Cx) (b : Nat) (w : World) (p o : Nat) (ts : List Tk) (wr : Int) (r : St) (e : Ending) (w' : World) : Prop :=
 e = .returned (.tuple #[]) ∧ Below b w w' ∧ match r with
 | .tok k x lo hi m => ∃ tv, Rdx X b w' (p + m + 1) (opn k o) tv (ts ++ [⟨k, x, lo, hi, p⟩]) wr 0
 | .skip m => ∃ tv, Rdx X b w' (p + m + 1) o tv ts wr 0
 | .bad k er => ∃ p' o' tv ts', Rdx X b w' p' o' tv ts' (plc X.L (p + k) : Nat) er
end Go.Proofs.YtmohefgdpddldaaGreatDoor
namespace Go.Proofs.YtmohefgdpddldaaGreatDoor
open Go.RowKit
open Q (isC plainB digV)

theorem rplain_any (c : Int) (w : World) : Calls Tryz.prog 74 #[.int .i64 c] w fun e w' => e = .returned (.bool (plainB c)) ∧ w = w' := by
 go_enter Tryz.func74, Tryz.ntmps74
 go_wp2
 all_goals
  go_ret
  refine ⟨ret_bool ?_, rfl⟩
  rw [Bool.eq_iff_iff, Q.plain_iff]
  simp
  try omega
end Go.Proofs.YtmohefgdpddldaaGreatDoor
namespace Go.Proofs.YtmohefgdpddldaaGreatDoor
open Go.RowKit
open Q (isC plainB digV hexF dig textB)

theorem str_app (a b : List Int) : strOfNums a ++ strOfNums b = strOfNums (a ++ b) := by
 apply ByteArray.ext
 apply Array.ext'
 rw [ByteArray.data_append, Array.toList_append, strOfNums_data, strOfNums_data, strOfNums_data, List.map_append]
theorem run_str_add {P : Program} (a b : List Int) (w : World) (h : a.length + b.length ≤ 9223372036854775807) : (Op.stringOp .add (strOfNums a) (strOfNums b)).run P w = .ok (.string (strOfNums (a ++ b))) w := by
 rw [run_string_add_sum w _ _ (by rw [strOfNums_size, strOfNums_size]; exact h), str_app]
theorem hex_ext {n : Int} (h0 : 0 ≤ n) (h1 : n < 16) : (ByteArray.extract ⟨#[48, 49, 50, 51, 52, 53, 54, 55, 56, 57, 97, 98, 99, 100, 101, 102]⟩ n.toNat (n + 1).toNat) = strOfNums [dig n] := by
 have : n = 0 ∨ n = 1 ∨ n = 2 ∨ n = 3 ∨ n = 4 ∨ n = 5 ∨ n = 6 ∨ n = 7 ∨ n = 8 ∨ n = 9 ∨ n = 10 ∨ n = 11 ∨ n = 12 ∨ n = 13 ∨ n = 14 ∨ n = 15 := by omega
 rcases this with rfl | rfl | rfl | rfl | rfl | rfl | rfl | rfl | rfl | rfl | rfl | rfl | rfl | rfl | rfl | rfl <;> decide
def StrQ (w : World) (L : List Int) (e : Ending) (w' : World) : Prop := e = .returned (.string (strOfNums L)) ∧ ∃ q, w' = w.drewN q
theorem ret_str {a b : ByteArray} (h : a = b) : Ending.returned (.string a) = .returned (.string b) := by rw [h]
theorem hexF_one {n : Int} (f : Nat) (h : n < 16) : hexF (f + 1) n = [dig n] := by rw [hexF, if_pos h]
theorem hexF_more {n : Int} (f : Nat) (h : ¬ n < 16) : hexF (f + 1) n = hexF f (n / 16) ++ [dig (n % 16)] := by rw [hexF, if_neg h]
theorem hex_one (f : Nat) (n : Int) (w : World) (h0 : 0 ≤ n) (h3 : n < 16) : Calls Tryz.prog 117 #[.int .i64 n] w (StrQ w (hexF (f + 1) n)) := by
 have HE := Lib.hid (hex_ext h0 h3)
 go_enter Tryz.func117, Tryz.ntmps117
 go_wp2
 go_ret
 rw [hexF_one f h3]
 exact ⟨ret_str HE.out, 0, rfl⟩
theorem hex_any : ∀ (f : Nat) (n : Int) (w : World), 0 ≤ n → n < 16 ^ (f + 1) → n ≤ 1114111 → f ≤ 100 → Calls Tryz.prog 117 #[.int .i64 n] w (StrQ w (hexF (f + 1) n)) := by
 intro f
 induction f with
 | zero => exact fun n w h0 h1 _ _ => hex_one 0 n w h0 (by simpa using h1)
 | succ f ih =>
  intro n w h0 h1 h2 hf
  by_cases h3 : n < 16
  ·exact hex_one _ n w h0 h3
  ·have HI : Hid (∀ q, Calls Tryz.prog 117 #[.int .i64 (n / 16)] (w.drewN q) fun e w'' => e = .returned (.string (strOfNums (hexF (f + 1) (n / 16)))) ∧ ∃ m, w'' = w.drewN m) := fun q => (ih (n / 16) (w.drewN q) (by omega) (Q.div_lt h1) (by omega) (by omega)).mono fun _ _ ⟨he, m, hm⟩ => ⟨he, _, hm.trans (kdrewN_two _ _ _)⟩
   have HE := Lib.hid (hex_ext (n := n % 16) (by omega) (by omega))
   have HX := Lib.hid (hexF_more (f + 1) h3)
   clear h1 ih
   have b0 : 0 ≤ n % 16 := by omega
   have b1 : n % 16 ≤ 15 := by omega
   have b2 : 0 ≤ n % 16 + 1 := by omega
   have b3 : n % 16 ≤ n % 16 + 1 := by omega
   have b4 : n % 16 + 1 ≤ 16 := by omega
   have g1 : n.tdiv 16 = n / 16 := Int.tdiv_eq_ediv_of_nonneg h0
   have g2 : n.tmod 16 = n % 16 := Int.tmod_eq_emod_of_nonneg h0
   have g3 : IntKind.i64.wrap (n / 16) = n / 16 := IntWalk.i64_in _ (by omega)
   have g4 : IntKind.i64.wrap (n % 16) = n % 16 := IntWalk.i64_in _ (by omega)
   have g5 : IntKind.i64.wrap (n % 16 + 1) = n % 16 + 1 := IntWalk.i64_in _ (by omega)
   have g6 := HE.out
   have hl := Q.hex_len (f + 1) (n / 16)
   have hadd : ¬ 9223372036854775807 < (strOfNums (hexF (f + 1) (n / 16))).size + (strOfNums [dig (n % 16)]).size := by rw [strOfNums_size, strOfNums_size]; simp only [List.length_cons, List.length_nil]; omega
   clear hl
   go_enter Tryz.func117, Tryz.ntmps117
   go_wp2_with fail
   go_quiet ((go_at_call 117; exact HI.out _))
   go_wp2
   go_ret
   rw [HX.out]
   exact ⟨ret_str (str_app _ _), _, rfl⟩
end Go.Proofs.YtmohefgdpddldaaGreatDoor
