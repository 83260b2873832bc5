/- The stream of expr: fail, next, take; and what one token alone is. The stream of expr: take; what one token alone is. What one token alone is; several forms. The reader of expr: what its functions leave; member. The reader of expr: member. The reader of expr: an append of one form; parts. The reader of expr: join, form. The reader of expr: form. The reader of expr: what stands between a token that opens and one that ends. The reader of expr: a form in brackets. The reader of expr: set, bare. The reader of expr: piece. The reader of expr: part. The reader of expr: all functions, by induction; items in memory. The reader of expr: item. The reader of expr: items. The reader of expr: items, walked. Whether items are the same: the program's Items. Whether all of several items are so. Whether all of several bytes are so. The small functions of byte8 and of the library under it, and the document's of one character's bytes. The small functions of word: letters, digits, marks, signs; digits counted, and their value. The number that a text begins with. Strings of bytes; which errors reading a character may have. Letters of a text; the token of an #allow. The program's ink: whether a form may be written. The document's Plain. The document's hexadecimal digits and the text of a character. The text of a character: the document's, and the program's over strconv.FormatInt at base 16. strconv.FormatInt at base 16, of a character's number. The program's text of a character, over strconv.FormatInt. The library's contracts, laid at this translation. The pen's small functions. The pen: characters from one to another one. The pen: what stands in a node. The pen: sets, forms. The pen: forms. A rule's number, written: the program's Number of layer 5; the bytes of a form's text. The program's ink: names. The program's ink: forms that may be written. -/
import Derived.Test.YtmohefgdpddldaaGreatDoorCL01
import Derived.StillTailTactics
import Derived.Deep.RegionHeld3
import Derived.OwnWalk
import Derived.Lib.ConvBytes
import Derived.Lib.UnsafeStr
import Derived.Laws.AppendOwn
import Derived.IntWalk
import Derived.Laws.Rows
import Derived.Laws.BitsAll
import Derived.Shelf.Strings.Trim
import Derived.Shelf.Strconv.Itoa3
import Derived.Test.YtmohefgdpddldaaGreatDoorProg
import Derived.Lib.LaidTab
import Derived.Deep.RegionHeldLaw
import Derived.Lib.ItoaLen
import Derived.Lib.AppendIntMem
set_option maxRecDepth 100000
namespace Go.Proofs.YtmohefgdpddldaaGreatDoor
open Go.RowKit
open Y (Nd It Ps nextP takeP failP noTok noName)

section
variable {b : Nat} {w : World} {e : Int} {o : Nat} {s : Ps} {A : Option Addr} {n c : Nat}
end
end Go.Proofs.YtmohefgdpddldaaGreatDoor
namespace Go.Proofs.YtmohefgdpddldaaGreatDoor
open Go.RowKit
open Y (Nd It Ps nextP takeP failP noTok noName)

def Tok.v (t : Tok) : Value := .agg #[.int .i64 t.kind, .string (strOfNums t.text), .int .i64 t.low, .int .i64 t.high, .int .i64 t.pos]
/-- Five cells are stored. -/
def set5 (w : World) (N : Nat) (a0 a1 a2 a3 a4 : Value) : World := ((((w.setCell ⟨N, 0, none⟩ a0).setCell ⟨N, 1, none⟩ a1).setCell ⟨N, 2, none⟩ a2).setCell ⟨N, 3, none⟩ a3).setCell ⟨N, 4, none⟩ a4
theorem set5_row {w : World} {N : Nat} {x0 x1 x2 x3 x4 : Value} {t : TypeId} (h : w.heap[N]? = some (.cells #[x0, x1, x2, x3, x4] t (0, 0))) (a0 a1 a2 a3 a4 : Value) : (set5 w N a0 a1 a2 a3 a4).heap[N]? = some (.cells #[a0, a1, a2, a3, a4] t (0, 0)) :=
  heap_setCell_same _ _ _ _ _ _ (heap_setCell_same _ _ _ _ _ _ (heap_setCell_same _ _ _ _ _ _ (heap_setCell_same _ _ _ _ _ _ (heap_setCell_same _ _ _ _ _ _ h))))
theorem set5_size (w : World) (N : Nat) (a0 a1 a2 a3 a4 : Value) : (set5 w N a0 a1 a2 a3 a4).heap.size = w.heap.size := by simp [set5]
theorem set5_block (w : World) (N : Nat) (a0 a1 a2 a3 a4 : Value) {i : Nat} (hi : i ≠ N) : (set5 w N a0 a1 a2 a3 a4).heap[i]? = w.heap[i]? :=
  (Below.heap_setCell _ _ _ _ hi).trans ((Below.heap_setCell _ _ _ _ hi).trans ((Below.heap_setCell _ _ _ _ hi).trans ((Below.heap_setCell _ _ _ _ hi).trans (Below.heap_setCell _ _ _ _ hi))))
theorem Fe.set5 {b : Nat} {a c : World} (h : Fe b a c) {g : Nat} (hg : g = b ∨ a.heap.size ≤ g) (a0 a1 a2 a3 a4 : Value) : Fe b a (set5 c g a0 a1 a2 a3 a4) :=
  ((((h.set hg _ _).set hg _ _).set hg _ _).set hg _ _).set hg _ _
theorem cells5 {w : World} {N : Nat} {x0 x1 x2 x3 x4 : Value} {t : TypeId} (h : w.heap[N]? = some (.cells #[x0, x1, x2, x3, x4] t (0, 0))) :
    w.cell? ⟨N, 0, none⟩ = some x0 ∧ w.cell? ⟨N, 1, none⟩ = some x1 ∧ w.cell? ⟨N, 2, none⟩ = some x2 ∧ w.cell? ⟨N, 3, none⟩ = some x3 ∧ w.cell? ⟨N, 4, none⟩ = some x4 := by
  refine ⟨?_, ?_, ?_, ?_, ?_⟩ <;> (rw [cell_of_row _ _ _ _ _ _ h]; rfl)
theorem take_yes {e : Int} {ks : List Int} {t : Tok} {u : List Tok} (h : ks.contains t.kind = true) : takeP e ks (.live (t :: u)) = (t, .live u) := by rw [Y.take_cons, if_pos h]
theorem take_no {e : Int} {ks : List Int} {s : Ps} (h : nextP ks s = false) : takeP e ks s = (noTok, failP e 4 s) := by
  rcases s with (_ | ⟨t, u⟩) | ⟨a, y⟩
  · rfl
  · rw [Y.take_cons]; rw [Y.next_cons] at h; rw [if_neg (by rw [h]; decide)]; rfl
  · rfl
section
variable {b : Nat} {w : World} {e : Int} {o : Nat} {s : Ps} {A : Option Addr} {n c : Nat}
end
end Go.Proofs.YtmohefgdpddldaaGreatDoor
namespace Go.Proofs.YtmohefgdpddldaaGreatDoor
open Go.RowKit
open Y (Nd It Ps nextP takeP failP noTok noName)

/-- A value's five cells. -/
theorem IsN.parts {w : World} {S : Nat → Prop} {v : Value} {x : Nd} (h : IsN w S v x) : ∃ A n c, v = .agg #[.int .i64 x.kind, .string x.name, .int .i64 x.low, .int .i64 x.high, .slice A n c] ∧ RdN w S A n c x.kids := h
end Go.Proofs.YtmohefgdpddldaaGreatDoor
namespace Go.Proofs.YtmohefgdpddldaaGreatDoor
open Go.RowKit
open Y (Nd It Ps nextP takeP failP noTok noName formP orsP joinP piecesP pieceP bareP setP partsP partP heldP memberP)

section
variable {b N : Nat} {t : TypeId} {w w' : World} {e : Int} {o : Nat} {s : Ps}
/-- A block that is new holds these cells. -/
def Box5 (w : World) (N : Nat) (t : TypeId) : Prop := ∃ x0 x1 x2 x3 x4 : Value, w.heap[N]? = some (.cells #[x0, x1, x2, x3, x4] t (0, 0))
theorem Box5.fe (h : Box5 w N t) (hf : Fe b w w') (hN : N ≠ b) (hs : N < w.heap.size) : Box5 w' N t := by
  obtain ⟨x0, x1, x2, x3, x4, h⟩ := h
  exact ⟨x0, x1, x2, x3, x4, (hf.block N hs hN).trans h⟩
theorem Box5.facts (h : Box5 w N t) : (∃ x0 x1 x2 x3 x4, w.cell? ⟨N, 0, none⟩ = some x0 ∧ w.cell? ⟨N, 1, none⟩ = some x1 ∧ w.cell? ⟨N, 2, none⟩ = some x2 ∧ w.cell? ⟨N, 3, none⟩ = some x3 ∧ w.cell? ⟨N, 4, none⟩ = some x4) ∧ ∀ j, w.frozen? ⟨N, j, none⟩ = false := by
  obtain ⟨x0, x1, x2, x3, x4, h⟩ := h
  exact ⟨⟨x0, x1, x2, x3, x4, cells5 h⟩, fun j => frozen_of_row _ _ _ _ _ h⟩
theorem Box5.set (h : Box5 w N t) (a0 a1 a2 a3 a4 : Value) : (set5 w N a0 a1 a2 a3 a4).heap[N]? = some (.cells #[a0, a1, a2, a3, a4] t (0, 0)) := by
  obtain ⟨x0, x1, x2, x3, x4, h⟩ := h
  exact set5_row h _ _ _ _ _
end
end Go.Proofs.YtmohefgdpddldaaGreatDoor
namespace Go.Proofs.YtmohefgdpddldaaGreatDoor
open Go.RowKit
open Y (Nd It Ps nextP takeP failP noTok noName formP orsP joinP piecesP pieceP bareP setP partsP partP heldP memberP)

/-- The world in which a function begins that hands back a form. -/
def begN (w : World) : World := w.alloc (.cells #[.int .i64 0, .string { data := #[] }, .int .i64 0, .int .i64 0, .slice none 0 0] 24)
theorem begN_box (w : World) : Box5 (begN w) w.heap.size 24 := ⟨_, _, _, _, _, heap_alloc_new w _⟩
theorem begN_below (w : World) : Below w.heap.size w (begN w) := kbelow_push w _
theorem begN_size (w : World) : (begN w).heap.size = w.heap.size + 1 := by simp [begN]
end Go.Proofs.YtmohefgdpddldaaGreatDoor
namespace Go.Proofs.YtmohefgdpddldaaGreatDoor
open Go.RowKit
open Y (Nd It Ps nextP takeP failP noTok noName formP orsP joinP piecesP pieceP bareP setP partsP partP heldP memberP)

theorem Fe.grown {b : Nat} {a c d : World} {row : Option Nat} (h : Fe b a c) (hg : c.grownBy d row) (hr : ∀ i, row = some i → a.heap.size ≤ i) : Fe b a d :=
  ⟨hg.os.trans h.os, hg.tape.trans h.tape, hg.output.trans h.output, Nat.le_trans h.size hg.size, fun i hi hn => (hg.block i (Nat.lt_of_lt_of_le hi h.size) (fun e => by have := hr i e.symm; omega)).trans (h.block i hi hn)⟩
theorem app_n {w : World} {ops : Array Oper} {rest : List Oper} {o : Oper} {a : Act} {Q : Exit → Act → World → Prop} (hgd : o.guard = none) (s x : Operand) 
    (ho : o.op = .call { callee := .builtin .append, args := #[s, x], argTypes := #[22, 22] })
    (base : Nat) (v : Value) (l : List Nd) (hs : a.eval s = v) (hown : OwnN w base v l) (N : Nat) (y : Nd) (x0 x1 x2 x3 x4 : Value)
    (hx : a.eval x = .slice (some ⟨N, 0, none⟩) 1 1) (hrow : w.heap[N]? = some (.cells #[x0, x1, x2, x3, x4] 24 (0, 0))) (hy : NdAt w (fun b => base ≤ b ∧ b < w.heap.size ∧ v.ownBlock ≠ some b) [x0, x1, x2, x3, x4] y)
    (h63 : l.length ≤ 1000000) (hbase : base ≤ w.heap.size)
    (h : ∀ v' w', OwnN w' base v' (l ++ [y]) → w.grownBy w' v.ownBlock → wpList Tryz.prog ops Q rest (a.put o.dst v') w') : wpList Tryz.prog ops Q (o :: rest) a w := by
  obtain ⟨i0, hi0, hz0, hz1, hz2⟩ := info_k info_nd
  obtain ⟨cs, hc, hk⟩ := hown
  have h1 : ∀ u ∈ [x0, x1, x2, x3, x4], u.oneCell' = true := by
    obtain ⟨A, n, c, e, _⟩ := hy.inv
    rw [e]
    intro u hu
    simp only [List.mem_cons, List.not_mem_nil, or_false] at hu
    rcases hu with rfl | rfl | rfl | rfl | rfl <;> rfl
  refine wpList_append_own_at w hgd s x 22 ho base 24 i0 _ 5 64 Tryz.underlying22 hi0 hz0 hz1 hz2 rfl (by decide) v l.length cs hs hc ⟨N, 0, none⟩ 1 1 [x0, x1, x2, x3, x4] hx rfl ?_ h1 (by unfold maxLen; omega) (by omega) hbase ?_
  · intro j u hu
    rw [kadd_none, cell_of_row _ _ _ _ _ _ hrow, Nat.zero_add]
    simpa using hu
  · intro v' w' h2 h3 _ h4
    exact h v' w' (OwnN.push hk hc.1 hy rfl h2 h3 h4) h3
/-- A form is written out as a list of one. -/
def litN (w : World) (x0 x1 x2 x3 x4 : Value) : World := w.alloc (.cells #[x0, x1, x2, x3, x4] 24)
theorem litN_below (w : World) (x0 x1 x2 x3 x4 : Value) : Below w.heap.size w (litN w x0 x1 x2 x3 x4) := kbelow_push w _
theorem litN_size (w : World) (x0 x1 x2 x3 x4 : Value) : (litN w x0 x1 x2 x3 x4).heap.size = w.heap.size + 1 := by simp [litN]
theorem litN_row (w : World) (x0 x1 x2 x3 x4 : Value) (N : Nat) (hN : N = w.heap.size) : (litN w x0 x1 x2 x3 x4).heap[N]? = some (.cells #[x0, x1, x2, x3, x4] 24 (0, 0)) := by subst hN; exact heap_alloc_new w _
def lenOf (b : Nat) (w : World) : Nat := match w.cell? ⟨b, 0, none⟩ with | some (.slice _ n _) => n | _ => 0
section
variable {α : Type} {b : Nat} {w wr W2 w3 w5 : World} {e : Int} {o L m K m' : Nat} {f : Nat → Nat → List Nd → Ps → α × Ps} {r : α × Ps} {v v5 : Value} {l : List Nd} {s : Ps} {k : Nd × Ps} {A : Option Addr} {n c : Nat}
end
end Go.Proofs.YtmohefgdpddldaaGreatDoor
namespace Go.Proofs.YtmohefgdpddldaaGreatDoor
open Go.RowKit
open Y (Nd It Ps nextP takeP failP noTok noName formP orsP joinP piecesP pieceP bareP setP partsP partP heldP memberP)

end Go.Proofs.YtmohefgdpddldaaGreatDoor
namespace Go.Proofs.YtmohefgdpddldaaGreatDoor
open Go.RowKit
open Y (Nd It Ps nextP takeP failP noTok noName formP orsP joinP piecesP pieceP bareP setP partsP partP heldP memberP)

/-- A list of one that is written out is a row of one's own. -/
theorem OwnN.lit {w : World} {B : Nat} {x : Nd} {x0 x1 x2 x3 x4 : Value} (hB : B ≤ w.heap.size) (hx : NdAt w (In B w.heap.size) [x0, x1, x2, x3, x4] x) : OwnN (litN w x0 x1 x2 x3 x4) B (.slice (some ⟨w.heap.size, 0, none⟩) 1 1) [x] := by
  refine ⟨[x0, x1, x2, x3, x4], World.ownsRow_lit w #[x0, x1, x2, x3, x4] 1 hB (by unfold maxLen; omega) rfl, fun i y hy => ?_⟩
  have hi : i = 0 := by
    have := (List.getElem?_eq_some_iff.1 hy).1; simp at this; omega
  subst hi
  simp at hy
  subst hy
  refine hx.keep (fun i hi => ⟨hi.1, by rw [litN_size]; have := hi.2; omega, fun e => ?_⟩) fun p hp => (litN_below w x0 x1 x2 x3 x4).cell hp.2
  have h2 : i < w.heap.size := hi.2
  have h3 : w.heap.size = i := Option.some.inj e
  omega
theorem nd_eta (x : Nd) : Nd.mk x.kind x.name x.low x.high x.kids = x := by cases x; rfl
end Go.Proofs.YtmohefgdpddldaaGreatDoor
namespace Go.Proofs.YtmohefgdpddldaaGreatDoor
open Go.RowKit
open Y (Nd It Ps nextP takeP failP noTok noName deepP formP orsP joinP piecesP pieceP bareP setP partsP partP heldP memberP)


end Go.Proofs.YtmohefgdpddldaaGreatDoor
namespace Go.Proofs.YtmohefgdpddldaaGreatDoor
open Go.RowKit
open Y (Nd It Ps nextP takeP failP noTok noName deepP formP orsP joinP piecesP pieceP bareP setP partsP partP heldP memberP)

section
variable {b : Nat} {w w10 : World} {e : Int} {o : Nat} {s2 : Ps} {A : Option Addr} {n c : Nat} {x : Nd} {t : Tok} {tx : ByteArray}
end

end Go.Proofs.YtmohefgdpddldaaGreatDoor
namespace Go.Proofs.YtmohefgdpddldaaGreatDoor
open Go.RowKit
open Y (Nd It Ps nextP takeP failP noTok noName deepP formP orsP joinP piecesP pieceP bareP setP partsP partP heldP memberP)

end Go.Proofs.YtmohefgdpddldaaGreatDoor
namespace Go.Proofs.YtmohefgdpddldaaGreatDoor
open Go.RowKit
open Y (Nd It Ps nextP takeP failP noTok noName deepP formP orsP joinP piecesP pieceP bareP setP partsP partP heldP memberP)

end Go.Proofs.YtmohefgdpddldaaGreatDoor
namespace Go.Proofs.YtmohefgdpddldaaGreatDoor
open Go.RowKit
open Y (Nd It Ps nextP takeP failP noTok noName deepP formP orsP joinP piecesP pieceP bareP setP partsP partP heldP memberP)

theorem Fe.drew {b : Nat} {a c : World} (h : Fe b a c) : Fe b a c.drew := ⟨h.os, h.tape, h.output, h.size, h.block⟩
end Go.Proofs.YtmohefgdpddldaaGreatDoor
namespace Go.Proofs.YtmohefgdpddldaaGreatDoor
open Go.RowKit
open Y (Nd It Ps nextP takeP failP noTok noName zeroN deepP formP orsP joinP piecesP pieceP bareP setP partsP partP heldP memberP)

/-- The cells of an item. -/
def itC (x : It) (Ab : Option Addr) (nb cb : Nat) (Aa : Option Addr) (na ca : Nat) : List Value := [.int .i64 x.kind, .string x.name, .int .i64 x.number, .bool x.cut, .int .i64 x.before.kind, .string x.before.name, .int .i64 x.before.low, .int .i64 x.before.high, .slice Ab nb cb, .int .i64 x.after.kind, .string x.after.name, .int .i64 x.after.low, .int .i64 x.after.high, .slice Aa na ca, .int .i64 x.pos]
def itV (x : It) (Ab : Option Addr) (nb cb : Nat) (Aa : Option Addr) (na ca : Nat) : Value := .agg #[.int .i64 x.kind, .string x.name, .int .i64 x.number, .bool x.cut, .int .i64 x.before.kind, .string x.before.name, .int .i64 x.before.low, .int .i64 x.before.high, .slice Ab nb cb, .int .i64 x.after.kind, .string x.after.name, .int .i64 x.after.low, .int .i64 x.after.high, .slice Aa na ca, .int .i64 x.pos]
def ItAt (w : World) (S : Nat → Prop) (cs : List Value) (x : It) : Prop := ∃ Ab nb cb Aa na ca, cs = itC x Ab nb cb Aa na ca ∧ RdN w S Ab nb cb x.before.kids ∧ RdN w S Aa na ca x.after.kids
def IsI (w : World) (S : Nat → Prop) (v : Value) (x : It) : Prop := ∃ Ab nb cb Aa na ca, v = itV x Ab nb cb Aa na ca ∧ RdN w S Ab nb cb x.before.kids ∧ RdN w S Aa na ca x.after.kids
theorem ItAt.keep {w w' : World} {S S' : Nat → Prop} {cs : List Value} {x : It} (h : ItAt w S cs x) (hS : ∀ b, S b → S' b) (hk : ∀ p : Addr, S p.block → w'.cell? p = w.cell? p) : ItAt w' S' cs x := by
  obtain ⟨Ab, nb, cb, Aa, na, ca, e, h1, h2⟩ := h
  exact ⟨Ab, nb, cb, Aa, na, ca, e, h1.keep hS hk, h2.keep hS hk⟩
/-- A slice value reads as these items. -/
structure RdI6 (w : World) (S : Nat → Prop) (A : Option Addr) (n c : Nat) (l : List It) : Prop where
  len : l.length = n
  cap : n ≤ c
  capm : c ≤ maxLen
  at_ : ∃ cs : Nat → List Value, (0 < n → ∃ b off, A = some ⟨b, off, none⟩ ∧ S b ∧ ∀ i, i < n → ∀ j u, (cs i)[j]? = some u → w.cell? ⟨b, off + (i * 15 + j), none⟩ = some u) ∧ ∀ i x, l[i]? = some x → ItAt w S (cs i) x
theorem RdI6.keep {w w' : World} {S S' : Nat → Prop} {A : Option Addr} {n c : Nat} {l : List It} (h : RdI6 w S A n c l) (hS : ∀ b, S b → S' b) (hk : ∀ p : Addr, S p.block → w'.cell? p = w.cell? p) : RdI6 w' S' A n c l := by
  obtain ⟨h1, h2, h3, cs, h4, h5⟩ := h
  refine ⟨h1, h2, h3, cs, fun hn => ?_, fun i x hx => (h5 i x hx).keep hS hk⟩
  obtain ⟨b, off, e, hb, hcc⟩ := h4 hn
  exact ⟨b, off, e, hS b hb, fun i hi j u hu => (hk ⟨b, _, none⟩ hb).trans (hcc i hi j u hu)⟩
theorem RdI6.nil (w : World) (S : Nat → Prop) : RdI6 w S none 0 0 [] := ⟨rfl, Nat.le_refl _, by simp [maxLen], fun _ => [], fun h => absurd h (by omega), fun i x hx => by simp at hx⟩
/-- Fifteen cells are stored. -/
def set15 (w : World) (N : Nat) (a0 a1 a2 a3 a4 a5 a6 a7 a8 a9 a10 a11 a12 a13 a14 : Value) : World := (((((((((((((((w.setCell ⟨N, 0, none⟩ a0).setCell ⟨N, 1, none⟩ a1).setCell ⟨N, 2, none⟩ a2).setCell ⟨N, 3, none⟩ a3).setCell ⟨N, 4, none⟩ a4).setCell ⟨N, 5, none⟩ a5).setCell ⟨N, 6, none⟩ a6).setCell ⟨N, 7, none⟩ a7).setCell ⟨N, 8, none⟩ a8).setCell ⟨N, 9, none⟩ a9).setCell ⟨N, 10, none⟩ a10).setCell ⟨N, 11, none⟩ a11).setCell ⟨N, 12, none⟩ a12).setCell ⟨N, 13, none⟩ a13).setCell ⟨N, 14, none⟩ a14)
theorem set15_row {w : World} {N : Nat} {x0 x1 x2 x3 x4 x5 x6 x7 x8 x9 x10 x11 x12 x13 x14 : Value} {t : TypeId} (h : w.heap[N]? = some (.cells #[x0, x1, x2, x3, x4, x5, x6, x7, x8, x9, x10, x11, x12, x13, x14] t (0, 0))) (a0 a1 a2 a3 a4 a5 a6 a7 a8 a9 a10 a11 a12 a13 a14 : Value) : (set15 w N a0 a1 a2 a3 a4 a5 a6 a7 a8 a9 a10 a11 a12 a13 a14).heap[N]? = some (.cells #[a0, a1, a2, a3, a4, a5, a6, a7, a8, a9, a10, a11, a12, a13, a14] t (0, 0)) := by
  have h0 : (w.setCell ⟨N, 0, none⟩ a0).heap[N]? = some (.cells #[a0, x1, x2, x3, x4, x5, x6, x7, x8, x9, x10, x11, x12, x13, x14] t (0, 0)) := heap_setCell_same _ _ _ _ _ _ h
  have h1 : ((w.setCell ⟨N, 0, none⟩ a0).setCell ⟨N, 1, none⟩ a1).heap[N]? = some (.cells #[a0, a1, x2, x3, x4, x5, x6, x7, x8, x9, x10, x11, x12, x13, x14] t (0, 0)) := heap_setCell_same _ _ _ _ _ _ h0
  have h2 : (((w.setCell ⟨N, 0, none⟩ a0).setCell ⟨N, 1, none⟩ a1).setCell ⟨N, 2, none⟩ a2).heap[N]? = some (.cells #[a0, a1, a2, x3, x4, x5, x6, x7, x8, x9, x10, x11, x12, x13, x14] t (0, 0)) := heap_setCell_same _ _ _ _ _ _ h1
  have h3 : ((((w.setCell ⟨N, 0, none⟩ a0).setCell ⟨N, 1, none⟩ a1).setCell ⟨N, 2, none⟩ a2).setCell ⟨N, 3, none⟩ a3).heap[N]? = some (.cells #[a0, a1, a2, a3, x4, x5, x6, x7, x8, x9, x10, x11, x12, x13, x14] t (0, 0)) := heap_setCell_same _ _ _ _ _ _ h2
  have h4 : (((((w.setCell ⟨N, 0, none⟩ a0).setCell ⟨N, 1, none⟩ a1).setCell ⟨N, 2, none⟩ a2).setCell ⟨N, 3, none⟩ a3).setCell ⟨N, 4, none⟩ a4).heap[N]? = some (.cells #[a0, a1, a2, a3, a4, x5, x6, x7, x8, x9, x10, x11, x12, x13, x14] t (0, 0)) := heap_setCell_same _ _ _ _ _ _ h3
  have h5 : ((((((w.setCell ⟨N, 0, none⟩ a0).setCell ⟨N, 1, none⟩ a1).setCell ⟨N, 2, none⟩ a2).setCell ⟨N, 3, none⟩ a3).setCell ⟨N, 4, none⟩ a4).setCell ⟨N, 5, none⟩ a5).heap[N]? = some (.cells #[a0, a1, a2, a3, a4, a5, x6, x7, x8, x9, x10, x11, x12, x13, x14] t (0, 0)) := heap_setCell_same _ _ _ _ _ _ h4
  have h6 : (((((((w.setCell ⟨N, 0, none⟩ a0).setCell ⟨N, 1, none⟩ a1).setCell ⟨N, 2, none⟩ a2).setCell ⟨N, 3, none⟩ a3).setCell ⟨N, 4, none⟩ a4).setCell ⟨N, 5, none⟩ a5).setCell ⟨N, 6, none⟩ a6).heap[N]? = some (.cells #[a0, a1, a2, a3, a4, a5, a6, x7, x8, x9, x10, x11, x12, x13, x14] t (0, 0)) := heap_setCell_same _ _ _ _ _ _ h5
  have h7 : ((((((((w.setCell ⟨N, 0, none⟩ a0).setCell ⟨N, 1, none⟩ a1).setCell ⟨N, 2, none⟩ a2).setCell ⟨N, 3, none⟩ a3).setCell ⟨N, 4, none⟩ a4).setCell ⟨N, 5, none⟩ a5).setCell ⟨N, 6, none⟩ a6).setCell ⟨N, 7, none⟩ a7).heap[N]? = some (.cells #[a0, a1, a2, a3, a4, a5, a6, a7, x8, x9, x10, x11, x12, x13, x14] t (0, 0)) := heap_setCell_same _ _ _ _ _ _ h6
  have h8 : (((((((((w.setCell ⟨N, 0, none⟩ a0).setCell ⟨N, 1, none⟩ a1).setCell ⟨N, 2, none⟩ a2).setCell ⟨N, 3, none⟩ a3).setCell ⟨N, 4, none⟩ a4).setCell ⟨N, 5, none⟩ a5).setCell ⟨N, 6, none⟩ a6).setCell ⟨N, 7, none⟩ a7).setCell ⟨N, 8, none⟩ a8).heap[N]? = some (.cells #[a0, a1, a2, a3, a4, a5, a6, a7, a8, x9, x10, x11, x12, x13, x14] t (0, 0)) := heap_setCell_same _ _ _ _ _ _ h7
  have h9 : ((((((((((w.setCell ⟨N, 0, none⟩ a0).setCell ⟨N, 1, none⟩ a1).setCell ⟨N, 2, none⟩ a2).setCell ⟨N, 3, none⟩ a3).setCell ⟨N, 4, none⟩ a4).setCell ⟨N, 5, none⟩ a5).setCell ⟨N, 6, none⟩ a6).setCell ⟨N, 7, none⟩ a7).setCell ⟨N, 8, none⟩ a8).setCell ⟨N, 9, none⟩ a9).heap[N]? = some (.cells #[a0, a1, a2, a3, a4, a5, a6, a7, a8, a9, x10, x11, x12, x13, x14] t (0, 0)) := heap_setCell_same _ _ _ _ _ _ h8
  have h10 : (((((((((((w.setCell ⟨N, 0, none⟩ a0).setCell ⟨N, 1, none⟩ a1).setCell ⟨N, 2, none⟩ a2).setCell ⟨N, 3, none⟩ a3).setCell ⟨N, 4, none⟩ a4).setCell ⟨N, 5, none⟩ a5).setCell ⟨N, 6, none⟩ a6).setCell ⟨N, 7, none⟩ a7).setCell ⟨N, 8, none⟩ a8).setCell ⟨N, 9, none⟩ a9).setCell ⟨N, 10, none⟩ a10).heap[N]? = some (.cells #[a0, a1, a2, a3, a4, a5, a6, a7, a8, a9, a10, x11, x12, x13, x14] t (0, 0)) := heap_setCell_same _ _ _ _ _ _ h9
  have h11 : ((((((((((((w.setCell ⟨N, 0, none⟩ a0).setCell ⟨N, 1, none⟩ a1).setCell ⟨N, 2, none⟩ a2).setCell ⟨N, 3, none⟩ a3).setCell ⟨N, 4, none⟩ a4).setCell ⟨N, 5, none⟩ a5).setCell ⟨N, 6, none⟩ a6).setCell ⟨N, 7, none⟩ a7).setCell ⟨N, 8, none⟩ a8).setCell ⟨N, 9, none⟩ a9).setCell ⟨N, 10, none⟩ a10).setCell ⟨N, 11, none⟩ a11).heap[N]? = some (.cells #[a0, a1, a2, a3, a4, a5, a6, a7, a8, a9, a10, a11, x12, x13, x14] t (0, 0)) := heap_setCell_same _ _ _ _ _ _ h10
  have h12 : (((((((((((((w.setCell ⟨N, 0, none⟩ a0).setCell ⟨N, 1, none⟩ a1).setCell ⟨N, 2, none⟩ a2).setCell ⟨N, 3, none⟩ a3).setCell ⟨N, 4, none⟩ a4).setCell ⟨N, 5, none⟩ a5).setCell ⟨N, 6, none⟩ a6).setCell ⟨N, 7, none⟩ a7).setCell ⟨N, 8, none⟩ a8).setCell ⟨N, 9, none⟩ a9).setCell ⟨N, 10, none⟩ a10).setCell ⟨N, 11, none⟩ a11).setCell ⟨N, 12, none⟩ a12).heap[N]? = some (.cells #[a0, a1, a2, a3, a4, a5, a6, a7, a8, a9, a10, a11, a12, x13, x14] t (0, 0)) := heap_setCell_same _ _ _ _ _ _ h11
  have h13 : ((((((((((((((w.setCell ⟨N, 0, none⟩ a0).setCell ⟨N, 1, none⟩ a1).setCell ⟨N, 2, none⟩ a2).setCell ⟨N, 3, none⟩ a3).setCell ⟨N, 4, none⟩ a4).setCell ⟨N, 5, none⟩ a5).setCell ⟨N, 6, none⟩ a6).setCell ⟨N, 7, none⟩ a7).setCell ⟨N, 8, none⟩ a8).setCell ⟨N, 9, none⟩ a9).setCell ⟨N, 10, none⟩ a10).setCell ⟨N, 11, none⟩ a11).setCell ⟨N, 12, none⟩ a12).setCell ⟨N, 13, none⟩ a13).heap[N]? = some (.cells #[a0, a1, a2, a3, a4, a5, a6, a7, a8, a9, a10, a11, a12, a13, x14] t (0, 0)) := heap_setCell_same _ _ _ _ _ _ h12
  have h14 : (((((((((((((((w.setCell ⟨N, 0, none⟩ a0).setCell ⟨N, 1, none⟩ a1).setCell ⟨N, 2, none⟩ a2).setCell ⟨N, 3, none⟩ a3).setCell ⟨N, 4, none⟩ a4).setCell ⟨N, 5, none⟩ a5).setCell ⟨N, 6, none⟩ a6).setCell ⟨N, 7, none⟩ a7).setCell ⟨N, 8, none⟩ a8).setCell ⟨N, 9, none⟩ a9).setCell ⟨N, 10, none⟩ a10).setCell ⟨N, 11, none⟩ a11).setCell ⟨N, 12, none⟩ a12).setCell ⟨N, 13, none⟩ a13).setCell ⟨N, 14, none⟩ a14).heap[N]? = some (.cells #[a0, a1, a2, a3, a4, a5, a6, a7, a8, a9, a10, a11, a12, a13, a14] t (0, 0)) := heap_setCell_same _ _ _ _ _ _ h13
  exact h14
theorem set15_size (w : World) (N : Nat) (a0 a1 a2 a3 a4 a5 a6 a7 a8 a9 a10 a11 a12 a13 a14 : Value) : (set15 w N a0 a1 a2 a3 a4 a5 a6 a7 a8 a9 a10 a11 a12 a13 a14).heap.size = w.heap.size := by simp [set15]
theorem set15_block (w : World) (N : Nat) (a0 a1 a2 a3 a4 a5 a6 a7 a8 a9 a10 a11 a12 a13 a14 : Value) {i : Nat} (hi : i ≠ N) : (set15 w N a0 a1 a2 a3 a4 a5 a6 a7 a8 a9 a10 a11 a12 a13 a14).heap[i]? = w.heap[i]? := by
  unfold set15
  rw [Below.heap_setCell _ _ _ _ hi]; rw [Below.heap_setCell _ _ _ _ hi]; rw [Below.heap_setCell _ _ _ _ hi]; rw [Below.heap_setCell _ _ _ _ hi]; rw [Below.heap_setCell _ _ _ _ hi]; rw [Below.heap_setCell _ _ _ _ hi]; rw [Below.heap_setCell _ _ _ _ hi]; rw [Below.heap_setCell _ _ _ _ hi]; rw [Below.heap_setCell _ _ _ _ hi]; rw [Below.heap_setCell _ _ _ _ hi]; rw [Below.heap_setCell _ _ _ _ hi]; rw [Below.heap_setCell _ _ _ _ hi]; rw [Below.heap_setCell _ _ _ _ hi]; rw [Below.heap_setCell _ _ _ _ hi]; rw [Below.heap_setCell _ _ _ _ hi]
theorem Fe.set15 {b : Nat} {a c : World} (h : Fe b a c) {g : Nat} (hg : g = b ∨ a.heap.size ≤ g) (a0 a1 a2 a3 a4 a5 a6 a7 a8 a9 a10 a11 a12 a13 a14 : Value) : Fe b a (set15 c g a0 a1 a2 a3 a4 a5 a6 a7 a8 a9 a10 a11 a12 a13 a14) :=
  ((((((((((((((h.set hg _ _).set hg _ _).set hg _ _).set hg _ _).set hg _ _).set hg _ _).set hg _ _).set hg _ _).set hg _ _).set hg _ _).set hg _ _).set hg _ _).set hg _ _).set hg _ _).set hg _ _
theorem cells15 {w : World} {N : Nat} {x0 x1 x2 x3 x4 x5 x6 x7 x8 x9 x10 x11 x12 x13 x14 : Value} {t : TypeId} (h : w.heap[N]? = some (.cells #[x0, x1, x2, x3, x4, x5, x6, x7, x8, x9, x10, x11, x12, x13, x14] t (0, 0))) :
    w.cell? ⟨N, 0, none⟩ = some x0 ∧ w.cell? ⟨N, 1, none⟩ = some x1 ∧ w.cell? ⟨N, 2, none⟩ = some x2 ∧ w.cell? ⟨N, 3, none⟩ = some x3 ∧ w.cell? ⟨N, 4, none⟩ = some x4 ∧ w.cell? ⟨N, 5, none⟩ = some x5 ∧ w.cell? ⟨N, 6, none⟩ = some x6 ∧ w.cell? ⟨N, 7, none⟩ = some x7 ∧ w.cell? ⟨N, 8, none⟩ = some x8 ∧ w.cell? ⟨N, 9, none⟩ = some x9 ∧ w.cell? ⟨N, 10, none⟩ = some x10 ∧ w.cell? ⟨N, 11, none⟩ = some x11 ∧ w.cell? ⟨N, 12, none⟩ = some x12 ∧ w.cell? ⟨N, 13, none⟩ = some x13 ∧ w.cell? ⟨N, 14, none⟩ = some x14 := by
  refine ⟨?_, ?_, ?_, ?_, ?_, ?_, ?_, ?_, ?_, ?_, ?_, ?_, ?_, ?_, ?_⟩ <;> (rw [cell_of_row _ _ _ _ _ _ h]; rfl)
def Box15 (w : World) (N : Nat) : Prop := ∃ x0 x1 x2 x3 x4 x5 x6 x7 x8 x9 x10 x11 x12 x13 x14 : Value, w.heap[N]? = some (.cells #[x0, x1, x2, x3, x4, x5, x6, x7, x8, x9, x10, x11, x12, x13, x14] 35 (0, 0))
theorem Box15.fe {b N : Nat} {w w' : World} (h : Box15 w N) (hf : Fe b w w') (hN : N ≠ b) (hs : N < w.heap.size) : Box15 w' N := by
  obtain ⟨x0, x1, x2, x3, x4, x5, x6, x7, x8, x9, x10, x11, x12, x13, x14, h⟩ := h
  exact ⟨x0, x1, x2, x3, x4, x5, x6, x7, x8, x9, x10, x11, x12, x13, x14, (hf.block N hs hN).trans h⟩
theorem Box15.set {w : World} {N : Nat} (h : Box15 w N) (a0 a1 a2 a3 a4 a5 a6 a7 a8 a9 a10 a11 a12 a13 a14 : Value) : (set15 w N a0 a1 a2 a3 a4 a5 a6 a7 a8 a9 a10 a11 a12 a13 a14).heap[N]? = some (.cells #[a0, a1, a2, a3, a4, a5, a6, a7, a8, a9, a10, a11, a12, a13, a14] 35 (0, 0)) := by
  obtain ⟨x0, x1, x2, x3, x4, x5, x6, x7, x8, x9, x10, x11, x12, x13, x14, h⟩ := h
  exact set15_row h _ _ _ _ _ _ _ _ _ _ _ _ _ _ _
def zeroI : Obj := .cells #[.int .i64 0, .string { data := #[] }, .int .i64 0, .bool false, .int .i64 0, .string { data := #[] }, .int .i64 0, .int .i64 0, .slice none 0 0, .int .i64 0, .string { data := #[] }, .int .i64 0, .int .i64 0, .slice none 0 0, .int .i64 0] 35
def begI (w : World) : World := w.alloc zeroI
theorem begI_box (w : World) : Box15 (begI w) w.heap.size := ⟨_, _, _, _, _, _, _, _, _, _, _, _, _, _, _, heap_alloc_new w _⟩
theorem begI_below (w : World) : Below w.heap.size w (begI w) := kbelow_push w _
theorem begI_size (w : World) : (begI w).heap.size = w.heap.size + 1 := by simp [begI]
/-- The result's cells of an item, stored. -/
def set15I (w : World) (N : Nat) (x : It) (Ab : Option Addr) (nb cb : Nat) (Aa : Option Addr) (na ca : Nat) : World :=
  set15 w N (.int .i64 x.kind) (.string x.name) (.int .i64 x.number) (.bool x.cut) (.int .i64 x.before.kind) (.string x.before.name) (.int .i64 x.before.low) (.int .i64 x.before.high) (.slice Ab nb cb) (.int .i64 x.after.kind) (.string x.after.name) (.int .i64 x.after.low) (.int .i64 x.after.high) (.slice Aa na ca) (.int .i64 x.pos)
end Go.Proofs.YtmohefgdpddldaaGreatDoor
namespace Go.Proofs.YtmohefgdpddldaaGreatDoor
open Go.RowKit
open Y (Nd It Ps nextP takeP failP noTok noName zeroN formP itemP)

end Go.Proofs.YtmohefgdpddldaaGreatDoor
namespace Go.Proofs.YtmohefgdpddldaaGreatDoor
open Go.RowKit
open Y (Nd It Ps nextP takeP failP noTok noName zeroN formP itemP lineP itemsP)

theorem item_less (e : Int) (n : Nat) (s : Ps) (h : s.toks ≠ []) : (itemP e n s).2.toks.length < s.toks.length := by
  have h1 : (takeP e [1, 2, 19] s).2.toks.length < s.toks.length := by
    rcases s with (_ | ⟨t, u⟩) | ⟨a, y⟩
    · exact absurd rfl h
    · rw [Y.take_cons]; split <;> simp [Y.Ps.toks]
    · exact absurd rfl h
  unfold Y.itemP
  split
  · exact Nat.lt_of_le_of_lt (Nat.le_trans ((Y.len_all e n).form _ _) (Y.take_len _ _ _)) h1
  · split
    · exact Nat.lt_of_le_of_lt (Nat.le_trans ((Y.len_all e n).form _ _) (Nat.le_trans (Y.take_len _ _ _) ((Y.len_all e n).form _ _))) h1
    · exact h1
/-- A row of items of one's own. -/
def OwnI (w : World) (B : Nat) (v : Value) (l : List It) : Prop := ∃ cs, w.ownsRow B 35 15 v l.length cs ∧ ∀ i x, l[i]? = some x → ItAt w (fun b => B ≤ b ∧ b < w.heap.size ∧ v.ownBlock ≠ some b) ((cs.drop (i * 15)).take 15) x
theorem info_it : (Tryz.prog.info? 35).map (fun i => (i.zero, i.size, i.bytes)) = some (some (.agg #[.int .i64 0, .string { data := #[] }, .int .i64 0, .bool false, .int .i64 0, .string { data := #[] }, .int .i64 0, .int .i64 0, .slice none 0 0, .int .i64 0, .string { data := #[] }, .int .i64 0, .int .i64 0, .slice none 0 0, .int .i64 0]), 15, 176) := by kernel_rfl
section
variable {w w' : World} {B : Nat} {v : Value} {l : List It}
theorem OwnI.nil (w : World) (B : Nat) : OwnI w B (.slice none 0 0) [] := ⟨[], World.ownsRow_nil w B _ 15, fun i x hx => by simp at hx⟩
theorem OwnI.rd (h : OwnI w B v l) : ∃ A c, v = .slice A l.length c ∧ RdI6 w (In B w.heap.size) A l.length c l := by
  obtain ⟨cs, ho, hk⟩ := h
  have hs : ∀ i x, l[i]? = some x → ItAt w (In B w.heap.size) ((cs.drop (i * 15)).take 15) x := fun i x hx => (hk i x hx).keep (fun b hb => ⟨hb.1, hb.2.1⟩) (fun _ _ => rfl)
  rcases ho.2 with ⟨h1, h2⟩ | ⟨g, cap, cur, h1, hB, hg, h3, h4, _, _⟩
  · subst h1
    have : l = [] := List.eq_nil_of_length_eq_zero h2
    subst this
    exact ⟨none, 0, rfl, RdI6.nil _ _⟩
  · subst h1
    have hlt : g < w.heap.size := by
      rcases Nat.lt_or_ge g w.heap.size with hlt | hge
      · exact hlt
      · rw [Array.getElem?_eq_none hge] at hg; cases hg
    refine ⟨_, cap, rfl, rfl, h3, h4, fun i => (cs.drop (i * 15)).take 15, fun _ => ⟨g, 0, rfl, ⟨hB, hlt⟩, fun i hi j u hu => ?_⟩, hs⟩
    rw [← kadd_none]
    have hj : j < 15 := by
      have := (List.getElem?_eq_some_iff.1 hu).1; rw [List.length_take] at this; omega
    rw [List.getElem?_take_of_lt hj, List.getElem?_drop] at hu
    exact World.ownsRow.cells ho (g := g) rfl _ _ hu
theorem OwnI.keep (h : OwnI w B v l) (hs : w.heap.size ≤ w'.heap.size) (hb : ∀ i, B ≤ i → i < w.heap.size → w'.heap[i]? = w.heap[i]?) : OwnI w' B v l := by
  obtain ⟨cs, ho, hk⟩ := h
  exact ⟨cs, row_keep ho fun i h1 h2 _ => hb i h1 h2, fun i x hx => (hk i x hx).keep (fun b hb => ⟨hb.1, by omega, hb.2.2⟩) (fun p hp => World.cell?_of_block (hb p.block hp.1 hp.2.1))⟩
theorem OwnI.block (h : OwnI w B v l) : ∀ i, v.ownBlock = some i → B ≤ i ∧ i < w.heap.size := by
  obtain ⟨cs, ho, _⟩ := h
  exact World.ownsRow.lt ho
theorem OwnI.push {v' : Value} {ns cs : List Value} {x : It} (hk : ∀ i x, l[i]? = some x → ItAt w (fun b => B ≤ b ∧ b < w.heap.size ∧ v.ownBlock ≠ some b) ((cs.drop (i * 15)).take 15) x) (hcl : cs.length = l.length * 15)
    (hx : ItAt w (fun b => B ≤ b ∧ b < w.heap.size ∧ v.ownBlock ≠ some b) ns x) (hn : ns.length = 15) (ho : w'.ownsRow B 35 15 v' (l.length + 1) (cs ++ ns)) (hg : w.grownBy w' v.ownBlock) (hat : v'.ownBlock = v.ownBlock ∨ v'.ownBlock = some w.heap.size) : OwnI w' B v' (l ++ [x]) := by
  have hS : ∀ b, (B ≤ b ∧ b < w.heap.size ∧ v.ownBlock ≠ some b) → B ≤ b ∧ b < w'.heap.size ∧ v'.ownBlock ≠ some b := fun b ⟨h1, h2, h3⟩ => ⟨h1, Nat.lt_of_lt_of_le h2 hg.size, by
    rcases hat with e | e
    · rw [e]; exact h3
    · rw [e]; intro e2; injection e2 with e2; omega⟩
  have hc : ∀ p : Addr, (B ≤ p.block ∧ p.block < w.heap.size ∧ v.ownBlock ≠ some p.block) → w'.cell? p = w.cell? p := fun p ⟨_, h2, h3⟩ => World.cell?_of_block (hg.block p.block h2 (fun e => h3 e.symm))
  refine ⟨cs ++ ns, by simpa using ho, fun i y hy => ?_⟩
  rcases Nat.lt_or_ge i l.length with hi | hi
  · rw [List.getElem?_append_left hi] at hy
    have := (hk i y hy).keep hS hc
    rw [List.drop_append_of_le_length (by omega), List.take_append_of_le_length (by rw [List.length_drop]; omega)]
    exact this
  · have hil : i = l.length := by
      have := (List.getElem?_eq_some_iff.1 hy).1; simp at this; omega
    subst hil
    rw [List.getElem?_append_right (Nat.le_refl _), Nat.sub_self] at hy
    simp at hy
    subst hy
    rw [List.drop_append, List.drop_eq_nil_of_le (by omega), List.nil_append, hcl, Nat.sub_self, List.drop_zero, List.take_of_length_le (by omega)]
    exact hx.keep hS hc
end
theorem app_i {w : World} {ops : Array Oper} {rest : List Oper} {o : Oper} {a : Act} {Q : Exit → Act → World → Prop} (hgd : o.guard = none) (s y : Operand)
    (ho : o.op = .call { callee := .builtin .append, args := #[s, y], argTypes := #[25, 25] })
    (base : Nat) (v : Value) (l : List It) (hs : a.eval s = v) (hown : OwnI w base v l) (N : Nat) (x : It) (Ab : Option Addr) (nb cb : Nat) (Aa : Option Addr) (na ca : Nat)
    (hx : a.eval y = .slice (some ⟨N, 0, none⟩) 1 1) (hrow : w.heap[N]? = some (.cells #[.int .i64 x.kind, .string x.name, .int .i64 x.number, .bool x.cut, .int .i64 x.before.kind, .string x.before.name, .int .i64 x.before.low, .int .i64 x.before.high, .slice Ab nb cb, .int .i64 x.after.kind, .string x.after.name, .int .i64 x.after.low, .int .i64 x.after.high, .slice Aa na ca, .int .i64 x.pos] 35 (0, 0))) (hy : ItAt w (fun b => base ≤ b ∧ b < w.heap.size ∧ v.ownBlock ≠ some b) (itC x Ab nb cb Aa na ca) x)
    (h63 : l.length ≤ 1000000) (hbase : base ≤ w.heap.size)
    (h : ∀ v' w', OwnI w' base v' (l ++ [x]) → w.grownBy w' v.ownBlock → wpList Tryz.prog ops Q rest (a.put o.dst v') w') : wpList Tryz.prog ops Q (o :: rest) a w := by
  obtain ⟨i0, hi0, hz0, hz1, hz2⟩ := info_k info_it
  obtain ⟨cs, hc, hk⟩ := hown
  refine wpList_append_own_at w hgd s y 25 ho base 35 i0 _ 15 176 Tryz.underlying25 hi0 hz0 hz1 hz2 rfl (by decide) v l.length cs hs hc ⟨N, 0, none⟩ 1 1 (itC x Ab nb cb Aa na ca) hx rfl ?_ ?_ (by unfold maxLen; omega) (by omega) hbase ?_
  · intro j u hu
    rw [kadd_none, cell_of_row _ _ _ _ _ _ hrow, Nat.zero_add]
    unfold itC at hu
    simpa using hu
  · intro u hu
    unfold itC at hu
    simp only [List.mem_cons, List.not_mem_nil, or_false] at hu
    rcases hu with rfl | rfl | rfl | rfl | rfl | rfl | rfl | rfl | rfl | rfl | rfl | rfl | rfl | rfl | rfl <;> rfl
  · intro v' w' h2 h3 _ h4
    exact h v' w' (OwnI.push hk hc.1 hy rfl h2 h3 h4) h3
end Go.Proofs.YtmohefgdpddldaaGreatDoor
namespace Go.Proofs.YtmohefgdpddldaaGreatDoor
open Go.RowKit
open Y (Nd It Ps nextP takeP failP noTok noName zeroN formP itemP lineP itemsP)

end Go.Proofs.YtmohefgdpddldaaGreatDoor
namespace Go.Proofs.YtmohefgdpddldaaGreatDoor
open Go.RowKit
open Y (Nd It)

theorem RdI6.on {w w' : World} {A : Option Addr} {n c : Nat} {l : List It} (h : RdI6 w (Lt w) A n c l) (hb : Below w.heap.size w w') : RdI6 w' (Lt w') A n c l :=
  h.keep (fun _ hi => Nat.lt_of_lt_of_le hi hb.size) (fun _ hp => hb.cell hp)
theorem RdI6.small {w : World} {S : Nat → Prop} {A : Option Addr} {n c : Nat} {l : List It} (h : RdI6 w S A n c l) : n ≤ 9223372036854775807 := by have h1 := h.cap; have h2 := h.capm; unfold maxLen at h2; omega
theorem RdI6.got {w : World} {S : Nat → Prop} {A : Option Addr} {n c : Nat} {l : List It} (h : RdI6 w S A n c l) {i : Nat} (hi : i < n) : ∃ (b off : Nat) (x : It) (Ab Aa : Option Addr) (nb cb na ca : Nat), A = some ⟨b, off, none⟩ ∧ S b ∧ l[i]? = some x ∧ RdN w S Ab nb cb x.before.kids ∧ RdN w S Aa na ca x.after.kids ∧
    ∀ j u, (itC x Ab nb cb Aa na ca)[j]? = some u → w.cell? ⟨b, off + i * 15 + j, none⟩ = some u := by
  obtain ⟨h1, h2, h3, cs, h4, h5⟩ := h
  obtain ⟨b, off, e, hb, hcc⟩ := h4 (by omega)
  have hx := List.getElem?_eq_getElem (l := l) (i := i) (by omega)
  obtain ⟨Ab, nb, cb, Aa, na, ca, e5, r1, r2⟩ := h5 i _ hx
  refine ⟨b, off, _, Ab, Aa, nb, cb, na, ca, e, hb, hx, r1, r2, fun j u hu => ?_⟩
  rw [Nat.add_assoc]
  exact hcc i hi j u (by rw [e5]; exact hu)
theorem it_cells {w : World} {b o : Nat} {x : It} {Ab Aa : Option Addr} {nb cb na ca : Nat} (h : ∀ j u, (itC x Ab nb cb Aa na ca)[j]? = some u → w.cell? ⟨b, o + j, none⟩ = some u) :
    w.cell? ⟨b, o, none⟩ = some (.int .i64 x.kind) ∧ w.cell? ⟨b, o + 1, none⟩ = some (.string x.name) ∧ w.cell? ⟨b, o + 2, none⟩ = some (.int .i64 x.number) ∧ w.cell? ⟨b, o + 3, none⟩ = some (.bool x.cut) ∧ w.cell? ⟨b, o + 4, none⟩ = some (.int .i64 x.before.kind) ∧ w.cell? ⟨b, o + 5, none⟩ = some (.string x.before.name) ∧ w.cell? ⟨b, o + 6, none⟩ = some (.int .i64 x.before.low) ∧ w.cell? ⟨b, o + 7, none⟩ = some (.int .i64 x.before.high) ∧ w.cell? ⟨b, o + 8, none⟩ = some (.slice Ab nb cb) ∧ w.cell? ⟨b, o + 9, none⟩ = some (.int .i64 x.after.kind) ∧ w.cell? ⟨b, o + 10, none⟩ = some (.string x.after.name) ∧ w.cell? ⟨b, o + 11, none⟩ = some (.int .i64 x.after.low) ∧ w.cell? ⟨b, o + 12, none⟩ = some (.int .i64 x.after.high) ∧ w.cell? ⟨b, o + 13, none⟩ = some (.slice Aa na ca) ∧ w.cell? ⟨b, o + 14, none⟩ = some (.int .i64 x.pos) :=
  ⟨h 0 _ rfl, h 1 _ rfl, h 2 _ rfl, h 3 _ rfl, h 4 _ rfl, h 5 _ rfl, h 6 _ rfl, h 7 _ rfl, h 8 _ rfl, h 9 _ rfl, h 10 _ rfl, h 11 _ rfl, h 12 _ rfl, h 13 _ rfl, h 14 _ rfl⟩
end Go.Proofs.YtmohefgdpddldaaGreatDoor
namespace Go.Proofs.YtmohefgdpddldaaGreatDoor
open Go.RowKit
open Y (Nd It noName)

/-- What is asked of a test of items. -/
def PredI (fn : Nat) (lb : Array Value) (p : It → Bool) (l : List It) (w : World) : Prop :=
  ∀ (W : World) (x : It) (Ab : Option Addr) (nb cb : Nat) (Aa : Option Addr) (na ca : Nat), x ∈ l → Below w.heap.size w W → RdN W (Lt W) Ab nb cb x.before.kids → RdN W (Lt W) Aa na ca x.after.kids → Calls Tryz.prog fn (#[.agg #[.int .i64 x.kind, .string x.name, .int .i64 x.number, .bool x.cut, .int .i64 x.before.kind, .string x.before.name, .int .i64 x.before.low, .int .i64 x.before.high, .slice Ab nb cb, .int .i64 x.after.kind, .string x.after.name, .int .i64 x.after.low, .int .i64 x.after.high, .slice Aa na ca, .int .i64 x.pos]] ++ lb) W (BooK W (p x))
set_option maxHeartbeats 1000000 in
theorem idxI_any {w : World} {A : Option Addr} {n c : Nat} {l : List It} (fn : Nat) (lb : Array Value) (p : It → Bool) (hg : RdI6 w (Lt w) A n c l) (eg : ∀ args w, (callFunc fn args).run Tryz.prog w = .ok (.enter fn args) w) (hp : PredI fn lb p l w) :
    Calls Tryz.prog 96 #[.slice A n c, .func (.func fn) #[] lb] w (IdxP w (l.any p)) := by
  have hn := hg.small
  have HG := Lib.hid hg
  have HP := Lib.hid hp
  have HL := Lib.hid hg.len
  clear hg hp
  go_enter Tryz.func96, Tryz.ntmps96
  go_wp2_with fail
  go_loopw [8] (fun i wr => ∃ k : Nat, k ≤ n ∧ i = .int .i64 k ∧ Hid (∀ j x, j < k → l[j]? = some x → p x = false) ∧ Hid (Below w.heap.size w wr)) (fun i _ => n - (intOf i).toNat)
  case atStart => exact ⟨0, Nat.zero_le _, rfl, fun j h hj => absurd hj (by omega), Below.refl _ _⟩
  case round =>
    obtain ⟨k, hk, rfl, HN, HB⟩ := hrel
    by_cases hlt : k < n
    · obtain ⟨b1, o1, x, Ab, Aa, nb, cb, na, ca, rfl, hb1, hx, hr1, hr2, hc1⟩ := (HG.out.on HB.out).got hlt
      obtain ⟨s0, s1, s2, s3, s4, s5, s6, s7, s8, s9, s10, s11, s12, s13, s14⟩ := it_cells hc1
      have HX := Lib.hid hx
      have hcall := HP.out wr x Ab nb cb Aa na ca (List.mem_of_getElem? hx) HB.out hr1 hr2
      have hj0 : (0 : Int) ≤ (k : Int) := by omega
      have hj1 : (k : Int) < (n : Int) := by omega
      clear hx hr1 hr2 hb1 hc1
      cases hpx : p x
      · rw [hpx] at hcall
        have HF : Hid (∀ j y, j < k + 1 → l[j]? = some y → p y = false) := fun j y hj hy => by
          by_cases e : j = k
          · subst e; rw [HX.out] at hy; injection hy with hy; subst hy; exact hpx
          · exact HN.out j y (by omega) hy
        have HC := Lib.hid hcall
        clear hpx hcall HN
        go_wp2_with fail
        refine HC.out.mono ?_
        rintro e w2 ⟨rfl, hb2⟩
        have HB2 := Lib.hid (HB.out.trans (hb2.mono HB.out.size))
        clear hb2
        go_wp2_with fail
        go_roundw
        case rel => exact ⟨k + 1, by omega, by go_num, HF.out, HB2.out⟩
        case measure => simp [intOf]; omega
      · rw [hpx] at hcall
        have HF := Lib.hid (any_yes (p := p) HX.out hpx)
        have HC := Lib.hid hcall
        clear hpx hcall HN
        go_wp2_with fail
        refine HC.out.mono ?_
        rintro e w2 ⟨rfl, hb2⟩
        have HB2 := Lib.hid (HB.out.trans (hb2.mono HB.out.size))
        clear hb2
        go_wp2_with fail
        go_ret
        exact ⟨k, rfl, by rw [HF.out]; simp, HB2.out⟩
    · have HF := Lib.hid (any_no (p := p) (n := k) (by have := HL.out; omega) HN.out)
      clear HN
      go_wp2_with fail
      go_ret
      exact ⟨-1, rfl, by rw [HF.out]; rfl, HB.out⟩
set_option maxHeartbeats 1000000 in
theorem conI_any {w : World} {A : Option Addr} {n c : Nat} {l : List It} (fn : Nat) (lb : Array Value) (p : It → Bool) (hg : RdI6 w (Lt w) A n c l) (eg : ∀ args w, (callFunc fn args).run Tryz.prog w = .ok (.enter fn args) w) (hp : PredI fn lb p l w) :
    Calls Tryz.prog 62 #[.slice A n c, .func (.func fn) #[] lb] w (BooK w (l.any p)) := by
  have HC := Lib.hid (idxI_any fn lb p hg eg hp)
  clear hg hp
  go_enter Tryz.func62, Tryz.ntmps62
  go_wp2_with fail
  refine HC.out.mono ?_
  rintro e w2 ⟨i, rfl, hi, hb⟩
  have HB := Lib.hid hb
  have HI := Lib.hid hi
  clear hb hi
  go_wp2_with fail
  go_ret
  exact ⟨ret_bool HI.out, HB.out⟩
/-- The test turned round, as all hands it on: it has the test in a cell of its own. -/
theorem notI_pred {w : World} (fn : Nat) (lb : Array Value) (p : It → Bool) (l : List It) (b : Nat) (hb : b < w.heap.size) (hc : w.cell? ⟨b, 0, none⟩ = some (.func (.func fn) #[] lb)) (eg : ∀ args w, (callFunc fn args).run Tryz.prog w = .ok (.enter fn args) w) (hp : PredI fn lb p l w) :
    PredI 63 #[.pointer (some ⟨b, 0, none⟩)] (fun x => !p x) l w := fun W x Ab nb cb Aa na ca hx hW hr hr2 => by
  have hc' : W.cell? ⟨b, 0, none⟩ = some (.func (.func fn) #[] lb) := (hW.cell (p := ⟨b, 0, none⟩) hb).trans hc
  have HP := Lib.hid (kbelow_push W (.cells #[.int .i64 x.kind, .string x.name, .int .i64 x.number, .bool x.cut, .int .i64 x.before.kind, .string x.before.name, .int .i64 x.before.low, .int .i64 x.before.high, .slice Ab nb cb, .int .i64 x.after.kind, .string x.after.name, .int .i64 x.after.low, .int .i64 x.after.high, .slice Aa na ca, .int .i64 x.pos] 35))
  have HC := Lib.hid (hp _ x Ab nb cb Aa na ca hx (hW.trans (HP.out.mono hW.size)) (hr.on HP.out) (hr2.on HP.out))
  have hb' : b < W.heap.size := Nat.lt_of_lt_of_le hb hW.size
  clear hr hr2 hW hc hp
  go_enter Tryz.func63, Tryz.ntmps63
  go_wp2_with fail
  refine HC.out.mono ?_
  rintro e w2 ⟨rfl, hb2⟩
  have HB := Lib.hid (HP.out.trans (hb2.mono HP.out.size))
  clear hb2
  go_wp2_with fail
  go_ret
  exact ⟨rfl, HB.out⟩
theorem allI_any {w : World} {A : Option Addr} {n c : Nat} {l : List It} (fn : Nat) (lb : Array Value) (p : It → Bool) (hg : RdI6 w (Lt w) A n c l) (eg : ∀ args w, (callFunc fn args).run Tryz.prog w = .ok (.enter fn args) w) (hp : PredI fn lb p l w) :
    Calls Tryz.prog 27 #[.slice A n c, .func (.func fn) #[] lb] w (BooK w (l.all p)) := by
  have HP := Lib.hid (kbelow_push w (.cells #[.func (.func fn) #[] lb] 33))
  have hp' : PredI fn lb p l (w.alloc (.cells #[.func (.func fn) #[] lb] 33)) := fun W x Ab nb cb Aa na ca hx hW hr hr2 => hp W x Ab nb cb Aa na ca hx (HP.out.trans (hW.mono HP.out.size)) hr hr2
  have HC := Lib.hid (conI_any 63 #[.pointer (some ⟨w.heap.size, 0, none⟩)] (fun x => !p x) (hg.on HP.out) (enters_of Tryz.func63 (by kernel_rfl) rfl) (notI_pred fn lb p l w.heap.size (by simp) (by simp) eg hp'))
  have HF := Lib.hid (all_any_not p l)
  clear hg hp hp'
  generalize (l.any fun x => !p x) = q at *
  go_enter Tryz.func27, Tryz.ntmps27
  go_wp2_with fail
  refine HC.out.mono ?_
  rintro e w2 ⟨rfl, hb2⟩
  have HB := Lib.hid (HP.out.trans (hb2.mono HP.out.size))
  clear hb2
  go_wp2_with fail
  go_ret
  exact ⟨ret_bool HF.out, HB.out⟩
end Go.Proofs.YtmohefgdpddldaaGreatDoor
namespace Go.Proofs.YtmohefgdpddldaaGreatDoor
open Go.RowKit
open Y (Nd It noName)

/-- What is asked of a test of bytes. -/
def PredB (fn : Nat) (lb : Array Value) (p : Int → Bool) (l : List Int) (w : World) : Prop :=
  ∀ (W : World) (x : Int), x ∈ l → Below w.heap.size w W → Calls Tryz.prog fn (#[.int .u8 x] ++ lb) W (BooK W (p x))
set_option maxHeartbeats 1000000 in
theorem idxB_any {w : World} {A : Option Addr} {n c : Nat} {l : List Int} (fn : Nat) (lb : Array Value) (p : Int → Bool) (hg : RdK .u8 w w.heap.size A n c l) (eg : ∀ args w, (callFunc fn args).run Tryz.prog w = .ok (.enter fn args) w) (hp : PredB fn lb p l w) :
    Calls Tryz.prog 123 #[.slice A n c, .func (.func fn) #[] lb] w (IdxP w (l.any p)) := by
  have hn := hg.small
  have HG := Lib.hid hg
  have HP := Lib.hid hp
  have HL := Lib.hid hg.len
  clear hg hp
  go_enter Tryz.func123, Tryz.ntmps123
  go_wp2_with fail
  go_loopw [8] (fun i wr => ∃ k : Nat, k ≤ n ∧ i = .int .i64 k ∧ Hid (∀ j x, j < k → l[j]? = some x → p x = false) ∧ Hid (Below w.heap.size w wr)) (fun i _ => n - (intOf i).toNat)
  case atStart => exact ⟨0, Nat.zero_le _, rfl, fun j h hj => absurd hj (by omega), Below.refl _ _⟩
  case round =>
    obtain ⟨k, hk, rfl, HN, HB⟩ := hrel
    by_cases hlt : k < n
    · obtain ⟨b1, o1, x, rfl, hb1, hx, s0⟩ := (HG.out.on HB.out).got hlt
      have HX := Lib.hid hx
      have hcall := HP.out wr x (List.mem_of_getElem? hx) HB.out
      have hj0 : (0 : Int) ≤ (k : Int) := by omega
      have hj1 : (k : Int) < (n : Int) := by omega
      clear hx hb1
      cases hpx : p x
      · rw [hpx] at hcall
        have HF : Hid (∀ j y, j < k + 1 → l[j]? = some y → p y = false) := fun j y hj hy => by
          by_cases e : j = k
          · subst e; rw [HX.out] at hy; injection hy with hy; subst hy; exact hpx
          · exact HN.out j y (by omega) hy
        have HC := Lib.hid hcall
        clear hpx hcall HN
        go_wp2_with fail
        refine HC.out.mono ?_
        rintro e w2 ⟨rfl, hb2⟩
        have HB2 := Lib.hid (HB.out.trans (hb2.mono HB.out.size))
        clear hb2
        go_wp2_with fail
        go_roundw
        case rel => exact ⟨k + 1, by omega, by go_num, HF.out, HB2.out⟩
        case measure => simp [intOf]; omega
      · rw [hpx] at hcall
        have HF := Lib.hid (any_yes (p := p) HX.out hpx)
        have HC := Lib.hid hcall
        clear hpx hcall HN
        go_wp2_with fail
        refine HC.out.mono ?_
        rintro e w2 ⟨rfl, hb2⟩
        have HB2 := Lib.hid (HB.out.trans (hb2.mono HB.out.size))
        clear hb2
        go_wp2_with fail
        go_ret
        exact ⟨k, rfl, by rw [HF.out]; simp, HB2.out⟩
    · have HF := Lib.hid (any_no (p := p) (n := k) (by have := HL.out; omega) HN.out)
      clear HN
      go_wp2_with fail
      go_ret
      exact ⟨-1, rfl, by rw [HF.out]; rfl, HB.out⟩
set_option maxHeartbeats 1000000 in
theorem conB_any {w : World} {A : Option Addr} {n c : Nat} {l : List Int} (fn : Nat) (lb : Array Value) (p : Int → Bool) (hg : RdK .u8 w w.heap.size A n c l) (eg : ∀ args w, (callFunc fn args).run Tryz.prog w = .ok (.enter fn args) w) (hp : PredB fn lb p l w) :
    Calls Tryz.prog 101 #[.slice A n c, .func (.func fn) #[] lb] w (BooK w (l.any p)) := by
  have HC := Lib.hid (idxB_any fn lb p hg eg hp)
  clear hg hp
  go_enter Tryz.func101, Tryz.ntmps101
  go_wp2_with fail
  refine HC.out.mono ?_
  rintro e w2 ⟨i, rfl, hi, hb⟩
  have HB := Lib.hid hb
  have HI := Lib.hid hi
  clear hb hi
  go_wp2_with fail
  go_ret
  exact ⟨ret_bool HI.out, HB.out⟩
/-- The test turned round, as all hands it on: it has the test in a cell of its own. -/
theorem notB_pred {w : World} (fn : Nat) (lb : Array Value) (p : Int → Bool) (l : List Int) (b : Nat) (hb : b < w.heap.size) (hc : w.cell? ⟨b, 0, none⟩ = some (.func (.func fn) #[] lb)) (eg : ∀ args w, (callFunc fn args).run Tryz.prog w = .ok (.enter fn args) w) (hp : PredB fn lb p l w) :
    PredB 102 #[.pointer (some ⟨b, 0, none⟩)] (fun x => !p x) l w := fun W x hx hW => by
  have hc' : W.cell? ⟨b, 0, none⟩ = some (.func (.func fn) #[] lb) := (hW.cell (p := ⟨b, 0, none⟩) hb).trans hc
  have HC := Lib.hid (hp _ x hx hW)
  have hb' : b < W.heap.size := Nat.lt_of_lt_of_le hb hW.size
  clear hW hc hp
  go_enter Tryz.func102, Tryz.ntmps102
  go_wp2_with fail
  refine HC.out.mono ?_
  rintro e w2 ⟨rfl, hb2⟩
  have HB := Lib.hid hb2
  clear hb2
  go_wp2_with fail
  go_ret
  exact ⟨rfl, HB.out⟩
theorem allB_any {w : World} {A : Option Addr} {n c : Nat} {l : List Int} (fn : Nat) (lb : Array Value) (p : Int → Bool) (hg : RdK .u8 w w.heap.size A n c l) (eg : ∀ args w, (callFunc fn args).run Tryz.prog w = .ok (.enter fn args) w) (hp : PredB fn lb p l w) :
    Calls Tryz.prog 69 #[.slice A n c, .func (.func fn) #[] lb] w (BooK w (l.all p)) := by
  have HP := Lib.hid (kbelow_push w (.cells #[.func (.func fn) #[] lb] 89))
  have hp' : PredB fn lb p l (w.alloc (.cells #[.func (.func fn) #[] lb] 89)) := fun W x hx hW => hp W x hx (HP.out.trans (hW.mono HP.out.size))
  have HC := Lib.hid (conB_any 102 #[.pointer (some ⟨w.heap.size, 0, none⟩)] (fun x => !p x) (hg.on HP.out) (enters_of Tryz.func102 (by kernel_rfl) rfl) (notB_pred fn lb p l w.heap.size (by simp) (by simp) eg hp'))
  have HF := Lib.hid (all_any_not p l)
  clear hg hp hp'
  generalize (l.any fun x => !p x) = q at *
  go_enter Tryz.func69, Tryz.ntmps69
  go_wp2_with fail
  refine HC.out.mono ?_
  rintro e w2 ⟨rfl, hb2⟩
  have HB := Lib.hid (HP.out.trans (hb2.mono HP.out.size))
  clear hb2
  go_wp2_with fail
  go_ret
  exact ⟨ret_bool HF.out, HB.out⟩
end Go.Proofs.YtmohefgdpddldaaGreatDoor
namespace Go.Proofs.YtmohefgdpddldaaGreatDoor
open Go.RowKit
open E (okb encB)

theorem info_i64 : (Tryz.prog.info? 3).map (fun i => (i.zero, i.size, i.bytes)) = some (some (.int .i64 0), 1, 8) := by kernel_rfl
/-- A fresh slice of numbers, given back alone. -/
def NewK (k : IntKind) (w : World) (L : List Int) (e : Ending) (w' : World) : Prop := ∃ A n c, e = .returned (.slice A n c) ∧ RdK k w' w'.heap.size A n c L ∧ Below w.heap.size w w'
def Byt (L : List Int) : Prop := ∀ x ∈ L, 0 ≤ x ∧ x < 256
theorem Byt.take {L : List Int} (h : Byt L) (m : Nat) : Byt (L.take m) := fun x hx => h x (List.mem_of_mem_take hx)
theorem Byt.drop {L : List Int} (h : Byt L) (m : Nat) : Byt (L.drop m) := fun x hx => h x (List.mem_of_mem_drop hx)
theorem enc_byt (c : Int) : Byt (encB c) := fun _ hx => E.enc_byte hx
end Go.Proofs.YtmohefgdpddldaaGreatDoor
namespace Go.Proofs.YtmohefgdpddldaaGreatDoor
open Go.RowKit
open W (dgB ltB smB nmB markB signK many valN)

theorem letter_any (c : Int) (w : World) : Calls Tryz.prog 68 #[.int .i64 c] w fun e w' => e = .returned (.bool (ltB c)) ∧ w = w' := by
  go_enter Tryz.func68, Tryz.ntmps68
  go_wp2
  all_goals
    go_ret
    refine ⟨ret_bool ?_, rfl⟩
    rw [Bool.eq_iff_iff]
    simp [ltB]
    try omega
end Go.Proofs.YtmohefgdpddldaaGreatDoor
namespace Go.Proofs.YtmohefgdpddldaaGreatDoor
open Go.RowKit
open W (dgB many valN partN numB)

theorem RdK.mid {k : IntKind} {w : World} {B n c : Nat} {b off : Nat} {L : List Int} (h : RdK k w B (some ⟨b, off, none⟩) n c L) {lo m : Nat} (hm : lo + m ≤ n) : RdK k w B (some ⟨b, off + lo, none⟩) m (c - lo) ((L.drop lo).take m) :=
  ⟨by rw [List.length_take, List.length_drop, h.len]; omega, by have := h.cap; omega, by have := h.capm; omega, fun h0 => by
    obtain ⟨b', off', e, hb, hc⟩ := h.at_ (by omega)
    injection e with e; injection e with e1 e2 _; subst e1 e2
    refine ⟨b, off + lo, rfl, hb, fun j x hx => ?_⟩
    have hj : j < m := by have := (List.getElem?_eq_some_iff.1 hx).1; rw [List.length_take] at this; omega
    rw [List.getElem?_take_of_lt hj, List.getElem?_drop] at hx
    rw [Nat.add_assoc]; exact hc _ x hx⟩
end Go.Proofs.YtmohefgdpddldaaGreatDoor
namespace Go.Proofs.YtmohefgdpddldaaGreatDoor
open Go.RowKit
open Q (isC plainB digV R numS uS escS readS textB flatT PIs)

/-- A string of these bytes. -/
structure StrIs (s : ByteArray) (S : List Int) : Prop where
  eq : s = strOfNums S
  byt : ∀ x ∈ S, 0 ≤ x ∧ x < 256
theorem StrIs.size {s : ByteArray} {S : List Int} (h : StrIs s S) : s.size = S.length := by rw [h.eq, strOfNums_size]
theorem StrIs.get {s : ByteArray} {S : List Int} (h : StrIs s S) {k : Nat} {x : Int} (hx : S[k]? = some x) (hh : k < s.size) : ((s[k]'hh).toNat : Int) = x := by
  have hb := h.byt x (List.mem_of_getElem? hx)
  have e : s.data.toList = S.map fun n => UInt8.ofNat n.toNat := by rw [h.eq, strOfNums_data]
  have h1 : s.data.toList[k]? = some (UInt8.ofNat x.toNat) := by rw [e]; simp [hx]
  have h2 : s[k]'hh = UInt8.ofNat x.toNat := by
    have h3 : s.data[k]? = some (UInt8.ofNat x.toNat) := by simpa using h1
    have h4 : s.data[k]? = some (s[k]'hh) := Array.getElem?_eq_getElem (by simpa using hh)
    rw [h4] at h3
    exact Option.some.inj h3
  rw [h2]; simp; omega
theorem StrIs.cut {s : ByteArray} {S : List Int} (h : StrIs s S) (i j : Nat) : s.extract i j = strOfNums ((S.drop i).take (j - i)) := by
  apply ByteArray.ext
  apply Array.ext'
  rw [ByteArray.data_extract, Array.toList_extract, h.eq, strOfNums_data, strOfNums_data]
  simp [List.extract_eq_take_drop]
theorem read_errs {l : List Int} {p : Nat} {e : Int} (h : readS l p = .bad e) : e = 5 ∨ e = 6 := by
  have hn : ∀ (l : List Int) (d : Nat) (v : Int) (p : Nat) (e : Int), numS l d v p = .bad e → e = 5 ∨ e = 6 := by
    intro l
    induction l with
    | nil => intro d v p e h; simp [Q.numS] at h; omega
    | cons x t ih =>
      intro d v p e h
      rw [Q.numS] at h
      split at h
      · cases h
      · split at h
        · injection h with h; omega
        · exact ih _ _ _ _ h
  cases l with
  | nil => simp [Q.readS] at h; omega
  | cons x t =>
    rw [Q.readS] at h
    split at h
    · cases t with
      | nil => simp [Q.escS] at h; omega
      | cons y u =>
        rw [Q.escS] at h
        split at h
        · cases u with
          | nil => simp [Q.uS] at h; omega
          | cons z o =>
            rw [Q.uS] at h
            split at h
            · exact hn _ _ _ _ _ h
            · injection h with h; omega
        · split at h
          · cases h
          · split at h
            · cases h
            · split at h
              · cases h
              · injection h with h; omega
    · split at h
      · cases h
      · injection h with h; omega
end Go.Proofs.YtmohefgdpddldaaGreatDoor
namespace Go.Proofs.YtmohefgdpddldaaGreatDoor
open Go.RowKit
open W (dgB smB many numB noBl lettersB allowB)

theorem sm_iff (c : Int) : smB c = true ↔ 97 ≤ c ∧ c ≤ 122 := by unfold W.smB; exact decide_eq_true_iff
set_option maxHeartbeats 1000000 in
theorem letters_any {w : World} {s : ByteArray} {S : List Int} (h : StrIs s S) (hn : S.length ≤ 140737488355328) :
    Calls Tryz.prog 34 #[.string s] w fun e w' => e = .returned (.bool (lettersB S)) ∧ w = w' := by
  have HS := Lib.hid h
  have hsz := h.size
  generalize hl : S.length = n at hn hsz
  have HL := Lib.hid hl
  clear h hl
  go_enter Tryz.func34, Tryz.ntmps34
  go_wp2_with fail
  go_loopw [6] (fun iv wx => ∃ k : Nat, k ≤ n ∧ iv = .int .i64 k ∧ w = wx ∧ Hid (∀ j x, j < k → S[j]? = some x → smB x = true)) (fun iv _ => n - (intOf iv).toNat)
  case atStart => exact ⟨0, by omega, rfl, by trivial, fun j x hj => by omega⟩
  case round =>
    obtain ⟨k, hk, rfl, rfl, HD⟩ := hrel
    by_cases hlt : k < n
    · obtain ⟨x, hx⟩ : ∃ x, S[k]? = some x := ⟨S[k]'(by rw [HL.out]; exact hlt), List.getElem?_eq_getElem _⟩
      have g1 := HS.out.get hx
      obtain ⟨x0, x1⟩ := HS.out.byt x (List.mem_of_getElem? hx)
      have HX := Lib.hid hx
      clear hx
      have hlt2 : k < s.size := by omega
      by_cases hb : 97 ≤ x ∧ x ≤ 122
      · have HD2 : Hid (∀ j y, j < k + 1 → S[j]? = some y → smB y = true) := fun j y hj hy => by
          rcases Nat.lt_or_ge j k with h1 | h1
          · exact HD.out j y h1 hy
          · obtain rfl : j = k := by omega
            rw [HX.out] at hy; injection hy with hy; subst hy; exact (sm_iff x).2 hb
        obtain ⟨b1, b2⟩ := hb
        clear HD
        go_wp2_with fail
        go_roundw
        case rel => exact ⟨k + 1, by omega, by go_num, by trivial, HD2.out⟩
        case measure => simp [intOf]; omega
      · have HF : Hid (lettersB S = false) := by
          show _ = _
          unfold W.lettersB
          have : S.all smB = false := by
            rw [← Bool.not_eq_true]
            intro h
            exact hb ((sm_iff x).1 (List.all_eq_true.1 h x (List.mem_of_getElem? HX.out)))
          rw [this]; rfl
        have hb2 : x < 97 ∨ ¬ x < 97 ∧ 122 < x := by omega
        clear hb
        rcases hb2 with hb2 | ⟨hb2, hb3⟩
        · go_wp2_with fail
          go_ret
          exact ⟨ret_bool HF.out.symm, rfl⟩
        · go_wp2_with fail
          go_ret
          exact ⟨ret_bool HF.out.symm, rfl⟩
    · obtain rfl : k = n := by omega
      have HA : Hid (lettersB S = (decide (1 ≤ k) && decide (k ≤ 16))) := by
        show _ = _
        unfold W.lettersB
        have : S.all smB = true := List.all_eq_true.2 fun x hx => by
          obtain ⟨j, hj, e⟩ := List.getElem_of_mem hx
          exact HD.out j x (by rw [← HL.out]; exact hj) (by rw [List.getElem?_eq_getElem hj, e])
        rw [this, HL.out]; rfl
      clear HD
      by_cases h1 : 1 ≤ k
      · rw [decide_eq_true h1, Bool.true_and] at HA
        go_wp2_with fail
        go_ret
        exact ⟨ret_bool (by rw [HA.out, Bool.eq_iff_iff]; simp; try omega), rfl⟩
      · rw [decide_eq_false h1] at HA
        obtain rfl : k = 0 := by omega
        go_wp2_with fail
        go_ret
        exact ⟨ret_bool HA.out.symm, rfl⟩
end Go.Proofs.YtmohefgdpddldaaGreatDoor
namespace Go.Proofs.YtmohefgdpddldaaGreatDoor
open Go.RowKit
open Y (Nd It noName)
open K (numsOf nameB twoB threeB aloneB endK pairB inS inF nosB deepB rightB noneB numOk mayB)

theorem str_none {s : ByteArray} (h : s.size = 0) : s.toList = [] := by
  rw [Lib.toList_data]
  exact List.eq_nil_of_length_eq_zero h
theorem str_some {s : ByteArray} (h : s.size ≠ 0) : s.toList.isEmpty = false := by
  rw [Lib.toList_data]
  have h2 : s.data.toList.length ≠ 0 := h
  cases h3 : s.data.toList with
  | nil => rw [h3] at h2; exact absurd rfl h2
  | cons => rfl
theorem beqd (a b : Int) : (a == b) = decide (a = b) := by rw [Bool.eq_iff_iff]; simp
theorem strIs_nums (s : ByteArray) : StrIs s (numsOf s) := ⟨(K.strOf_numsOf s).symm, K.numsOf_byte s⟩
set_option maxHeartbeats 1000000 in
theorem alone_any {x : Nd} {w : World} {A : Option Addr} {n c : Nat} :
    Calls Tryz.prog 72 #[.agg #[.int .i64 x.kind, .string x.name, .int .i64 x.low, .int .i64 x.high, .slice A n c]] w (BooK w (aloneB x.name x.low x.high)) := by
  have HP := Lib.hid (kbelow_push w (.cells #[.int .i64 x.kind, .string x.name, .int .i64 x.low, .int .i64 x.high, .slice A n c] 24))
  by_cases h1 : x.name.size = 0
  · have g1 := str_none h1
    have HF : Hid (aloneB x.name x.low x.high = ((x.low == 0) && (x.high == 0))) := by unfold K.aloneB; rw [decide_eq_true h1, beqd, beqd]; rfl
    clear h1
    cases h2 : (x.low == 0) with
    | true =>
      rw [h2] at HF
      go_enter Tryz.func72, Tryz.ntmps72
      go_wp2_with fail
      go_ret
      exact ⟨ret_bool HF.out.symm, HP.out⟩
    | false =>
      rw [h2] at HF
      go_enter Tryz.func72, Tryz.ntmps72
      go_wp2_with fail
      go_ret
      exact ⟨ret_bool HF.out.symm, HP.out⟩
  · have g1 := str_some h1
    have HF : Hid (aloneB x.name x.low x.high = false) := by unfold K.aloneB; rw [decide_eq_false h1]; rfl
    clear h1
    go_enter Tryz.func72, Tryz.ntmps72
    go_wp2_with fail
    go_ret
    exact ⟨ret_bool HF.out.symm, HP.out⟩
theorem ofTwo_any (k : Int) (w : World) : Calls Tryz.prog 135 #[.int .i64 k] w fun e w' => e = .returned (.bool (twoB k)) ∧ w = w' := by
  go_enter Tryz.func135, Tryz.ntmps135
  go_wp2
  all_goals
    go_ret
    refine ⟨ret_bool ?_, rfl⟩
    rw [Bool.eq_iff_iff]
    unfold K.twoB
    simp
    try omega
theorem isNumber_any (k : Int) (w : World) : Calls Tryz.prog 33 #[.int .i64 k] w fun e w' => e = .returned (.bool (numOk k)) ∧ w = w' := by
  go_enter Tryz.func33, Tryz.ntmps33
  go_wp2
  all_goals
    go_ret
    refine ⟨ret_bool ?_, rfl⟩
    rw [Bool.eq_iff_iff]
    unfold K.numOk
    simp
    try omega
set_option maxHeartbeats 1000000 in
theorem none_any {x : Nd} {w : World} {A : Option Addr} {n c : Nat} (hn : x.kids.length = n) :
    Calls Tryz.prog 32 #[.agg #[.int .i64 x.kind, .string x.name, .int .i64 x.low, .int .i64 x.high, .slice A n c]] w (BooK w (noneB x)) := by
  have HP := Lib.hid (kbelow_push w (.cells #[.int .i64 x.kind, .string x.name, .int .i64 x.low, .int .i64 x.high, .slice A n c] 24))
  have HROW := Lib.hid (heap_alloc_new w (.cells #[.int .i64 x.kind, .string x.name, .int .i64 x.low, .int .i64 x.high, .slice A n c] 24))
  have hz : (w.alloc (.cells #[.int .i64 x.kind, .string x.name, .int .i64 x.low, .int .i64 x.high, .slice A n c] 24)).heap.size = w.heap.size + 1 := by simp
  have HF : Hid (noneB x = ((x.kind == 0) && aloneB x.name x.low x.high && ((n : Int) == 0))) := by
    show _ = _
    unfold K.noneB; rw [hn, beqd, beqd]
    congr 1
    rw [Bool.eq_iff_iff]; simp
  clear hn
  cases h1 : (x.kind == 0) with
  | true =>
    rw [h1] at HF
    have HC := Lib.hid (alone_any (x := x) (w := w.alloc (.cells #[.int .i64 x.kind, .string x.name, .int .i64 x.low, .int .i64 x.high, .slice A n c] 24)) (A := A) (n := n) (c := c))
    generalize aloneB x.name x.low x.high = q at *
    go_enter Tryz.func32, Tryz.ntmps32
    go_wp2_with fail
    generalize w.alloc (.cells #[.int .i64 x.kind, .string x.name, .int .i64 x.low, .int .i64 x.high, .slice A n c] 24) = W1 at *
    refine HC.out.mono ?_
    rintro e w2 ⟨rfl, hb2⟩
    have HB := Lib.hid (HP.out.trans (hb2.mono HP.out.size))
    obtain ⟨r0, r1, r2, r3, r4⟩ := cells5 ((hb2.block w.heap.size (by omega)).trans HROW.out)
    clear hb2 HC HP
    cases q with
    | true =>
      go_wp2_with fail
      go_ret
      exact ⟨ret_bool HF.out.symm, HB.out⟩
    | false =>
      go_wp2_with fail
      go_ret
      exact ⟨ret_bool HF.out.symm, HB.out⟩
  | false =>
    rw [h1] at HF
    go_enter Tryz.func32, Tryz.ntmps32
    go_wp2_with fail
    go_ret
    exact ⟨ret_bool HF.out.symm, HP.out⟩
/-- The bytes of a text, in memory of their own. -/
theorem bytes_rd (w : World) (e : TypeId) (s : ByteArray) (hs : s.size ≤ maxLen) : RdK .u8 (Lib.bytesWorld w e s) (Lib.bytesWorld w e s).heap.size (some ⟨w.heap.size, 0, none⟩) s.size (grownCap w s.size 0 e) (numsOf s) := by
  refine ⟨K.numsOf_len s, grownCap_ge _ _ _ _, grownCap_le_maxLen _ _ _ _ hs, fun _ => ⟨w.heap.size, 0, rfl, by rw [Lib.bytesWorld_size]; omega, fun j x hx => ?_⟩⟩
  have hj : j < s.size := by have := (List.getElem?_eq_some_iff.1 hx).1; rw [K.numsOf_len] at this; exact this
  rw [Nat.zero_add, Lib.bytesWorld_cell w e s j hj]
  unfold K.numsOf at hx
  rw [List.getElem?_map] at hx
  obtain ⟨b, hb, rfl⟩ := Option.map_eq_some_iff.1 hx
  rw [List.getD_eq_getElem?_getD, hb]; rfl
theorem bytes_below (w : World) (e : TypeId) (s : ByteArray) : Below w.heap.size w (Lib.bytesWorld w e s) := by
  unfold Lib.bytesWorld
  exact Lib.below_freeze ((Below.drew (Below.refl _ w)).alloc (Nat.le_refl _) _) (p := ⟨w.heap.size, _, none⟩) (Nat.le_refl _) _
end Go.Proofs.YtmohefgdpddldaaGreatDoor
namespace Go.Proofs.YtmohefgdpddldaaGreatDoor
open Go.RowKit
open Q (isC plainB digV)

theorem rplain_any (c : Int) (w : World) : Calls Tryz.prog 74 #[.int .i64 c] w fun e w' => e = .returned (.bool (plainB c)) ∧ w = w' := by
  go_enter Tryz.func74, Tryz.ntmps74
  go_wp2
  all_goals
    go_ret
    refine ⟨ret_bool ?_, rfl⟩
    rw [Bool.eq_iff_iff, Q.plain_iff]
    simp
    try omega
end Go.Proofs.YtmohefgdpddldaaGreatDoor
namespace Go.Proofs.YtmohefgdpddldaaGreatDoor
open Go.RowKit
open Q (isC plainB digV hexF dig textB)

theorem str_app (a b : List Int) : strOfNums a ++ strOfNums b = strOfNums (a ++ b) := by
  apply ByteArray.ext
  apply Array.ext'
  rw [ByteArray.data_append, Array.toList_append, strOfNums_data, strOfNums_data, strOfNums_data, List.map_append]
theorem run_str_add {P : Program} (a b : List Int) (w : World) (h : a.length + b.length ≤ 9223372036854775807) : (Op.stringOp .add (strOfNums a) (strOfNums b)).run P w = .ok (.string (strOfNums (a ++ b))) w := by
  rw [run_string_add_sum w _ _ (by rw [strOfNums_size, strOfNums_size]; exact h), str_app]
theorem ret_str {a b : ByteArray} (h : a = b) : Ending.returned (.string a) = .returned (.string b) := by rw [h]
theorem hexF_one {n : Int} (f : Nat) (h : n < 16) : hexF (f + 1) n = [dig n] := by rw [hexF, if_pos h]
theorem hexF_more {n : Int} (f : Nat) (h : ¬ n < 16) : hexF (f + 1) n = hexF f (n / 16) ++ [dig (n % 16)] := by rw [hexF, if_neg h]
end Go.Proofs.YtmohefgdpddldaaGreatDoor
namespace Go.Proofs.YtmohefgdpddldaaGreatDoor
open Go.RowKit
open Q (isC plainB digV hexF dig textB)

/-- What Text answers. -/
def textV (c : Int) : List Int × Int := if isC c then (textB c, 0) else ([], 1)
def TextP (w : World) (c : Int) (e : Ending) (w' : World) : Prop := e = .returned (.tuple #[.string (strOfNums (textV c).1), .int .i64 (textV c).2]) ∧ Below w.heap.size w w'
theorem textP_no {w : World} {c : Int} (h : isC c = false) : TextP w c (.returned (.tuple #[.string ⟨#[]⟩, .int .i64 1])) w := ⟨by unfold textV; rw [h]; rfl, Below.refl _ _⟩
theorem textP_plain {w w' : World} {c : Int} (h : isC c = true) (hp : plainB c = true) (hb : Below w.heap.size w w') : TextP w c (.returned (.tuple #[.string (strOfNums [c]), .int .i64 0])) w' := ⟨by unfold textV; rw [h, Q.text_plain hp]; rfl, hb⟩
theorem textP_esc {w w' : World} {c : Int} (h : isC c = true) (hp : plainB c = false) (hb : Below w.heap.size w w') : TextP w c (.returned (.tuple #[.string (⟨#[92, 117, 123]⟩ ++ strOfNums (hexF 6 c) ++ ⟨#[125]⟩), .int .i64 0])) w' := by
  refine ⟨?_, hb⟩
  unfold textV
  rw [h, Q.text_esc hp]
  have e1 : (⟨#[92, 117, 123]⟩ : ByteArray) = strOfNums [92, 117, 123] := rfl
  have e2 : (⟨#[125]⟩ : ByteArray) = strOfNums [125] := rfl
  rw [e1, e2, str_app, str_app]
  rfl
/-- The one cell of the table of math/bits that is looked at. -/
def Tab (w : World) : Prop := w.cell? ⟨5, 15, none⟩ = some (.int .u8 4)
theorem Tab.on {w w' : World} (h : Tab w) (hb : Below w.heap.size w w') : Tab w' := (hb.cell (p := ⟨5, 15, none⟩) (klt_of_cell h)).trans h
theorem tz_any {w : World} (h : Tab w) : Calls Tryz.prog 156 #[.int .u64 16] w fun e w' => e = .returned (.int .i64 4) ∧ w = w' := by
  unfold Tab at h
  have g1 : bits BinOp.and IntKind.u64 16 (IntKind.u64.wrap (-16)) = 16 := by decide
  have g2 : IntKind.u64.wrap (16 * 285870213051353865) / 288230376151711744 = 15 := by decide
  go_enter Tryz.func156, Tryz.ntmps156
  go_wp2
  go_ret
  exact ⟨rfl, rfl⟩
theorem tz2_any {w : World} (h : Tab w) : Calls Tryz.prog 149 #[.int .u64 16] w fun e w' => e = .returned (.int .i64 4) ∧ w = w' := by
  have HC := Lib.hid (tz_any h)
  clear h
  go_enter Tryz.func149, Tryz.ntmps149
  go_wp2_with fail
  refine HC.out.mono ?_
  rintro e w1 ⟨rfl, rfl⟩
  go_wp2
  go_ret
  exact ⟨rfl, rfl⟩
theorem two_any (w : World) : Calls Tryz.prog 148 #[.int .i64 16] w fun e w' => e = .returned (.bool true) ∧ w = w' := by
  go_enter Tryz.func148, Tryz.ntmps148
  go_wp2
  go_ret
  exact ⟨rfl, rfl⟩
end Go.Proofs.YtmohefgdpddldaaGreatDoor
namespace Go.Proofs.YtmohefgdpddldaaGreatDoor
open Go.RowKit
open Q (isC plainB digV hexF dig textB)

theorem and15 {u : Int} (h0 : 0 ≤ u) (h1 : u ≤ 1114111) : bits .and .u64 u 15 = u % 16 := by
  rw [u64_and u 15 h0 (by omega) (by omega) (by omega)]
  have : u.toNat &&& 15 = u.toNat % 16 := Nat.and_two_pow_sub_one_eq_mod u.toNat 4
  show ((u.toNat &&& 15 : Nat) : Int) = _
  rw [this]; omega
theorem info_u8q : (Tryz.prog.info? 5).map (fun i => (i.zero, i.size, i.bytes)) = some (some (.int .u8 0), 1, 1) := by kernel_rfl
/-- The array under way: from place i on it holds the last digits. -/
structure Arr (w : World) (N : Nat) (n : Int) (u : Int) (i : Nat) (wx : World) : Prop where
  blk : ∃ cs, wx.heap[N]? = some (.cells cs 136 (0, 0)) ∧ cs.size = 65 ∧ ∃ f acc, hexF 6 n = hexF (f + 1) u ++ acc ∧ u < 16 ^ (f + 1) ∧ f + acc.length = 5 ∧ i + acc.length = 65 ∧ ∀ j x, acc[j]? = some x → cs[i + j]? = some (.int .u8 x)
  old : Below w.heap.size w wx
  new : w.heap.size ≤ N
theorem dig_at {d : Int} (h0 : 0 ≤ d) (h1 : d < 16) (hh : d.toNat < (⟨#[48, 49, 50, 51, 52, 53, 54, 55, 56, 57, 97, 98, 99, 100, 101, 102, 103, 104, 105, 106, 107, 108, 109, 110, 111, 112, 113, 114, 115, 116, 117, 118, 119, 120, 121, 122]⟩ : ByteArray).size) :
    (((⟨#[48, 49, 50, 51, 52, 53, 54, 55, 56, 57, 97, 98, 99, 100, 101, 102, 103, 104, 105, 106, 107, 108, 109, 110, 111, 112, 113, 114, 115, 116, 117, 118, 119, 120, 121, 122]⟩ : ByteArray)[d.toNat]'hh).toNat : Int) = dig d := by
  have : d = 0 ∨ d = 1 ∨ d = 2 ∨ d = 3 ∨ d = 4 ∨ d = 5 ∨ d = 6 ∨ d = 7 ∨ d = 8 ∨ d = 9 ∨ d = 10 ∨ d = 11 ∨ d = 12 ∨ d = 13 ∨ d = 14 ∨ d = 15 := by omega
  rcases this with rfl | rfl | rfl | rfl | rfl | rfl | rfl | rfl | rfl | rfl | rfl | rfl | rfl | rfl | rfl | rfl <;> rfl
section
variable {w wx : World} {N i : Nat} {n u : Int}
theorem Arr.cell (h : Arr w N n u (i + 1) wx) : (∃ v, wx.cell? ⟨N, i, none⟩ = some v) ∧ wx.frozen? ⟨N, i, none⟩ = false := by
  obtain ⟨cs, hb, hs, f, acc, h1, h2, h3, h4, h5⟩ := h.blk
  refine ⟨⟨cs[i]'(by omega), ?_⟩, frozen_of_row _ _ _ _ _ hb⟩
  rw [cell_of_row _ _ _ _ _ _ hb]
  exact Array.getElem?_eq_getElem (by omega)
theorem cells_set {cs : Array Value} {i : Nat} {acc : List Int} {d : Int} (hs : i < cs.size) (h : ∀ j x, acc[j]? = some x → cs[i + 1 + j]? = some (.int .u8 x)) :
    ∀ j x, (d :: acc)[j]? = some x → (cs.setIfInBounds i (.int .u8 d))[i + j]? = some (.int .u8 x) := by
  intro j x hx
  cases j with
  | zero =>
    simp at hx; subst hx
    simp [hs]
  | succ j =>
    have := h j x (by simpa using hx)
    rw [Array.getElem?_setIfInBounds_ne (by omega), show i + (j + 1) = i + 1 + j by omega]
    exact this
theorem Arr.step (h : Arr w N n u (i + 1) wx) (hu0 : 0 ≤ u) (hu : 16 ≤ u) : Arr w N n (u / 16) i (wx.setCell ⟨N, i, none⟩ (.int .u8 (dig (u % 16)))) := by
  obtain ⟨cs, hb, hs, f, acc, h1, h2, h3, h4, h5⟩ := h.blk
  refine ⟨⟨_, heap_setCell_same _ _ _ _ _ _ hb, by simp [hs], ?_⟩, h.old.setCell (p := ⟨N, i, none⟩) h.new _, h.new⟩
  cases f with
  | zero => simp at h2; omega
  | succ f =>
    refine ⟨f, dig (u % 16) :: acc, ?_, Q.div_lt h2, by simp; omega, by simp; omega, cells_set (by omega) h5⟩
    rw [h1, hexF_more (f + 1) (by omega)]; simp
theorem Arr.done (h : Arr w N n u (i + 1) wx) (hu0 : 0 ≤ u) (hu : u < 16) : RdK .u8 (wx.setCell ⟨N, i, none⟩ (.int .u8 (dig u))) (N + 1) (some ⟨N, i, none⟩) (65 - i) (65 - i) (hexF 6 n) := by
  obtain ⟨cs, hb, hs, f, acc, h1, h2, h3, h4, h5⟩ := h.blk
  rw [hexF_one f hu] at h1
  rw [h1]
  refine ⟨by simp; omega, Nat.le_refl _, by unfold maxLen; omega, fun _ => ⟨N, i, rfl, by omega, fun j x hx => ?_⟩⟩
  rw [cell_of_row _ _ _ _ _ _ (heap_setCell_same _ _ _ _ _ _ hb)]
  exact cells_set (by omega) h5 j x hx
theorem slice_arr (W : World) (N i : Nat) (h : i ≤ 64) : (Instr.sliceAt 136 (.pointer (some ⟨N, 0, none⟩)) (some (.int .i64 i)) none none).run Tryz.prog W = .ok (.slice (some ⟨N, i, none⟩) (65 - i) (65 - i)) W := by
  obtain ⟨i0, hi0, hz0, hz1, hz2⟩ := info_k info_u8q
  simp [Instr.sliceAt, Instr.sureAddr, run_underlying Tryz.underlying136, Instr.sliceBounds, run_sliceBound, sizeOf, typeInfo, hi0, hz1]
  rw [run_sliceBound (h0 := by omega) (h1 := by omega)]
  simp only [Result.andThen_ok, Int.toNat_natCast]
  rw [if_neg (by omega), kadd_none, Nat.zero_add]
end
theorem info_arr : (Tryz.prog.info? 136).map (fun i => i.zero) = some (some (.agg (Array.replicate 65 (.int .u8 0)))) := by kernel_rfl
theorem zero_arr (w : World) : (zeroValue 136).run Tryz.prog w = .ok (.agg (Array.replicate 65 (.int .u8 0))) w := by
  have h := info_arr
  cases hi : Tryz.prog.info? 136 with
  | none => rw [hi] at h; cases h
  | some i => rw [hi] at h; simp only [Option.map_some, Option.some.injEq] at h; simp [zeroValue, typeInfo, hi, h]
set_option maxHeartbeats 2000000 in
set_option maxRecDepth 100000 in
theorem bits_any {w : World} (hT : Tab w) {n : Int} (h0 : 0 ≤ n) (h1 : n ≤ 1114111) :
    Calls Tryz.prog 141 #[.slice none 0 0, .int .u64 n, .int .i64 16, .bool false, .bool false] w fun e w' => e = .returned (.tuple #[.slice none 0 0, .string (strOfNums (hexF 6 n))]) ∧ Below w.heap.size w w' := by
  have HT := Lib.hid hT
  clear hT
  have hz := zero_arr w
  generalize hcs : Array.replicate 65 (Value.int .u8 0) = cs0 at hz
  have HCS := Lib.hid hcs
  clear hcs
  go_enter Tryz.func141, Tryz.ntmps141
  go_wp2_with fail
  refine (two_any _).mono ?_
  rintro e w1 ⟨rfl, rfl⟩
  clear hz
  go_wp2_with fail
  refine (tz2_any (HT.out.on (kbelow_push _ _))).mono ?_
  rintro e w1 ⟨rfl, rfl⟩
  go_wp2_with fail
  go_loopw [1, 13] (fun uv iv wx => ∃ (u : Int) (i : Nat), 0 ≤ u ∧ u ≤ 1114111 ∧ i ≤ 64 ∧ 59 ≤ i ∧ uv = .int .u64 u ∧ iv = .int .i64 (i + 1) ∧ Hid (Arr w w.heap.size n u (i + 1) wx)) (fun uv _ _ => (intOf uv).toNat)
  case atStart => exact ⟨n, 64, h0, h1, by omega, by omega, rfl, rfl, ⟨cs0, heap_alloc_new w _, by rw [← HCS.out]; simp, 5, [], by simp, (Q.top_lt ((Q.isC_iff n).2 ⟨h0, h1⟩)).2, rfl, rfl, fun j x hx => by simp at hx⟩, kbelow_push _ _, Nat.le_refl _⟩
  case round =>
    obtain ⟨u, i, hu0, hu1, hi0, hi1, rfl, rfl, HA⟩ := hrel
    obtain ⟨⟨v, hc⟩, hf⟩ := HA.out.cell
    by_cases hlt : 16 ≤ u
    · have g1 := and15 hu0 hu1
      have b0 : 0 ≤ u % 16 := by omega
      have b1 : u % 16 < 16 := by omega
      have g2 := dig_at b0 b1
      have HN := Lib.hid (HA.out.step hu0 hlt)
      have hi2 : 60 ≤ i := by
        obtain ⟨cs, hb, hs, f, acc, h1, h2, h3, h4, h5⟩ := HN.out.blk
        omega
      go_wp2_with fail
      refine ⟨⟨u / 16, i - 1, by omega, by omega, by omega, by omega, rfl, by congr 1; omega, ?_⟩, ?_⟩
      · have e : i - 1 + 1 = i := by omega
        rw [e]
        exact HN.out
      · simp [intOf]; omega
    · have hlt' : u < 16 := by omega
      have g2 := dig_at hu0 hlt'
      have HN := Lib.hid (HA.out.done hu0 hlt')
      have HO := Lib.hid (HA.out.old.setCell (p := ⟨w.heap.size, i, none⟩) HA.out.new (.int .u8 (dig u)))
      have hsl := slice_arr (wr.setCell ⟨w.heap.size, i, none⟩ (.int .u8 (dig u))) w.heap.size i hi0
      have q1 := conv_any HN.out 41 5 9 Tryz.underlying41 Tryz.underlying5 Tryz.underlying9
      go_wp2_with fail
      go_ret2
      exact ⟨rfl, HO.out⟩
end Go.Proofs.YtmohefgdpddldaaGreatDoor
namespace Go.Proofs.YtmohefgdpddldaaGreatDoor
open Go.RowKit
open Q (isC plainB digV hexF dig textB)

def StrB (w : World) (L : List Int) (e : Ending) (w' : World) : Prop := e = .returned (.string (strOfNums L)) ∧ Below w.heap.size w w'
theorem fmt_in {w : World} (hT : Tab w) {n : Int} (h0 : 0 ≤ n) (h1 : n ≤ 1114111) : Calls Tryz.prog 131 #[.int .i64 n, .int .i64 16] w (StrB w (hexF 6 n)) := by
  have HT := Lib.hid hT
  clear hT
  have g0 : ¬ n < 0 := by omega
  go_enter Tryz.func131, Tryz.ntmps131
  go_wp2_with fail
  refine (bits_any HT.out h0 h1).mono ?_
  rintro e w1 ⟨rfl, hb⟩
  have HB := Lib.hid hb
  clear hb
  go_wp2_with fail
  go_ret
  exact ⟨rfl, HB.out⟩
theorem fmt_any {w : World} (hT : Tab w) {n : Int} (h0 : 0 ≤ n) (h1 : n ≤ 1114111) : Calls Tryz.prog 130 #[.int .i64 n, .int .i64 16] w (StrB w (hexF 6 n)) := by
  have HT := Lib.hid hT
  clear hT
  go_enter Tryz.func130, Tryz.ntmps130
  go_wp2_with fail
  refine (fmt_in HT.out h0 h1).mono ?_
  rintro e w1 ⟨rfl, hb⟩
  have HB := Lib.hid hb
  clear hb
  go_wp2_with fail
  go_ret
  exact ⟨rfl, HB.out⟩
theorem rune_one {c : Int} (h0 : 48 ≤ c) (h1 : c ≤ 122) : Utf8.encode c = strOfNums [c] := by
  have hv : Utf8.valid c = true := by unfold Utf8.valid; simp; omega
  unfold Utf8.encode
  simp only [hv, if_true]
  rw [if_pos (by omega)]
  rfl
set_option maxHeartbeats 1000000 in
theorem text_any (c : Int) {w : World} (hT : Tab w) : Calls Tryz.prog 114 #[.int .i64 c] w (TextP w c) := by
  have HT := Lib.hid hT
  clear hT
  have hcon0 := Lib.hid (isc_any c w)
  cases h : isC c with
  | false =>
    rw [h] at hcon0
    have HG := Lib.hid (textP_no (w := w) h)
    clear h
    go_enter Tryz.func114, Tryz.ntmps114
    go_wp2_with fail
    refine hcon0.out.mono ?_
    rintro e w1 ⟨rfl, rfl⟩
    go_wp2_with fail
    go_ret2
    exact HG.out
  | true =>
    rw [h] at hcon0
    have h' := (Q.isC_iff c).1 h
    have h0 := h'.1
    have h1 := h'.2
    have HC := Lib.hid h
    clear h h'
    have hcon := Lib.hid (plain_any c w)
    cases hp : plainB c with
    | true =>
      rw [hp] at hcon
      have hpb := (Q.plain_iff c).1 hp
      have c0 : 48 ≤ c := by omega
      have c1 : c ≤ 122 := by omega
      have HP := Lib.hid hp
      clear hp hpb
      have g1 := rune_one c0 c1
      go_enter Tryz.func114, Tryz.ntmps114
      go_wp2_with fail
      refine hcon0.out.mono ?_
      rintro e w1 ⟨rfl, rfl⟩
      go_wp2_with fail
      refine hcon.out.mono ?_
      rintro e w1 ⟨rfl, rfl⟩
      go_wp2_with fail
      go_ret2
      exact textP_plain HC.out HP.out (Below.refl _ _)
    | false =>
      rw [hp] at hcon
      have HP := Lib.hid hp
      clear hp
      have hl := Q.hex_len 6 c
      have hadd : ¬ 9223372036854775807 < 3 + (strOfNums (hexF 6 c)).size := by rw [strOfNums_size]; omega
      have hadd2 : ¬ 9223372036854775807 < 3 + (strOfNums (hexF 6 c)).size + 1 := by rw [strOfNums_size]; omega
      clear hl
      go_enter Tryz.func114, Tryz.ntmps114
      go_wp2_with fail
      refine hcon0.out.mono ?_
      rintro e w1 ⟨rfl, rfl⟩
      go_wp2_with fail
      refine hcon.out.mono ?_
      rintro e w1 ⟨rfl, rfl⟩
      go_wp2_with fail
      refine (fmt_any HT.out h0 h1).mono ?_
      rintro e w1 ⟨rfl, hb⟩
      have HB := Lib.hid hb
      clear hb
      go_wp2_with fail
      go_ret2
      exact textP_esc HC.out HP.out HB.out
end Go.Proofs.YtmohefgdpddldaaGreatDoor
namespace Go.Proofs
open Go.Shelf
def Tryz.layItoa_ren : Go.Shelf.Ren := ⟨fun | 171 => 97 | 243 => 118 | 246 => 131 | 283 => 138 | 284 => 139 | 285 => 140 | 286 => 141 | 129 => 146 | 317 => 145 | 318 => 147 | 319 => 148 | 320 => 149 | 337 => 155 | 338 => 156 | n => n, fun | 3 => 3 | 9 => 9 | 2 => 2 | 4 => 4 | 171 => 126 | 0 => 0 | 53 => 127 | 37 => 41 | 5 => 5 | 173 => 130 | 212 => 134 | 51 => 135 | 20 => 20 | 213 => 136 | 46 => 137 | 232 => 147 | 233 => 148 | n => n, fun | 17 => 0 | 18 => 4 | 19 => 5 | n => n⟩
theorem Tryz.layItoa : Go.Proofs.LaysM.n171 Tryz.prog Tryz.layItoa_ren := {
  mixed := by kernel_rfl
  f129 := Tryz.func146.trans (congrArg some (by kernel_rfl))
  f171 := Tryz.func97.trans (congrArg some (by kernel_rfl))
  f243 := Tryz.func118.trans (congrArg some (by kernel_rfl))
  f246 := Tryz.func131.trans (congrArg some (by kernel_rfl))
  f283 := Tryz.func138.trans (congrArg some (by kernel_rfl))
  f284 := Tryz.func139.trans (congrArg some (by kernel_rfl))
  f285 := Tryz.func140.trans (congrArg some (by kernel_rfl))
  f286 := Tryz.func141.trans (congrArg some (by kernel_rfl))
  f317 := Tryz.func145.trans (congrArg some (by kernel_rfl))
  f318 := Tryz.func147.trans (congrArg some (by kernel_rfl))
  f319 := Tryz.func148.trans (congrArg some (by kernel_rfl))
  f320 := Tryz.func149.trans (congrArg some (by kernel_rfl))
  f337 := Tryz.func155.trans (congrArg some (by kernel_rfl))
  f338 := Tryz.func156.trans (congrArg some (by kernel_rfl))
  t0 := Tryz.underlying0
  a0 := Tryz.isAgg0
  z0 := Tryz.sizeOf0
  v0 := Tryz.zeroValue0
  t2 := Tryz.underlying2
  a2 := Tryz.isAgg2
  z2 := Tryz.sizeOf2
  v2 := Tryz.zeroValue2
  t3 := Tryz.underlying3
  a3 := Tryz.isAgg3
  z3 := Tryz.sizeOf3
  v3 := Tryz.zeroValue3
  t4 := Tryz.underlying4
  a4 := Tryz.isAgg4
  z4 := Tryz.sizeOf4
  v4 := Tryz.zeroValue4
  t5 := Tryz.underlying5
  a5 := Tryz.isAgg5
  z5 := Tryz.sizeOf5
  v5 := Tryz.zeroValue5
  t9 := Tryz.underlying9
  a9 := Tryz.isAgg9
  z9 := Tryz.sizeOf9
  v9 := Tryz.zeroValue9
  t20 := Tryz.underlying20
  a20 := Tryz.isAgg20
  z20 := Tryz.sizeOf20
  v20 := Tryz.zeroValue20
  t37 := Tryz.underlying41
  a37 := Tryz.isAgg41
  z37 := Tryz.sizeOf41
  v37 := Tryz.zeroValue41
  t46 := Tryz.underlying137
  a46 := Tryz.isAgg137
  z46 := Tryz.sizeOf137
  v46 := Tryz.zeroValue137
  t51 := Tryz.underlying135
  a51 := Tryz.isAgg135
  z51 := Tryz.sizeOf135
  v51 := Tryz.zeroValue135
  t53 := Tryz.underlying127
  a53 := Tryz.isAgg127
  z53 := Tryz.sizeOf127
  v53 := Tryz.zeroValue127
  t171 := Tryz.underlying126
  a171 := Tryz.isAgg126
  z171 := Tryz.sizeOf126
  v171 := Tryz.zeroValue126
  t173 := Tryz.underlying130
  a173 := Tryz.isAgg130
  z173 := Tryz.sizeOf130
  v173 := Tryz.zeroValue130
  t212 := Tryz.underlying134
  a212 := Tryz.isAgg134
  z212 := Tryz.sizeOf134
  v212 := Tryz.zeroValue134
  t213 := Tryz.underlying136
  a213 := Tryz.isAgg136
  z213 := Tryz.sizeOf136
  t232 := Tryz.underlying147
  a232 := Tryz.isAgg147
  z232 := Tryz.sizeOf147
  v232 := Tryz.zeroValue147
  t233 := Tryz.underlying148
  a233 := Tryz.isAgg148
  z233 := Tryz.sizeOf148
  v233 := Tryz.zeroValue148
  g17 := by kernel_rfl
  g18 := by kernel_rfl
  g19 := by kernel_rfl
  i0 := by kernel_rfl
  i2 := by kernel_rfl
  i3 := by kernel_rfl
  i4 := by kernel_rfl
  i5 := by kernel_rfl
  i9 := by kernel_rfl
  i20 := by kernel_rfl
  i37 := by kernel_rfl
  i46 := by kernel_rfl
  i51 := by kernel_rfl
  i53 := by kernel_rfl
  i171 := by kernel_rfl
  i173 := by kernel_rfl
  i212 := by kernel_rfl
  i232 := by kernel_rfl
  i233 := by kernel_rfl
  m17 := by kernel_rfl
  m18 := by kernel_rfl
  m19 := by kernel_rfl }
def Tryz.layTrim_ren : Go.Shelf.Ren := ⟨fun | 162 => 98 | 232 => 119 | 227 => 120 | 234 => 121 | 236 => 122 | 228 => 132 | 271 => 133 | 151 => 134 | 120 => 142 | 197 => 143 | 152 => 144 | 260 => 150 | 137 => 151 | 119 => 152 | 224 => 153 | 225 => 154 | 217 => 157 | 266 => 158 | n => n, fun | 9 => 9 | 4 => 4 | 3 => 3 | 5 => 5 | 117 => 114 | 116 => 113 | 0 => 0 | 124 => 117 | 21 => 21 | 105 => 122 | 46 => 137 | 119 => 143 | 139 => 146 | 138 => 145 | n => n, fun | 3 => 1 | 4 => 2 | n => n⟩
theorem Tryz.layTrim : Go.Proofs.Lays.n162 Tryz.prog Tryz.layTrim_ren := {
  mixed := by kernel_rfl
  f119 := Tryz.func152.trans (congrArg some (by kernel_rfl))
  f120 := Tryz.func142.trans (congrArg some (by kernel_rfl))
  f137 := Tryz.func151.trans (congrArg some (by kernel_rfl))
  f151 := Tryz.func134.trans (congrArg some (by kernel_rfl))
  f152 := Tryz.func144.trans (congrArg some (by kernel_rfl))
  f162 := Tryz.func98.trans (congrArg some (by kernel_rfl))
  f197 := Tryz.func143.trans (congrArg some (by kernel_rfl))
  f217 := Tryz.func157.trans (congrArg some (by kernel_rfl))
  f224 := Tryz.func153.trans (congrArg some (by kernel_rfl))
  f225 := Tryz.func154.trans (congrArg some (by kernel_rfl))
  f227 := Tryz.func120.trans (congrArg some (by kernel_rfl))
  f228 := Tryz.func132.trans (congrArg some (by kernel_rfl))
  f232 := Tryz.func119.trans (congrArg some (by kernel_rfl))
  f234 := Tryz.func121.trans (congrArg some (by kernel_rfl))
  f236 := Tryz.func122.trans (congrArg some (by kernel_rfl))
  f260 := Tryz.func150.trans (congrArg some (by kernel_rfl))
  f266 := Tryz.func158.trans (congrArg some (by kernel_rfl))
  f271 := Tryz.func133.trans (congrArg some (by kernel_rfl))
  t0 := Tryz.underlying0
  a0 := Tryz.isAgg0
  z0 := Tryz.sizeOf0
  v0 := Tryz.zeroValue0
  t3 := Tryz.underlying3
  a3 := Tryz.isAgg3
  z3 := Tryz.sizeOf3
  v3 := Tryz.zeroValue3
  t4 := Tryz.underlying4
  a4 := Tryz.isAgg4
  z4 := Tryz.sizeOf4
  v4 := Tryz.zeroValue4
  t5 := Tryz.underlying5
  a5 := Tryz.isAgg5
  z5 := Tryz.sizeOf5
  v5 := Tryz.zeroValue5
  t9 := Tryz.underlying9
  a9 := Tryz.isAgg9
  z9 := Tryz.sizeOf9
  v9 := Tryz.zeroValue9
  t21 := Tryz.underlying21
  a21 := Tryz.isAgg21
  z21 := Tryz.sizeOf21
  v21 := Tryz.zeroValue21
  t46 := Tryz.underlying137
  a46 := Tryz.isAgg137
  z46 := Tryz.sizeOf137
  v46 := Tryz.zeroValue137
  t105 := Tryz.underlying122
  a105 := Tryz.isAgg122
  z105 := Tryz.sizeOf122
  v105 := Tryz.zeroValue122
  t116 := Tryz.underlying113
  a116 := Tryz.isAgg113
  z116 := Tryz.sizeOf113
  t117 := Tryz.underlying114
  a117 := Tryz.isAgg114
  z117 := Tryz.sizeOf114
  v117 := Tryz.zeroValue114
  t119 := Tryz.underlying143
  a119 := Tryz.isAgg143
  z119 := Tryz.sizeOf143
  t124 := Tryz.underlying117
  a124 := Tryz.isAgg117
  z124 := Tryz.sizeOf117
  v124 := Tryz.zeroValue117
  t138 := Tryz.underlying145
  a138 := Tryz.isAgg145
  z138 := Tryz.sizeOf145
  v138 := Tryz.zeroValue145
  t139 := Tryz.underlying146
  a139 := Tryz.isAgg146
  z139 := Tryz.sizeOf146
  v139 := Tryz.zeroValue146
  g3 := by kernel_rfl
  g4 := by kernel_rfl }
end Go.Proofs
namespace Go.Proofs.YtmohefgdpddldaaGreatDoor
open Go.RowKit
open Y (Nd It noName)
open K (numsOf threeB twoB behindT betweenT brkB rngT txt kidsT partT anyB)

theorem hex_byte : ∀ (f : Nat) (n : Int), 0 ≤ n → ∀ x ∈ Q.hexF f n, 0 ≤ x ∧ x < 256
  | 0, _, _ => fun x hx => by simp [Q.hexF] at hx
  | f + 1, n, h0 => fun x hx => by
    have hd : ∀ d : Int, 0 ≤ d → d < 16 → 0 ≤ Q.dig d ∧ Q.dig d < 256 := fun d h1 h2 => by unfold Q.dig; split <;> omega
    rw [Q.hexF] at hx
    split at hx
    · simp at hx; subst hx; exact hd n h0 (by omega)
    · rw [List.mem_append, List.mem_singleton] at hx
      rcases hx with hx | rfl
      · exact hex_byte f (n / 16) (by omega) x hx
      · exact hd _ (by omega) (by omega)
/-- What a pen holds, and what is kept: from world w on. -/
def Pen (B b : Nat) (L : List Int) (w w' : World) : Prop := Pn w' B b L ∧ Below B w w' ∧ Keeps ndB w w'
theorem Pen.refl {B b : Nat} {L : List Int} {w : World} (h : Pn w B b L) : Pen B b L w w := ⟨h, Below.refl _ _, Keeps.refl _ _⟩
theorem Pen.put {B b : Nat} {L M : List Int} {v : Value} {w w1 w2 : World} {e : Ending} (h : Pen B b L w w1) (k : PutV B b L M v w1 e w2) : Pen B b (L ++ M) w w2 := ⟨k.2.1, h.2.1.trans k.2.2.1, h.2.2.trans k.2.2.2⟩
theorem Pen.below {B b : Nat} {L : List Int} {w w1 w2 : World} (h : Pen B b L w w1) (hB : B ≤ w1.heap.size) (k : Below w1.heap.size w1 w2) : Pen B b L w w2 := ⟨h.1.below k, h.2.1.trans (k.mono hB), h.2.2.trans (Keeps.below k _)⟩
theorem Pen.drew {B b : Nat} {L : List Int} {w w1 : World} (h : Pen B b L w w1) : Pen B b L w w1.drew := ⟨h.1, kbelow_drewN h.2.1 1, h.2.2.trans (Keeps.drewN _ _ 1)⟩
theorem Pen.size {B b : Nat} {L : List Int} {w w1 : World} (h : Pen B b L w w1) : w.heap.size ≤ w1.heap.size := h.2.1.size
theorem Pen.out {B b : Nat} {L M N : List Int} {w w1 : World} (h : Pen B b N w w1) (e : N = L ++ M) : PutV B b L M (.tuple #[]) w (.returned (.tuple #[])) w1 := ⟨rfl, by rw [← e]; exact h.1, h.2.1, h.2.2⟩
def betweenS (k : Int) : Value := if k = 9 then .string ⟨#[32, 124, 32]⟩ else if k = 6 then .string ⟨#[38]⟩ else if k = 7 then .string ⟨#[45]⟩ else .string ⟨#[32]⟩
def behindS (k : Int) : Value := if k = 10 then .string ⟨#[42]⟩ else if k = 11 then .string ⟨#[43]⟩ else if k = 12 then .string ⟨#[63]⟩ else .string ⟨#[]⟩
theorem betweenS_is (k : Int) : ∃ s, betweenS k = .string s ∧ numsOf s = betweenT k ∧ s.size ≤ 3 := by
  unfold betweenS K.betweenT
  by_cases h9 : k = 9
  · rw [if_pos h9, if_pos h9]; exact ⟨_, rfl, rfl, by decide⟩
  · rw [if_neg h9, if_neg h9]
    by_cases h6 : k = 6
    · rw [if_pos h6, if_pos h6]; exact ⟨_, rfl, rfl, by decide⟩
    · rw [if_neg h6, if_neg h6]
      by_cases h7 : k = 7
      · rw [if_pos h7, if_pos h7]; exact ⟨_, rfl, rfl, by decide⟩
      · rw [if_neg h7, if_neg h7]; exact ⟨_, rfl, rfl, by decide⟩
theorem behindS_is (k : Int) : ∃ s, behindS k = .string s ∧ numsOf s = behindT k ∧ s.size ≤ 1 ∧ (s.toList.isEmpty = !threeB k) ∧ ((s.toList == []) = !threeB k) := by
  unfold behindS K.behindT K.threeB
  by_cases h9 : k = 10
  · rw [if_pos h9, if_pos h9]; exact ⟨_, rfl, rfl, by decide, by simp [h9], by simp [h9]⟩
  · rw [if_neg h9, if_neg h9]
    by_cases h6 : k = 11
    · rw [if_pos h6, if_pos h6]; exact ⟨_, rfl, rfl, by decide, by simp [h6], by simp [h6]⟩
    · rw [if_neg h6, if_neg h6]
      by_cases h7 : k = 12
      · rw [if_pos h7, if_pos h7]; exact ⟨_, rfl, rfl, by decide, by simp [h7], by simp [h7]⟩
      · rw [if_neg h7, if_neg h7]; exact ⟨_, rfl, rfl, by decide, by simp [h9, h6, h7], by simp [h9, h6, h7]⟩
theorem between_any (k : Int) (w : World) : Calls Tryz.prog 92 #[.int .i64 k] w fun e w' => e = .returned (betweenS k) ∧ w = w' := by
  by_cases h9 : k = 9
  · subst h9
    go_enter Tryz.func92, Tryz.ntmps92
    go_wp2_with fail
    go_ret
    exact ⟨rfl, rfl⟩
  · have g9 : (k == 9) = false := by simpa using h9
    by_cases h6 : k = 6
    · subst h6
      go_enter Tryz.func92, Tryz.ntmps92
      go_wp2_with fail
      go_ret
      exact ⟨rfl, rfl⟩
    · have g6 : (k == 6) = false := by simpa using h6
      by_cases h7 : k = 7
      · subst h7
        go_enter Tryz.func92, Tryz.ntmps92
        go_wp2_with fail
        go_ret
        exact ⟨rfl, rfl⟩
      · have g7 : (k == 7) = false := by simpa using h7
        have HE : Hid (Ending.returned (betweenS k) = .returned (.string ⟨#[32]⟩)) := by show _ = _; unfold betweenS; rw [if_neg h9, if_neg h6, if_neg h7]
        clear h9 h6 h7
        go_enter Tryz.func92, Tryz.ntmps92
        go_wp2_with fail
        go_ret
        exact ⟨HE.out.symm, rfl⟩
theorem behind_any (k : Int) (w : World) : Calls Tryz.prog 57 #[.int .i64 k] w fun e w' => e = .returned (behindS k) ∧ w = w' := by
  by_cases h10 : k = 10
  · subst h10
    go_enter Tryz.func57, Tryz.ntmps57
    go_wp2_with fail
    go_ret
    exact ⟨rfl, rfl⟩
  · have g10 : (k == 10) = false := by simpa using h10
    by_cases h11 : k = 11
    · subst h11
      go_enter Tryz.func57, Tryz.ntmps57
      go_wp2_with fail
      go_ret
      exact ⟨rfl, rfl⟩
    · have g11 : (k == 11) = false := by simpa using h11
      by_cases h12 : k = 12
      · subst h12
        go_enter Tryz.func57, Tryz.ntmps57
        go_wp2_with fail
        go_ret
        exact ⟨rfl, rfl⟩
      · have g12 : (k == 12) = false := by simpa using h12
        have HE : Hid (Ending.returned (behindS k) = .returned (.string ⟨#[]⟩)) := by show _ = _; unfold behindS; rw [if_neg h10, if_neg h11, if_neg h12]
        clear h10 h11 h12
        go_enter Tryz.func57, Tryz.ntmps57
        go_wp2_with fail
        go_ret
        exact ⟨HE.out.symm, rfl⟩
theorem ofOne_any (k : Int) (w : World) : Calls Tryz.prog 115 #[.int .i64 k] w fun e w' => e = .returned (.bool (threeB k)) ∧ w = w' := by
  obtain ⟨s, hs, _, _, h1, h2⟩ := behindS_is k
  have hC := behind_any k w
  rw [hs] at hC
  have HC := Lib.hid hC
  clear hC hs
  generalize threeB k = q at *
  cases q with
  | true =>
    go_enter Tryz.func115, Tryz.ntmps115
    go_wp2_with fail
    refine HC.out.mono ?_
    rintro e w2 ⟨rfl, rfl⟩
    go_wp2_with fail
    go_ret
    exact ⟨rfl, rfl⟩
  | false =>
    go_enter Tryz.func115, Tryz.ntmps115
    go_wp2_with fail
    refine HC.out.mono ?_
    rintro e w2 ⟨rfl, rfl⟩
    go_wp2_with fail
    go_ret
    exact ⟨rfl, rfl⟩
theorem brk_any (k i : Int) (w : World) : Calls Tryz.prog 93 #[.int .i64 k, .int .i64 i] w fun e w' => e = .returned (.bool (brkB k i)) ∧ w = w' := by
  have HC := Lib.hid (ofOne_any k w)
  have HD := Lib.hid (ofOne_any i w)
  by_cases h9 : k = 9
  · have HF : Hid (brkB k i = true) := by show _ = _; unfold K.brkB; rw [if_pos h9]
    have g9 : (k == 9) = true := by simpa using h9
    clear h9 HC HD
    generalize brkB k i = res at *
    go_enter Tryz.func93, Tryz.ntmps93
    go_wp2_with fail
    go_ret
    exact ⟨ret_bool HF.out.symm, rfl⟩
  · have g9 : (k == 9) = false := by simpa using h9
    by_cases h8 : k = 8
    · have HF : Hid (brkB k i = (i != 9)) := by
        show _ = _
        unfold K.brkB; rw [if_neg h9, if_pos h8, Bool.eq_iff_iff]; simp
      have g8 : (k == 8) = true := by simpa using h8
      clear h9 h8 HC HD
      generalize brkB k i = res at *
      go_enter Tryz.func93, Tryz.ntmps93
      go_wp2_with fail
      go_ret
      exact ⟨ret_bool HF.out.symm, rfl⟩
    · have g8 : (k == 8) = false := by simpa using h8
      have HF : Hid (brkB k i = (threeB k && threeB i)) := by show _ = _; unfold K.brkB; rw [if_neg h9, if_neg h8]
      clear h9 h8
      generalize brkB k i = res at *
      generalize threeB k = q at *
      generalize threeB i = q2 at *
      go_enter Tryz.func93, Tryz.ntmps93
      go_wp2_with fail
      refine HC.out.mono ?_
      rintro e w2 ⟨rfl, rfl⟩
      cases q with
      | true =>
        go_wp2_with fail
        refine HD.out.mono ?_
        rintro e w2 ⟨rfl, rfl⟩
        go_wp2_with fail
        go_ret
        exact ⟨ret_bool HF.out.symm, rfl⟩
      | false =>
        go_wp2_with fail
        go_ret
        exact ⟨ret_bool HF.out.symm, rfl⟩
/-- The tables of the library that writing looks at, kept from block B on. -/
def TbB (B : Nat) (w : World) : Prop := ∀ w', Below B w w' → Tab w' ∧ Lib.TabIs Tryz.prog w' "internal/strconv.uint64pow10" .u64 Lib.pow10Tab
theorem TbB.on {B : Nat} {w w' : World} (h : TbB B w) (hb : Below B w w') : TbB B w' := fun w2 k => h w2 (hb.trans k)
theorem TbB.tab {B : Nat} {w : World} (h : TbB B w) : Tab w := (h w (Below.refl _ _)).1
theorem pname_any {B b : Nat} {L : List Int} {w : World} (h : Pn w B b L) (s : ByteArray) (hlen : L.length + 1 + s.size ≤ 140737488355328) (hBw : B ≤ w.heap.size) :
    Calls Tryz.prog 53 #[.pointer (some ⟨b, 0, none⟩), .string s] w (PutV B b L (36 :: numsOf s) (.tuple #[]) w) := by
  have HC := Lib.hid (wbyte_any h 36 (by omega) hBw)
  have HP := Lib.hid (Pen.refl h)
  clear h
  go_enter Tryz.func53, Tryz.ntmps53
  go_wp2_with fail
  refine HC.out.mono ?_
  rintro e w1 hp
  have HP1 := Lib.hid (HP.out.put hp)
  obtain ⟨rfl, q1, q2, q3⟩ := hp
  clear q1 q2 q3
  have HC2 := Lib.hid (wtext_any HP1.out.1 s (by simp; omega) (Nat.le_trans hBw HP1.out.size))
  clear HC
  go_wp2_with fail
  refine HC2.out.mono ?_
  rintro e w2 hp
  have HP2 := Lib.hid (HP1.out.put hp)
  obtain ⟨rfl, q1, q2, q3⟩ := hp
  clear q1 q2 q3
  have HE := Lib.hid (HP2.out.out (L := L) (M := 36 :: numsOf s) (by simp))
  clear HC2 HP1 HP2
  go_wp2_with fail
  exact bodyPost_ret (v := .tuple #[]) (by simp [results, Tryz.results53, go_sem]) rfl HE.out
theorem text_byte {c : Int} (h : 0 ≤ c) : ∀ x ∈ Q.textB c, 0 ≤ x ∧ x < 256 := fun x hx => by
  unfold Q.textB at hx
  split at hx
  · rename_i hp
    rw [Q.plain_iff] at hp
    simp at hx; subst hx; omega
  · have hh := hex_byte 6 c h
    simp only [List.mem_append, List.mem_cons, List.not_mem_nil, or_false] at hx
    rcases hx with (hx | hx) | hx
    · omega
    · exact hh x hx
    · omega
theorem pchar_any {B b : Nat} {L : List Int} {w : World} (h : Pn w B b L) (hT : TbB B w) {c : Int} (h0 : 0 ≤ c) (h1 : c ≤ 1114111) (hlen : L.length + (Q.textB c).length ≤ 140737488355328) (hBw : B ≤ w.heap.size) :
    Calls Tryz.prog 91 #[.pointer (some ⟨b, 0, none⟩), .int .i64 c] w (PutV B b L (Q.textB c) (.tuple #[]) w) := by
  have hC := text_any c hT.tab
  have hv : textV c = (Q.textB c, 0) := by unfold textV; rw [if_pos ((Q.isC_iff c).2 ⟨h0, h1⟩)]
  have hnum := K.numsOf_strOf (text_byte h0)
  unfold TextP at hC
  rw [hv] at hC
  have HC := Lib.hid hC
  have hsz := K.numsOf_len (strOfNums (Q.textB c))
  rw [hnum] at hsz
  have HN := Lib.hid hnum
  have HP := Lib.hid (Pen.refl h)
  simp only at HC
  generalize Q.textB c = T at *
  clear h hT hC hv hnum
  have hsz' : L.length + (strOfNums T).size ≤ 140737488355328 := by omega
  generalize strOfNums T = s at *
  go_enter Tryz.func91, Tryz.ntmps91
  go_wp2_with fail
  refine HC.out.mono ?_
  rintro e w1 ⟨rfl, hb⟩
  have HP1 := Lib.hid (HP.out.below hBw hb)
  have HC2 := Lib.hid (wtext_any HP1.out.1 s (by omega) (Nat.le_trans hBw HP1.out.size))
  clear HC hb
  go_wp2_with fail
  refine HC2.out.mono ?_
  rintro e w2 hp
  have HP2 := Lib.hid (HP1.out.put hp)
  obtain ⟨rfl, q1, q2, q3⟩ := hp
  clear q1 q2 q3
  have HE := Lib.hid (HP2.out.out (L := L) (M := T) (by rw [HN.out]))
  clear HC2 HP1 HP2
  go_wp2_with fail
  exact bodyPost_ret (v := .tuple #[]) (by simp [results, Tryz.results91, go_sem]) rfl HE.out
end Go.Proofs.YtmohefgdpddldaaGreatDoor
namespace Go.Proofs.YtmohefgdpddldaaGreatDoor
open Go.RowKit
open Y (Nd It noName)
open K (numsOf threeB twoB behindT betweenT brkB rngT txt kidsT partT anyB)

theorem any_rng {x : Nd} (h : anyB x = true) (h5 : x.kind = 5) : 0 ≤ x.low ∧ x.low ≤ x.high ∧ x.high ≤ 1114111 := by
  unfold K.anyB at h
  rw [Bool.or_eq_true] at h
  rcases h with h | h
  · rw [K.inF_eq, if_neg (by omega), if_neg (by omega), if_neg (by omega)] at h
    unfold K.nosB at h
    rw [if_neg (by omega), if_neg (by omega)] at h
    cases h
  · rw [K.inS_eq, if_pos h5] at h
    simp only [Bool.and_eq_true, decide_eq_true_eq] at h
    exact ⟨h.1.1.2, h.1.2, h.2⟩
theorem kidsT_app (k : Int) : ∀ (l m : List Nd) (f : Bool), kidsT k f (l ++ m) = kidsT k f l ++ kidsT k (f && l.isEmpty) m
  | [], m, f => by rw [List.nil_append]; cases f <;> simp [K.kidsT]
  | x :: t, m, f => by
    rw [List.cons_append, K.kidsT_cons, kidsT_app k t m false, K.kidsT_cons]
    simp
theorem kidsT_take (k : Int) (l : List Nd) (j : Nat) : (kidsT k true (l.take j)).length ≤ (kidsT k true l).length := by
  have h := kidsT_app k (l.take j) (l.drop j) true
  rw [List.take_append_drop] at h
  rw [h, List.length_append]; omega
theorem kidsT_next (k : Int) {l : List Nd} {j : Nat} {y : Nd} (h : l[j]? = some y) : kidsT k true (l.take (j + 1)) = kidsT k true (l.take j) ++ (if j = 0 then [] else betweenT k) ++ partT k y := by
  rw [List.take_add_one, h]
  show kidsT k true (l.take j ++ [y]) = _
  rw [K.kidsT_snoc]
  have hj := (List.getElem?_eq_some_iff.1 h).1
  by_cases h0 : j = 0
  · subst h0; simp
  · rw [if_neg h0, if_neg]
    rintro ⟨_, e⟩
    have e2 := congrArg List.length e
    rw [List.length_take, List.length_nil] at e2
    omega
/-- What the pen writes of a form of so many nodes. -/
def FormW (k : Nat) : Prop := ∀ (x : Nd), x.size ≤ k → anyB x = true → ∀ (w : World) (B b : Nat) (L : List Int) (A : Option Addr) (n c : Nat), Pn w B b L → TbB B w → B ≤ w.heap.size → RdN w (· < B) A n c x.kids → L.length + (txt x).length ≤ 140737488355328 →
  Calls Tryz.prog 24 #[.pointer (some ⟨b, 0, none⟩), .agg #[.int .i64 x.kind, .string x.name, .int .i64 x.low, .int .i64 x.high, .slice A n c]] w (PutV B b L (txt x) (.tuple #[]) w)
set_option maxHeartbeats 2000000 in
theorem pchars_any {x : Nd} {B b : Nat} {L : List Int} {w : World} {A : Option Addr} {n c : Nat} (h : Pn w B b L) (hT : TbB B w) (h0 : 0 ≤ x.low) (h1 : x.low ≤ x.high) (h2 : x.high ≤ 1114111) (hlen : L.length + (rngT x.low x.high).length ≤ 140737488355328) (hBw : B ≤ w.heap.size) :
    Calls Tryz.prog 55 #[.pointer (some ⟨b, 0, none⟩), .agg #[.int .i64 x.kind, .string x.name, .int .i64 x.low, .int .i64 x.high, .slice A n c]] w (PutV B b L (rngT x.low x.high) (.tuple #[]) w) := by
  have HB0 := kbelow_push w (.cells #[.int .i64 x.kind, .string x.name, .int .i64 x.low, .int .i64 x.high, .slice A n c] 24)
  have HROW := Lib.hid (heap_alloc_new w (.cells #[.int .i64 x.kind, .string x.name, .int .i64 x.low, .int .i64 x.high, .slice A n c] 24))
  have HP := Lib.hid ((Pen.refl h).below hBw HB0)
  have HT := Lib.hid hT
  have hlo : L.length + (Q.textB x.low).length ≤ 140737488355328 := by unfold K.rngT at hlen; rw [List.length_append] at hlen; omega
  have HLEN := Lib.hid hlen
  have HC := Lib.hid (pchar_any HP.out.1 (hT.on HP.out.2.1) h0 (by omega) hlo (Nat.le_trans hBw HP.out.size))
  clear h hT HB0 hlen hlo
  go_enter Tryz.func55, Tryz.ntmps55
  go_wp2_with fail
  generalize w.alloc (.cells #[.int .i64 x.kind, .string x.name, .int .i64 x.low, .int .i64 x.high, .slice A n c] 24) = W1 at *
  refine HC.out.mono ?_
  rintro e w3 hp
  have HPn := Lib.hid (HP.out.put hp)
  have hkp := hp.2.2.2
  obtain ⟨rfl, q1, q2, q3⟩ := hp
  clear HP HC q1 q2 q3
  have HP := HPn
  clear HPn
  have HROWn := Lib.hid (hkp.2 _ _ HROW.out rfl)
  clear HROW
  have HROW := HROWn
  clear HROWn
  obtain ⟨r0, r1, r2, r3, r4⟩ := cells5 HROW.out
  clear hkp
  by_cases hh : x.high = x.low
  · have g1 : (x.high != x.low) = false := by simpa using hh
    have HE := Lib.hid (HP.out.out (L := L) (M := rngT x.low x.high) (by unfold K.rngT; rw [if_pos hh, List.append_nil]))
    clear HP hh
    go_wp2_with fail
    exact bodyPost_ret (v := .tuple #[]) (by simp [results, Tryz.results55, go_sem]) rfl HE.out
  · have g1 : (x.high != x.low) = true := by rw [bne_iff_ne]; exact hh
    have HF : Hid (rngT x.low x.high = Q.textB x.low ++ 45 :: Q.textB x.high) := by show _ = _; unfold K.rngT; rw [if_neg hh]
    rw [HF.out] at HLEN
    have HC := Lib.hid (wbyte_any HP.out.1 45 (by have := HLEN.out; simp only [List.length_append, List.length_cons] at this ⊢; omega) (Nat.le_trans hBw HP.out.size))
    clear hh
    go_wp2_with fail
    refine HC.out.mono ?_
    rintro e w3 hp
    have HPn := Lib.hid (HP.out.put hp)
    have hkp := hp.2.2.2
    obtain ⟨rfl, q1, q2, q3⟩ := hp
    clear HP HC q1 q2 q3
    have HP := HPn
    clear HPn
    have HROWn := Lib.hid (hkp.2 _ _ HROW.out rfl)
    clear HROW
    have HROW := HROWn
    clear HROWn
    obtain ⟨r0, r1, r2, r3, r4⟩ := cells5 HROW.out
    clear hkp
    have HC := Lib.hid (pchar_any HP.out.1 (HT.out.on HP.out.2.1) (by omega) h2 (by have := HLEN.out; simp only [List.length_append, List.length_cons, List.length_nil] at this ⊢; omega) (Nat.le_trans hBw HP.out.size))
    go_wp2_with fail
    refine HC.out.mono ?_
    rintro e w3 hp
    have HPn := Lib.hid (HP.out.put hp)
    have hkp := hp.2.2.2
    obtain ⟨rfl, q1, q2, q3⟩ := hp
    clear HP HC q1 q2 q3
    have HP := HPn
    clear HPn
    have HROWn := Lib.hid (hkp.2 _ _ HROW.out rfl)
    clear HROW
    have HROW := HROWn
    clear HROWn
    obtain ⟨r0, r1, r2, r3, r4⟩ := cells5 HROW.out
    clear hkp
    have HE := Lib.hid (HP.out.out (L := L) (M := rngT x.low x.high) (by rw [HF.out]; simp))
    clear HP HF
    go_wp2_with fail
    exact bodyPost_ret (v := .tuple #[]) (by simp [results, Tryz.results55, go_sem]) rfl HE.out
end Go.Proofs.YtmohefgdpddldaaGreatDoor
namespace Go.Proofs.YtmohefgdpddldaaGreatDoor
open Go.RowKit
open Y (Nd It noName)
open K (numsOf threeB twoB behindT betweenT brkB rngT txt kidsT partT anyB)

set_option maxHeartbeats 8000000 in
theorem kids_of {k : Nat} (ih : FormW k) {x : Nd} (hk : Y.sizeL x.kids ≤ k) (ha : ∀ y ∈ x.kids, anyB y = true) {w : World} {B b : Nat} {L : List Int} {A : Option Addr} {n c : Nat} (h : Pn w B b L) (hT : TbB B w) (hBw : B ≤ w.heap.size) (hr : RdN w (· < B) A n c x.kids) (hlen : L.length + (kidsT x.kind true x.kids).length ≤ 140737488355328) :
    Calls Tryz.prog 56 #[.pointer (some ⟨b, 0, none⟩), .agg #[.int .i64 x.kind, .string x.name, .int .i64 x.low, .int .i64 x.high, .slice A n c]] w (PutV B b L (kidsT x.kind true x.kids) (.tuple #[]) w) := by
  have HB0 := kbelow_push w (.cells #[.int .i64 x.kind, .string x.name, .int .i64 x.low, .int .i64 x.high, .slice A n c] 24)
  have HROW0 := Lib.hid (heap_alloc_new w (.cells #[.int .i64 x.kind, .string x.name, .int .i64 x.low, .int .i64 x.high, .slice A n c] 24))
  have HP0 := Lib.hid ((Pen.refl h).below hBw HB0)
  have hz : (w.alloc (.cells #[.int .i64 x.kind, .string x.name, .int .i64 x.low, .int .i64 x.high, .slice A n c] 24)).heap.size = w.heap.size + 1 := by simp
  have HT := Lib.hid hT
  have HR := Lib.hid hr
  have HL := Lib.hid hr.len
  have HA := Lib.hid ha
  have hsm := hr.small
  have HIH := Lib.hid ih
  have HK := Lib.hid hk
  have HLEN := Lib.hid hlen
  clear h hT hr ha hk HB0 ih hlen
  generalize hl : x.kids = l at *
  clear hl
  go_enter Tryz.func56, Tryz.ntmps56
  go_wp2_with fail
  generalize w.alloc (.cells #[.int .i64 x.kind, .string x.name, .int .i64 x.low, .int .i64 x.high, .slice A n c] 24) = W1 at *
  go_loopw [9] (fun iv wx => ∃ j : Nat, j ≤ n ∧ iv = .int .i64 j ∧ Hid (Pen B b (L ++ kidsT x.kind true (l.take j)) w wx) ∧ Hid (wx.heap[w.heap.size]? = some (.cells #[.int .i64 x.kind, .string x.name, .int .i64 x.low, .int .i64 x.high, .slice A n c] 24 (0, 0)))) (fun iv _ => n - (intOf iv).toNat)
  case atStart => exact ⟨0, by omega, rfl, (by show Pen _ _ _ _ _; rw [List.take_zero, K.kidsT, List.append_nil]; exact HP0.out), HROW0.out⟩
  case round =>
    obtain ⟨j, hj, rfl, HP, HROW⟩ := hrel
    have hws := HP.out.size
    obtain ⟨r0, r1, r2, r3, r4⟩ := cells5 HROW.out
    by_cases hlt : j < n
    · obtain ⟨b1, o1, y, A1, n1, c1, hA1, hb1, hy, hr1, s0, s1, s2, s3, s4⟩ := (HR.out.keep (S' := (· < B)) (fun _ h => h) (fun p hp => HP.out.2.1.cell (p := p) hp)).got hlt
      subst hA1
      have hj0 : (0 : Int) ≤ (j : Int) := by omega
      have hj1 : (j : Int) < (n : Int) := by omega
      have HNX := Lib.hid (kidsT_next x.kind hy)
      have hle := kidsT_take x.kind l (j + 1)
      rw [HNX.out] at hle
      have HLN : Hid (L.length + ((kidsT x.kind true (l.take j)).length + (if j = 0 then ([] : List Int) else betweenT x.kind).length + (partT x.kind y).length) ≤ 140737488355328) := by
        have h1 := HLEN.out
        simp only [List.length_append] at hle
        show _ ≤ _
        omega
      have hmem := List.mem_of_getElem? hy
      have HIY : Hid (∀ (w' : World) (L' : List Int), Pn w' B b L' → TbB B w' → B ≤ w'.heap.size → Below B wr w' → L'.length + (txt y).length ≤ 140737488355328 → Calls Tryz.prog 24 #[.pointer (some ⟨b, 0, none⟩), .agg #[.int .i64 y.kind, .string y.name, .int .i64 y.low, .int .i64 y.high, .slice A1 n1 c1]] w' (PutV B b L' (txt y) (.tuple #[]) w')) := fun w' L' h1 h2 h3 h4 h5 =>
        HIH.out y (by have := K.size_in hmem; have := HK.out; omega) (HA.out y hmem) w' B b L' A1 n1 c1 h1 h2 h3 (hr1.keep (fun _ h => h) (fun p hp => h4.cell (p := p) hp)) h5
      have HBY := Lib.hid (kbelow_push wr (.cells #[.int .i64 y.kind, .string y.name, .int .i64 y.low, .int .i64 y.high, .slice A1 n1 c1] 24))
      have HROY := Lib.hid (heap_alloc_new wr (.cells #[.int .i64 y.kind, .string y.name, .int .i64 y.low, .int .i64 y.high, .slice A1 n1 c1] 24))
      have hzy : (wr.alloc (.cells #[.int .i64 y.kind, .string y.name, .int .i64 y.low, .int .i64 y.high, .slice A1 n1 c1] 24)).heap.size = wr.heap.size + 1 := by simp
      have HBR : Hid (Below B wr (wr.alloc (.cells #[.int .i64 y.kind, .string y.name, .int .i64 y.low, .int .i64 y.high, .slice A1 n1 c1] 24))) := HBY.out.mono (Nat.le_trans hBw hws)
      have HPN := Lib.hid (HP.out.below (Nat.le_trans hBw hws) HBY.out)
      have hb1' : b1 < wr.heap.size := Nat.lt_of_lt_of_le hb1 (Nat.le_trans hBw hws)
      have hlx : w.heap.size < wr.heap.size := (Array.getElem?_eq_some_iff.1 HROW.out).1
      have HROX := Lib.hid ((HBY.out.block w.heap.size hlx).trans HROW.out)
      have HBK := Lib.hid (brk_any y.kind x.kind)
      clear hy hr1 hb1 hle hmem HLEN HP HROW HR HL HA HIH HK HROW0 HP0 hz
      have HP := HPN
      have HROW := HROX
      clear HPN HROX
      generalize kidsT x.kind true (l.take j) = T at *
      by_cases h0 : j = 0
      · rw [if_pos h0] at HNX HLN
        have g0 : ¬ (0 : Int) < (j : Int) := by omega
        clear h0
        go_wp2_with fail
        generalize wr.alloc (.cells #[.int .i64 y.kind, .string y.name, .int .i64 y.low, .int .i64 y.high, .slice A1 n1 c1] 24) = W2 at *
        have HPT : Hid (Pen B b (L ++ T ++ []) w W2) := by show Pen _ _ _ _ _; rw [List.append_nil]; exact HP.out
        clear HP
        have HP := HPT
        clear HPT
        generalize ([] : List Int) = TB at *
        obtain ⟨r0, r1, r2, r3, r4⟩ := cells5 HROW.out
        obtain ⟨u0, u1, u2, u3, u4⟩ := cells5 HROY.out
        refine (HBK.out _).mono ?_
        rintro e w3 ⟨rfl, rfl⟩
        cases hbr : brkB y.kind x.kind with
        | true =>
          have HF : Hid (partT x.kind y = [40] ++ txt y ++ [41]) := by show _ = _; unfold K.partT; rw [if_pos hbr]
          rw [HF.out] at HLN
          have HC := Lib.hid (wbyte_any HP.out.1 40 (by have := HLN.out; simp only [List.length_append, List.length_cons, List.length_nil] at this ⊢; omega) (Nat.le_trans hBw HP.out.size))
          clear hbr
          go_wp2_with fail
          refine HC.out.mono ?_
          rintro e w3 hp
          have HPn := Lib.hid (HP.out.put hp)
          have hkp := hp.2.2.2
          have HBRn := Lib.hid (HBR.out.trans hp.2.2.1)
          obtain ⟨rfl, q1, q2, q3⟩ := hp
          clear HP HC q1 q2 q3
          have HP := HPn
          clear HPn
          have HROWn := Lib.hid (hkp.2 _ _ HROW.out rfl)
          clear HROW
          have HROW := HROWn
          clear HROWn
          obtain ⟨r0, r1, r2, r3, r4⟩ := cells5 HROW.out
          have HROYn := Lib.hid (hkp.2 _ _ HROY.out rfl)
          clear HROY
          have HROY := HROYn
          clear HROYn
          obtain ⟨u0, u1, u2, u3, u4⟩ := cells5 HROY.out
          clear hkp HBR
          have HBR := HBRn
          clear HBRn
          have HC := Lib.hid (HIY.out _ _ HP.out.1 (HT.out.on HP.out.2.1) (Nat.le_trans hBw HP.out.size) HBR.out (by have := HLN.out; simp only [List.length_append, List.length_cons, List.length_nil] at this ⊢; omega))
          go_wp2_with fail
          refine HC.out.mono ?_
          rintro e w3 hp
          have HPn := Lib.hid (HP.out.put hp)
          have hkp := hp.2.2.2
          have HBRn := Lib.hid (HBR.out.trans hp.2.2.1)
          obtain ⟨rfl, q1, q2, q3⟩ := hp
          clear HP HC q1 q2 q3
          have HP := HPn
          clear HPn
          have HROWn := Lib.hid (hkp.2 _ _ HROW.out rfl)
          clear HROW
          have HROW := HROWn
          clear HROWn
          obtain ⟨r0, r1, r2, r3, r4⟩ := cells5 HROW.out
          have HROYn := Lib.hid (hkp.2 _ _ HROY.out rfl)
          clear HROY
          have HROY := HROYn
          clear HROYn
          obtain ⟨u0, u1, u2, u3, u4⟩ := cells5 HROY.out
          clear hkp HBR
          have HBR := HBRn
          clear HBRn
          have HC := Lib.hid (wbyte_any HP.out.1 41 (by have := HLN.out; simp only [List.length_append, List.length_cons, List.length_nil] at this ⊢; omega) (Nat.le_trans hBw HP.out.size))
          go_wp2_with fail
          refine HC.out.mono ?_
          rintro e w3 hp
          have HPn := Lib.hid (HP.out.put hp)
          have hkp := hp.2.2.2
          have HBRn := Lib.hid (HBR.out.trans hp.2.2.1)
          obtain ⟨rfl, q1, q2, q3⟩ := hp
          clear HP HC q1 q2 q3
          have HP := HPn
          clear HPn
          have HROWn := Lib.hid (hkp.2 _ _ HROW.out rfl)
          clear HROW
          have HROW := HROWn
          clear HROWn
          obtain ⟨r0, r1, r2, r3, r4⟩ := cells5 HROW.out
          have HROYn := Lib.hid (hkp.2 _ _ HROY.out rfl)
          clear HROY
          have HROY := HROYn
          clear HROYn
          obtain ⟨u0, u1, u2, u3, u4⟩ := cells5 HROY.out
          clear hkp HBR
          have HBR := HBRn
          clear HBRn
          go_wp2_with fail
          go_roundw
          case rel => exact ⟨j + 1, by omega, by go_num, (by have h1 := HP.out; show Pen _ _ _ _ _; rw [HNX.out, HF.out]; simpa [List.append_assoc] using h1), HROW.out⟩
          case measure => simp [intOf]; omega
        | false =>
          have HF : Hid (partT x.kind y = txt y) := by show _ = _; unfold K.partT; rw [if_neg (by rw [hbr]; decide)]
          rw [HF.out] at HLN
          have HC := Lib.hid (HIY.out _ _ HP.out.1 (HT.out.on HP.out.2.1) (Nat.le_trans hBw HP.out.size) HBR.out (by have := HLN.out; simp only [List.length_append, List.length_cons, List.length_nil] at this ⊢; omega))
          clear hbr
          go_wp2_with fail
          refine HC.out.mono ?_
          rintro e w3 hp
          have HPn := Lib.hid (HP.out.put hp)
          have hkp := hp.2.2.2
          have HBRn := Lib.hid (HBR.out.trans hp.2.2.1)
          obtain ⟨rfl, q1, q2, q3⟩ := hp
          clear HP HC q1 q2 q3
          have HP := HPn
          clear HPn
          have HROWn := Lib.hid (hkp.2 _ _ HROW.out rfl)
          clear HROW
          have HROW := HROWn
          clear HROWn
          obtain ⟨r0, r1, r2, r3, r4⟩ := cells5 HROW.out
          have HROYn := Lib.hid (hkp.2 _ _ HROY.out rfl)
          clear HROY
          have HROY := HROYn
          clear HROYn
          obtain ⟨u0, u1, u2, u3, u4⟩ := cells5 HROY.out
          clear hkp HBR
          have HBR := HBRn
          clear HBRn
          go_wp2_with fail
          go_roundw
          case rel => exact ⟨j + 1, by omega, by go_num, (by have h1 := HP.out; show Pen _ _ _ _ _; rw [HNX.out, HF.out]; simpa [List.append_assoc] using h1), HROW.out⟩
          case measure => simp [intOf]; omega
      · rw [if_neg h0] at HNX HLN
        have g0 : (0 : Int) < (j : Int) := by omega
        obtain ⟨sb, hsb, hsn, hsz⟩ := betweenS_is x.kind
        have hbt := between_any x.kind
        rw [hsb] at hbt
        have HBT := Lib.hid hbt
        have HSN := Lib.hid hsn
        have hszb := K.numsOf_len sb
        rw [hsn] at hszb
        clear hbt hsb hsn h0
        generalize betweenT x.kind = TB at *
        go_wp2_with fail
        generalize wr.alloc (.cells #[.int .i64 y.kind, .string y.name, .int .i64 y.low, .int .i64 y.high, .slice A1 n1 c1] 24) = W2 at *
        have HK0 : Hid (W2.drew.cell? ⟨w.heap.size, 0, none⟩ = some (.int .i64 x.kind)) := (cells5 HROW.out).1
        have HWS : Hid (Calls _ _ _ W2.drew _) := wtext_any (w := W2.drew) (B := B) (b := b) (L := L ++ T) HP.out.1 sb (by have := HLN.out; simp only [List.length_append]; omega) (Nat.le_trans hBw HP.out.size)
        go_region_held_law (fun w' => w'.cell? ⟨w.heap.size, 0, none⟩ = some (.int .i64 x.kind)) (first | exact HK0.out | exact HK1.out) (first | (go_at_call 92; refine (HBT.out _).mono ?_; rintro e w5 ⟨rfl, rfl⟩) | (go_at_call 52; refine HWS.out.mono ?_; rintro e w5 hp; have HPX := Lib.hid hp; have HK1 : Hid (w5.cell? ⟨w.heap.size, 0, none⟩ = some (.int .i64 x.kind)) := (cells5 (hp.2.2.2.2 _ _ (show W2.drew.heap[w.heap.size]? = _ from HROW.out) rfl)).1; obtain ⟨rfl, q1, q2, q3⟩ := hp; clear q1 q2 q3))
        have hp := HPX.out
        have HPn := Lib.hid (HP.out.drew.put hp)
        have HROWn := Lib.hid (hp.2.2.2.2 _ _ (show W2.drew.heap[w.heap.size]? = _ from HROW.out) rfl)
        have HROYn := Lib.hid (hp.2.2.2.2 _ _ (show W2.drew.heap[wr.heap.size]? = _ from HROY.out) rfl)
        have HBRn : Hid (Below B wr w5) := (kbelow_drewN HBR.out 1).trans hp.2.2.1
        clear HP HROW HROY HBR HPX hp HK0 HK1 HWS HBT
        have HP := HPn
        have HROW := HROWn
        have HROY := HROYn
        have HBR := HBRn
        clear HPn HROWn HROYn HBRn
        rw [HSN.out] at HP
        obtain ⟨r0, r1, r2, r3, r4⟩ := cells5 HROW.out
        obtain ⟨u0, u1, u2, u3, u4⟩ := cells5 HROY.out
        go_wp2_with fail
        obtain ⟨r0, r1, r2, r3, r4⟩ := cells5 HROW.out
        obtain ⟨u0, u1, u2, u3, u4⟩ := cells5 HROY.out
        refine (HBK.out _).mono ?_
        rintro e w3 ⟨rfl, rfl⟩
        cases hbr : brkB y.kind x.kind with
        | true =>
          have HF : Hid (partT x.kind y = [40] ++ txt y ++ [41]) := by show _ = _; unfold K.partT; rw [if_pos hbr]
          rw [HF.out] at HLN
          have HC := Lib.hid (wbyte_any HP.out.1 40 (by have := HLN.out; simp only [List.length_append, List.length_cons, List.length_nil] at this ⊢; omega) (Nat.le_trans hBw HP.out.size))
          clear hbr
          go_wp2_with fail
          refine HC.out.mono ?_
          rintro e w3 hp
          have HPn := Lib.hid (HP.out.put hp)
          have hkp := hp.2.2.2
          have HBRn := Lib.hid (HBR.out.trans hp.2.2.1)
          obtain ⟨rfl, q1, q2, q3⟩ := hp
          clear HP HC q1 q2 q3
          have HP := HPn
          clear HPn
          have HROWn := Lib.hid (hkp.2 _ _ HROW.out rfl)
          clear HROW
          have HROW := HROWn
          clear HROWn
          obtain ⟨r0, r1, r2, r3, r4⟩ := cells5 HROW.out
          have HROYn := Lib.hid (hkp.2 _ _ HROY.out rfl)
          clear HROY
          have HROY := HROYn
          clear HROYn
          obtain ⟨u0, u1, u2, u3, u4⟩ := cells5 HROY.out
          clear hkp HBR
          have HBR := HBRn
          clear HBRn
          have HC := Lib.hid (HIY.out _ _ HP.out.1 (HT.out.on HP.out.2.1) (Nat.le_trans hBw HP.out.size) HBR.out (by have := HLN.out; simp only [List.length_append, List.length_cons, List.length_nil] at this ⊢; omega))
          go_wp2_with fail
          refine HC.out.mono ?_
          rintro e w3 hp
          have HPn := Lib.hid (HP.out.put hp)
          have hkp := hp.2.2.2
          have HBRn := Lib.hid (HBR.out.trans hp.2.2.1)
          obtain ⟨rfl, q1, q2, q3⟩ := hp
          clear HP HC q1 q2 q3
          have HP := HPn
          clear HPn
          have HROWn := Lib.hid (hkp.2 _ _ HROW.out rfl)
          clear HROW
          have HROW := HROWn
          clear HROWn
          obtain ⟨r0, r1, r2, r3, r4⟩ := cells5 HROW.out
          have HROYn := Lib.hid (hkp.2 _ _ HROY.out rfl)
          clear HROY
          have HROY := HROYn
          clear HROYn
          obtain ⟨u0, u1, u2, u3, u4⟩ := cells5 HROY.out
          clear hkp HBR
          have HBR := HBRn
          clear HBRn
          have HC := Lib.hid (wbyte_any HP.out.1 41 (by have := HLN.out; simp only [List.length_append, List.length_cons, List.length_nil] at this ⊢; omega) (Nat.le_trans hBw HP.out.size))
          go_wp2_with fail
          refine HC.out.mono ?_
          rintro e w3 hp
          have HPn := Lib.hid (HP.out.put hp)
          have hkp := hp.2.2.2
          have HBRn := Lib.hid (HBR.out.trans hp.2.2.1)
          obtain ⟨rfl, q1, q2, q3⟩ := hp
          clear HP HC q1 q2 q3
          have HP := HPn
          clear HPn
          have HROWn := Lib.hid (hkp.2 _ _ HROW.out rfl)
          clear HROW
          have HROW := HROWn
          clear HROWn
          obtain ⟨r0, r1, r2, r3, r4⟩ := cells5 HROW.out
          have HROYn := Lib.hid (hkp.2 _ _ HROY.out rfl)
          clear HROY
          have HROY := HROYn
          clear HROYn
          obtain ⟨u0, u1, u2, u3, u4⟩ := cells5 HROY.out
          clear hkp HBR
          have HBR := HBRn
          clear HBRn
          go_wp2_with fail
          go_roundw
          case rel => exact ⟨j + 1, by omega, by go_num, (by have h1 := HP.out; show Pen _ _ _ _ _; rw [HNX.out, HF.out]; simpa [List.append_assoc] using h1), HROW.out⟩
          case measure => simp [intOf]; omega
        | false =>
          have HF : Hid (partT x.kind y = txt y) := by show _ = _; unfold K.partT; rw [if_neg (by rw [hbr]; decide)]
          rw [HF.out] at HLN
          have HC := Lib.hid (HIY.out _ _ HP.out.1 (HT.out.on HP.out.2.1) (Nat.le_trans hBw HP.out.size) HBR.out (by have := HLN.out; simp only [List.length_append, List.length_cons, List.length_nil] at this ⊢; omega))
          clear hbr
          go_wp2_with fail
          refine HC.out.mono ?_
          rintro e w3 hp
          have HPn := Lib.hid (HP.out.put hp)
          have hkp := hp.2.2.2
          have HBRn := Lib.hid (HBR.out.trans hp.2.2.1)
          obtain ⟨rfl, q1, q2, q3⟩ := hp
          clear HP HC q1 q2 q3
          have HP := HPn
          clear HPn
          have HROWn := Lib.hid (hkp.2 _ _ HROW.out rfl)
          clear HROW
          have HROW := HROWn
          clear HROWn
          obtain ⟨r0, r1, r2, r3, r4⟩ := cells5 HROW.out
          have HROYn := Lib.hid (hkp.2 _ _ HROY.out rfl)
          clear HROY
          have HROY := HROYn
          clear HROYn
          obtain ⟨u0, u1, u2, u3, u4⟩ := cells5 HROY.out
          clear hkp HBR
          have HBR := HBRn
          clear HBRn
          go_wp2_with fail
          go_roundw
          case rel => exact ⟨j + 1, by omega, by go_num, (by have h1 := HP.out; show Pen _ _ _ _ _; rw [HNX.out, HF.out]; simpa [List.append_assoc] using h1), HROW.out⟩
          case measure => simp [intOf]; omega
    · obtain rfl : j = n := by omega
      have HE := Lib.hid (HP.out.out (L := L) (M := kidsT x.kind true l) (by rw [List.take_of_length_le (by have := HL.out; omega)]))
      clear HP HROW HR
      go_wp2_with fail
      exact bodyPost_ret (v := .tuple #[]) (by simp [results, Tryz.results56, go_sem]) rfl HE.out
end Go.Proofs.YtmohefgdpddldaaGreatDoor
namespace Go.Proofs.YtmohefgdpddldaaGreatDoor
open Go.RowKit
open Y (Nd It noName)
open K (numsOf threeB twoB behindT betweenT brkB rngT txt kidsT partT anyB)

set_option maxHeartbeats 4000000 in
theorem pset_of {k : Nat} (ih : FormW k) {x : Nd} (hk : Y.sizeL x.kids ≤ k) (ha : ∀ y ∈ x.kids, anyB y = true) {w : World} {B b : Nat} {L : List Int} {A : Option Addr} {n c : Nat} (h : Pn w B b L) (hT : TbB B w) (hBw : B ≤ w.heap.size) (hr : RdN w (· < B) A n c x.kids)
    (hlen : L.length + ((if x.low = 1 then [91, 94] else [91] : List Int) ++ kidsT x.kind true x.kids ++ [93]).length ≤ 140737488355328) :
    Calls Tryz.prog 54 #[.pointer (some ⟨b, 0, none⟩), .agg #[.int .i64 x.kind, .string x.name, .int .i64 x.low, .int .i64 x.high, .slice A n c]] w (PutV B b L ((if x.low = 1 then [91, 94] else [91]) ++ kidsT x.kind true x.kids ++ [93]) (.tuple #[]) w) := by
  have HB0 := kbelow_push w (.cells #[.int .i64 x.kind, .string x.name, .int .i64 x.low, .int .i64 x.high, .slice A n c] 24)
  have HROW := Lib.hid (heap_alloc_new w (.cells #[.int .i64 x.kind, .string x.name, .int .i64 x.low, .int .i64 x.high, .slice A n c] 24))
  have HP := Lib.hid ((Pen.refl h).below hBw HB0)
  have hz : (w.alloc (.cells #[.int .i64 x.kind, .string x.name, .int .i64 x.low, .int .i64 x.high, .slice A n c] 24)).heap.size = w.heap.size + 1 := by simp
  have HT := Lib.hid hT
  have HKI : Hid (∀ (w' : World) (L' : List Int), Pn w' B b L' → TbB B w' → B ≤ w'.heap.size → Below B w w' → L'.length + (kidsT x.kind true x.kids).length ≤ 140737488355328 → Calls Tryz.prog 56 #[.pointer (some ⟨b, 0, none⟩), .agg #[.int .i64 x.kind, .string x.name, .int .i64 x.low, .int .i64 x.high, .slice A n c]] w' (PutV B b L' (kidsT x.kind true x.kids) (.tuple #[]) w')) := fun w' L' h1 h2 h3 h4 h5 => kids_of ih hk ha h1 h2 h3 (hr.keep (fun _ h => h) (fun p hp => h4.cell (p := p) hp)) h5
  have HBR : Hid (Below B w (w.alloc (.cells #[.int .i64 x.kind, .string x.name, .int .i64 x.low, .int .i64 x.high, .slice A n c] 24))) := HB0.mono hBw
  have HLN := Lib.hid hlen
  clear h hT hr ha hk HB0 ih hlen
  generalize kidsT x.kind true x.kids = T at *
  by_cases h1 : x.low = 1
  · have g1 : (x.low == 1) = true := by simpa using h1
    rw [if_pos h1] at HLN ⊢
    clear h1
    obtain ⟨TX, hTX⟩ : ∃ TX : List Int, TX = [91, 94] ++ T ++ [93] := ⟨_, rfl⟩
    rw [← hTX]
    have HTX := Lib.hid hTX
    clear hTX
    have HC := Lib.hid (wbyte_any HP.out.1 91 (by have := HLN.out; simp only [List.length_append, List.length_cons, List.length_nil] at this ⊢; omega) (Nat.le_trans hBw HP.out.size))
    go_enter Tryz.func54, Tryz.ntmps54
    go_wp2_with fail
    generalize w.alloc (.cells #[.int .i64 x.kind, .string x.name, .int .i64 x.low, .int .i64 x.high, .slice A n c] 24) = W1 at *
    refine HC.out.mono ?_
    rintro e w3 hp
    have HPn := Lib.hid (HP.out.put hp)
    have hkp := hp.2.2.2
    have HBRn := Lib.hid (HBR.out.trans hp.2.2.1)
    obtain ⟨rfl, q1, q2, q3⟩ := hp
    clear HP HC q1 q2 q3
    have HP := HPn
    clear HPn
    have HROWn := Lib.hid (hkp.2 _ _ HROW.out rfl)
    clear HROW
    have HROW := HROWn
    clear HROWn
    obtain ⟨r0, r1, r2, r3, r4⟩ := cells5 HROW.out
    clear hkp HBR
    have HBR := HBRn
    clear HBRn
    have HC := Lib.hid (wbyte_any HP.out.1 94 (by have := HLN.out; simp only [List.length_append, List.length_cons, List.length_nil] at this ⊢; omega) (Nat.le_trans hBw HP.out.size))
    go_wp2_with fail
    refine HC.out.mono ?_
    rintro e w3 hp
    have HPn := Lib.hid (HP.out.put hp)
    have hkp := hp.2.2.2
    have HBRn := Lib.hid (HBR.out.trans hp.2.2.1)
    obtain ⟨rfl, q1, q2, q3⟩ := hp
    clear HP HC q1 q2 q3
    have HP := HPn
    clear HPn
    have HROWn := Lib.hid (hkp.2 _ _ HROW.out rfl)
    clear HROW
    have HROW := HROWn
    clear HROWn
    obtain ⟨r0, r1, r2, r3, r4⟩ := cells5 HROW.out
    clear hkp HBR
    have HBR := HBRn
    clear HBRn
    have HC := Lib.hid (HKI.out _ _ HP.out.1 (HT.out.on HP.out.2.1) (Nat.le_trans hBw HP.out.size) HBR.out (by have := HLN.out; simp only [List.length_append, List.length_cons, List.length_nil] at this ⊢; omega))
    go_wp2_with fail
    refine HC.out.mono ?_
    rintro e w3 hp
    have HPn := Lib.hid (HP.out.put hp)
    have hkp := hp.2.2.2
    have HBRn := Lib.hid (HBR.out.trans hp.2.2.1)
    obtain ⟨rfl, q1, q2, q3⟩ := hp
    clear HP HC q1 q2 q3
    have HP := HPn
    clear HPn
    have HROWn := Lib.hid (hkp.2 _ _ HROW.out rfl)
    clear HROW
    have HROW := HROWn
    clear HROWn
    obtain ⟨r0, r1, r2, r3, r4⟩ := cells5 HROW.out
    clear hkp HBR
    have HBR := HBRn
    clear HBRn
    have HC := Lib.hid (wbyte_any HP.out.1 93 (by have := HLN.out; simp only [List.length_append, List.length_cons, List.length_nil] at this ⊢; omega) (Nat.le_trans hBw HP.out.size))
    go_wp2_with fail
    refine HC.out.mono ?_
    rintro e w3 hp
    have HPn := Lib.hid (HP.out.put hp)
    have hkp := hp.2.2.2
    have HBRn := Lib.hid (HBR.out.trans hp.2.2.1)
    obtain ⟨rfl, q1, q2, q3⟩ := hp
    clear HP HC q1 q2 q3
    have HP := HPn
    clear HPn
    have HROWn := Lib.hid (hkp.2 _ _ HROW.out rfl)
    clear HROW
    have HROW := HROWn
    clear HROWn
    obtain ⟨r0, r1, r2, r3, r4⟩ := cells5 HROW.out
    clear hkp HBR
    have HBR := HBRn
    clear HBRn
    have HE := Lib.hid (HP.out.out (L := L) (M := TX) (by rw [HTX.out]; simp))
    clear HP
    go_wp2_with fail
    exact bodyPost_ret (v := .tuple #[]) (by simp [results, Tryz.results54, go_sem]) rfl HE.out
  · have g1 : (x.low == 1) = false := by simpa using h1
    rw [if_neg h1] at HLN ⊢
    clear h1
    obtain ⟨TX, hTX⟩ : ∃ TX : List Int, TX = [91] ++ T ++ [93] := ⟨_, rfl⟩
    rw [← hTX]
    have HTX := Lib.hid hTX
    clear hTX
    have HC := Lib.hid (wbyte_any HP.out.1 91 (by have := HLN.out; simp only [List.length_append, List.length_cons, List.length_nil] at this ⊢; omega) (Nat.le_trans hBw HP.out.size))
    go_enter Tryz.func54, Tryz.ntmps54
    go_wp2_with fail
    generalize w.alloc (.cells #[.int .i64 x.kind, .string x.name, .int .i64 x.low, .int .i64 x.high, .slice A n c] 24) = W1 at *
    refine HC.out.mono ?_
    rintro e w3 hp
    have HPn := Lib.hid (HP.out.put hp)
    have hkp := hp.2.2.2
    have HBRn := Lib.hid (HBR.out.trans hp.2.2.1)
    obtain ⟨rfl, q1, q2, q3⟩ := hp
    clear HP HC q1 q2 q3
    have HP := HPn
    clear HPn
    have HROWn := Lib.hid (hkp.2 _ _ HROW.out rfl)
    clear HROW
    have HROW := HROWn
    clear HROWn
    obtain ⟨r0, r1, r2, r3, r4⟩ := cells5 HROW.out
    clear hkp HBR
    have HBR := HBRn
    clear HBRn
    have HC := Lib.hid (HKI.out _ _ HP.out.1 (HT.out.on HP.out.2.1) (Nat.le_trans hBw HP.out.size) HBR.out (by have := HLN.out; simp only [List.length_append, List.length_cons, List.length_nil] at this ⊢; omega))
    go_wp2_with fail
    refine HC.out.mono ?_
    rintro e w3 hp
    have HPn := Lib.hid (HP.out.put hp)
    have hkp := hp.2.2.2
    have HBRn := Lib.hid (HBR.out.trans hp.2.2.1)
    obtain ⟨rfl, q1, q2, q3⟩ := hp
    clear HP HC q1 q2 q3
    have HP := HPn
    clear HPn
    have HROWn := Lib.hid (hkp.2 _ _ HROW.out rfl)
    clear HROW
    have HROW := HROWn
    clear HROWn
    obtain ⟨r0, r1, r2, r3, r4⟩ := cells5 HROW.out
    clear hkp HBR
    have HBR := HBRn
    clear HBRn
    have HC := Lib.hid (wbyte_any HP.out.1 93 (by have := HLN.out; simp only [List.length_append, List.length_cons, List.length_nil] at this ⊢; omega) (Nat.le_trans hBw HP.out.size))
    go_wp2_with fail
    refine HC.out.mono ?_
    rintro e w3 hp
    have HPn := Lib.hid (HP.out.put hp)
    have hkp := hp.2.2.2
    have HBRn := Lib.hid (HBR.out.trans hp.2.2.1)
    obtain ⟨rfl, q1, q2, q3⟩ := hp
    clear HP HC q1 q2 q3
    have HP := HPn
    clear HPn
    have HROWn := Lib.hid (hkp.2 _ _ HROW.out rfl)
    clear HROW
    have HROW := HROWn
    clear HROWn
    obtain ⟨r0, r1, r2, r3, r4⟩ := cells5 HROW.out
    clear hkp HBR
    have HBR := HBRn
    clear HBRn
    have HE := Lib.hid (HP.out.out (L := L) (M := TX) (by rw [HTX.out]; simp))
    clear HP
    go_wp2_with fail
    exact bodyPost_ret (v := .tuple #[]) (by simp [results, Tryz.results54, go_sem]) rfl HE.out
end Go.Proofs.YtmohefgdpddldaaGreatDoor
namespace Go.Proofs.YtmohefgdpddldaaGreatDoor
open Go.RowKit
open Y (Nd It noName)
open K (numsOf threeB twoB behindT betweenT brkB rngT txt kidsT partT anyB)

set_option maxHeartbeats 8000000 in
theorem form_step {k : Nat} (ih : FormW k) : FormW (k + 1) := by
  intro x hsz hany w B b L A n c h hT hBw hr hlen
  have hk : Y.sizeL x.kids ≤ k := by have := K.size_eq x; omega
  have ha := (K.any_kids hany).1
  have HB0 := kbelow_push w (.cells #[.int .i64 x.kind, .string x.name, .int .i64 x.low, .int .i64 x.high, .slice A n c] 24)
  have HROW := Lib.hid (heap_alloc_new w (.cells #[.int .i64 x.kind, .string x.name, .int .i64 x.low, .int .i64 x.high, .slice A n c] 24))
  have HP := Lib.hid ((Pen.refl h).below hBw HB0)
  have hz : (w.alloc (.cells #[.int .i64 x.kind, .string x.name, .int .i64 x.low, .int .i64 x.high, .slice A n c] 24)).heap.size = w.heap.size + 1 := by simp
  have HT := Lib.hid hT
  have HKI : Hid (∀ (w' : World) (L' : List Int), Pn w' B b L' → TbB B w' → B ≤ w'.heap.size → Below B w w' → L'.length + (kidsT x.kind true x.kids).length ≤ 140737488355328 → Calls Tryz.prog 56 #[.pointer (some ⟨b, 0, none⟩), .agg #[.int .i64 x.kind, .string x.name, .int .i64 x.low, .int .i64 x.high, .slice A n c]] w' (PutV B b L' (kidsT x.kind true x.kids) (.tuple #[]) w')) := fun w' L' h1 h2 h3 h4 h5 => kids_of ih hk ha h1 h2 h3 (hr.keep (fun _ h => h) (fun p hp => h4.cell (p := p) hp)) h5
  have HBR : Hid (Below B w (w.alloc (.cells #[.int .i64 x.kind, .string x.name, .int .i64 x.low, .int .i64 x.high, .slice A n c] 24))) := HB0.mono hBw
  have hX := K.txt_eq x
  by_cases h1 : x.kind = 1
  · rw [if_pos h1] at hX
    have k1 : (x.kind == 1) = true := by rw [beqd]; exact decide_eq_true (by omega)
    rw [hX] at hlen ⊢
    have HLN := Lib.hid hlen
    have HC := Lib.hid (wtext_any HP.out.1 ⟨#[40, 41]⟩ (by have := HLN.out; simp only [List.length_cons, List.length_nil] at this; show L.length + 2 ≤ _; omega) (Nat.le_trans hBw HP.out.size))
    obtain ⟨TX, hTX⟩ : ∃ TX : List Int, TX = [40, 41] := ⟨_, rfl⟩
    rw [← hTX]
    have HTX := Lib.hid hTX
    clear hTX
    clear h hT hr ha hk HB0 ih hlen hX HKI h1
    go_enter Tryz.func24, Tryz.ntmps24
    go_wp2_with fail
    generalize w.alloc (.cells #[.int .i64 x.kind, .string x.name, .int .i64 x.low, .int .i64 x.high, .slice A n c] 24) = W1 at *
    refine HC.out.mono ?_
    rintro e w3 hp
    have HPn := Lib.hid (HP.out.put hp)
    have hkp := hp.2.2.2
    have HBRn := Lib.hid (HBR.out.trans hp.2.2.1)
    obtain ⟨rfl, q1, q2, q3⟩ := hp
    clear HP HC q1 q2 q3
    have HP := HPn
    clear HPn
    have HROWn := Lib.hid (hkp.2 _ _ HROW.out rfl)
    clear HROW
    have HROW := HROWn
    clear HROWn
    obtain ⟨r0, r1, r2, r3, r4⟩ := cells5 HROW.out
    clear hkp HBR
    have HBR := HBRn
    clear HBRn
    have HE := Lib.hid (HP.out.out (L := L) (M := TX) (by rw [HTX.out]; rfl))
    clear HP
    go_wp2_with fail
    exact bodyPost_ret (v := .tuple #[]) (by simp [results, Tryz.results24, go_sem]) rfl HE.out
  · rw [if_neg h1] at hX
    have k1 : (x.kind == 1) = false := by rw [beqd]; exact decide_eq_false (by omega)
    clear h1
    by_cases h3 : x.kind = 3
    · rw [if_pos h3] at hX
      have k3 : (x.kind == 3) = true := by rw [beqd]; exact decide_eq_true (by omega)
      rw [hX] at hlen ⊢
      have HLN := Lib.hid hlen
      have HC := Lib.hid (wbyte_any HP.out.1 46 (by have := HLN.out; simp only [List.length_append, List.length_cons, List.length_nil] at this ⊢; omega) (Nat.le_trans hBw HP.out.size))
      obtain ⟨TX, hTX⟩ : ∃ TX : List Int, TX = [46] := ⟨_, rfl⟩
      rw [← hTX]
      have HTX := Lib.hid hTX
      clear hTX
      clear h hT hr ha hk HB0 ih hlen hX HKI h3
      go_enter Tryz.func24, Tryz.ntmps24
      go_wp2_with fail
      generalize w.alloc (.cells #[.int .i64 x.kind, .string x.name, .int .i64 x.low, .int .i64 x.high, .slice A n c] 24) = W1 at *
      refine HC.out.mono ?_
      rintro e w3 hp
      have HPn := Lib.hid (HP.out.put hp)
      have hkp := hp.2.2.2
      have HBRn := Lib.hid (HBR.out.trans hp.2.2.1)
      obtain ⟨rfl, q1, q2, q3⟩ := hp
      clear HP HC q1 q2 q3
      have HP := HPn
      clear HPn
      have HROWn := Lib.hid (hkp.2 _ _ HROW.out rfl)
      clear HROW
      have HROW := HROWn
      clear HROWn
      obtain ⟨r0, r1, r2, r3, r4⟩ := cells5 HROW.out
      clear hkp HBR
      have HBR := HBRn
      clear HBRn
      have HE := Lib.hid (HP.out.out (L := L) (M := TX) (by rw [HTX.out]))
      clear HP
      go_wp2_with fail
      exact bodyPost_ret (v := .tuple #[]) (by simp [results, Tryz.results24, go_sem]) rfl HE.out
    · rw [if_neg h3] at hX
      have k3 : (x.kind == 3) = false := by rw [beqd]; exact decide_eq_false (by omega)
      clear h3
      by_cases h2 : x.kind = 2
      · rw [if_pos h2] at hX
        have k2 : (x.kind == 2) = true := by rw [beqd]; exact decide_eq_true (by omega)
        rw [hX] at hlen ⊢
        have HLN := Lib.hid hlen
        have HC := Lib.hid (pname_any HP.out.1 x.name (by have := HLN.out; rw [List.length_cons, K.numsOf_len] at this; omega) (Nat.le_trans hBw HP.out.size))
        obtain ⟨TX, hTX⟩ : ∃ TX : List Int, TX = 36 :: numsOf x.name := ⟨_, rfl⟩
        rw [← hTX]
        have HTX := Lib.hid hTX
        clear hTX
        clear h hT hr ha hk HB0 ih hlen hX HKI h2
        go_enter Tryz.func24, Tryz.ntmps24
        go_wp2_with fail
        generalize w.alloc (.cells #[.int .i64 x.kind, .string x.name, .int .i64 x.low, .int .i64 x.high, .slice A n c] 24) = W1 at *
        refine HC.out.mono ?_
        rintro e w3 hp
        have HPn := Lib.hid (HP.out.put hp)
        have hkp := hp.2.2.2
        have HBRn := Lib.hid (HBR.out.trans hp.2.2.1)
        obtain ⟨rfl, q1, q2, q3⟩ := hp
        clear HP HC q1 q2 q3
        have HP := HPn
        clear HPn
        have HROWn := Lib.hid (hkp.2 _ _ HROW.out rfl)
        clear HROW
        have HROW := HROWn
        clear HROWn
        obtain ⟨r0, r1, r2, r3, r4⟩ := cells5 HROW.out
        clear hkp HBR
        have HBR := HBRn
        clear HBRn
        have HE := Lib.hid (HP.out.out (L := L) (M := TX) (by rw [HTX.out]))
        clear HP
        go_wp2_with fail
        exact bodyPost_ret (v := .tuple #[]) (by simp [results, Tryz.results24, go_sem]) rfl HE.out
      · rw [if_neg h2] at hX
        have k2 : (x.kind == 2) = false := by rw [beqd]; exact decide_eq_false (by omega)
        clear h2
        by_cases h4 : x.kind = 4
        · rw [if_pos h4] at hX
          have k4 : (x.kind == 4) = true := by rw [beqd]; exact decide_eq_true (by omega)
          rw [hX] at hlen ⊢
          have HLN := Lib.hid hlen
          rw [show kidsT 4 true x.kids = kidsT x.kind true x.kids by rw [h4]] at HLN ⊢
          have HC := Lib.hid (pset_of ih hk ha HP.out.1 (HT.out.on HP.out.2.1) (Nat.le_trans hBw HP.out.size) (hr.keep (fun _ h => h) (fun p hp => HBR.out.cell (p := p) hp)) HLN.out)
          obtain ⟨TX, hTX⟩ : ∃ TX : List Int, TX = (if x.low = 1 then [91, 94] else [91]) ++ kidsT x.kind true x.kids ++ [93] := ⟨_, rfl⟩
          rw [← hTX]
          have HTX := Lib.hid hTX
          clear hTX
          clear h hT hr ha hk HB0 ih hlen hX HKI h4
          go_enter Tryz.func24, Tryz.ntmps24
          go_wp2_with fail
          generalize w.alloc (.cells #[.int .i64 x.kind, .string x.name, .int .i64 x.low, .int .i64 x.high, .slice A n c] 24) = W1 at *
          refine HC.out.mono ?_
          rintro e w3 hp
          have HPn := Lib.hid (HP.out.put hp)
          have hkp := hp.2.2.2
          have HBRn := Lib.hid (HBR.out.trans hp.2.2.1)
          obtain ⟨rfl, q1, q2, q3⟩ := hp
          clear HP HC q1 q2 q3
          have HP := HPn
          clear HPn
          have HROWn := Lib.hid (hkp.2 _ _ HROW.out rfl)
          clear HROW
          have HROW := HROWn
          clear HROWn
          obtain ⟨r0, r1, r2, r3, r4⟩ := cells5 HROW.out
          clear hkp HBR
          have HBR := HBRn
          clear HBRn
          have HE := Lib.hid (HP.out.out (L := L) (M := TX) (by rw [HTX.out]))
          clear HP
          go_wp2_with fail
          exact bodyPost_ret (v := .tuple #[]) (by simp [results, Tryz.results24, go_sem]) rfl HE.out
        · rw [if_neg h4] at hX
          have k4 : (x.kind == 4) = false := by rw [beqd]; exact decide_eq_false (by omega)
          clear h4
          by_cases h5 : x.kind = 5
          · rw [if_pos h5] at hX
            have k5 : (x.kind == 5) = true := by rw [beqd]; exact decide_eq_true (by omega)
            rw [hX] at hlen ⊢
            have HLN := Lib.hid hlen
            obtain ⟨z0, z1, z2⟩ := any_rng hany h5
            have HC := Lib.hid (pchars_any (A := A) (n := n) (c := c) HP.out.1 (HT.out.on HP.out.2.1) z0 z1 z2 HLN.out (Nat.le_trans hBw HP.out.size))
            obtain ⟨TX, hTX⟩ : ∃ TX : List Int, TX = rngT x.low x.high := ⟨_, rfl⟩
            rw [← hTX]
            have HTX := Lib.hid hTX
            clear hTX
            clear h hT hr ha hk HB0 ih hlen hX HKI h5
            go_enter Tryz.func24, Tryz.ntmps24
            go_wp2_with fail
            generalize w.alloc (.cells #[.int .i64 x.kind, .string x.name, .int .i64 x.low, .int .i64 x.high, .slice A n c] 24) = W1 at *
            refine HC.out.mono ?_
            rintro e w3 hp
            have HPn := Lib.hid (HP.out.put hp)
            have hkp := hp.2.2.2
            have HBRn := Lib.hid (HBR.out.trans hp.2.2.1)
            obtain ⟨rfl, q1, q2, q3⟩ := hp
            clear HP HC q1 q2 q3
            have HP := HPn
            clear HPn
            have HROWn := Lib.hid (hkp.2 _ _ HROW.out rfl)
            clear HROW
            have HROW := HROWn
            clear HROWn
            obtain ⟨r0, r1, r2, r3, r4⟩ := cells5 HROW.out
            clear hkp HBR
            have HBR := HBRn
            clear HBRn
            have HE := Lib.hid (HP.out.out (L := L) (M := TX) (by rw [HTX.out]))
            clear HP
            go_wp2_with fail
            exact bodyPost_ret (v := .tuple #[]) (by simp [results, Tryz.results24, go_sem]) rfl HE.out
          · rw [if_neg h5] at hX
            have k5 : (x.kind == 5) = false := by rw [beqd]; exact decide_eq_false (by omega)
            clear h5
            rw [hX] at hlen ⊢
            have HLN := Lib.hid hlen
            have HC := Lib.hid (HKI.out _ _ HP.out.1 (HT.out.on HP.out.2.1) (Nat.le_trans hBw HP.out.size) HBR.out (by have := HLN.out; simp only [List.length_append, List.length_cons, List.length_nil] at this ⊢; omega))
            obtain ⟨sb, hsb, hsn, hsz', _, _⟩ := behindS_is x.kind
            have hbt := behind_any x.kind
            rw [hsb] at hbt
            have HBT := Lib.hid hbt
            have HSN := Lib.hid hsn
            have hszb := K.numsOf_len sb
            rw [hsn] at hszb
            obtain ⟨TX, hTX⟩ : ∃ TX : List Int, TX = kidsT x.kind true x.kids ++ behindT x.kind := ⟨_, rfl⟩
            rw [← hTX]
            have HTX := Lib.hid hTX
            clear h hT hr ha hk HB0 ih hlen hX HKI hbt hsb hsn hTX
            generalize behindT x.kind = TB at *
            generalize kidsT x.kind true x.kids = T at *
            go_enter Tryz.func24, Tryz.ntmps24
            go_wp2_with fail
            generalize w.alloc (.cells #[.int .i64 x.kind, .string x.name, .int .i64 x.low, .int .i64 x.high, .slice A n c] 24) = W1 at *
            refine HC.out.mono ?_
            rintro e W2 hp
            have HPn := Lib.hid (HP.out.put hp)
            have hkp := hp.2.2.2
            have HBRn := Lib.hid (HBR.out.trans hp.2.2.1)
            obtain ⟨rfl, q1, q2, q3⟩ := hp
            clear HP HC q1 q2 q3
            have HP := HPn
            clear HPn
            have HROWn := Lib.hid (hkp.2 _ _ HROW.out rfl)
            clear HROW
            have HROW := HROWn
            clear HROWn
            obtain ⟨r0, r1, r2, r3, r4⟩ := cells5 HROW.out
            clear hkp HBR
            have HBR := HBRn
            clear HBRn
            go_wp2_with fail
            have HK0 : Hid (W2.drew.cell? ⟨w.heap.size, 0, none⟩ = some (.int .i64 x.kind)) := (cells5 HROW.out).1
            have HWS : Hid (Calls _ _ _ W2.drew _) := wtext_any (w := W2.drew) (B := B) (b := b) (L := L ++ T) HP.out.1 sb (by have := HLN.out; simp only [List.length_append] at this ⊢; omega) (Nat.le_trans hBw HP.out.size)
            go_region_held_law (fun w' => w'.cell? ⟨w.heap.size, 0, none⟩ = some (.int .i64 x.kind)) (first | exact HK0.out | exact HK1.out) (first | (go_at_call 57; refine (HBT.out _).mono ?_; rintro e w5 ⟨rfl, rfl⟩) | (go_at_call 52; refine HWS.out.mono ?_; rintro e w5 hp; have HPX := Lib.hid hp; have HK1 : Hid (w5.cell? ⟨w.heap.size, 0, none⟩ = some (.int .i64 x.kind)) := (cells5 (hp.2.2.2.2 _ _ (show W2.drew.heap[w.heap.size]? = _ from HROW.out) rfl)).1; obtain ⟨rfl, q1, q2, q3⟩ := hp; clear q1 q2 q3))
            have hp := HPX.out
            have HPn := Lib.hid (HP.out.drew.put hp)
            clear HP HROW HBR HPX hp HK0 HK1 HWS HBT
            have HP := HPn
            clear HPn
            rw [HSN.out] at HP
            have HE := Lib.hid (HP.out.out (L := L) (M := TX) (by rw [HTX.out]; simp))
            clear HP
            go_wp2_with fail
            exact bodyPost_ret (v := .tuple #[]) (by simp [results, Tryz.results24, go_sem]) rfl HE.out
theorem form_all_w : ∀ k : Nat, FormW k := by
  intro k
  induction k with
  | zero => intro x h; have := Nd.size_pos x; omega
  | succ k ih => exact form_step ih
theorem pform_any {x : Nd} (hx : anyB x = true) {w : World} {B b : Nat} {L : List Int} {A : Option Addr} {n c : Nat} (h : Pn w B b L) (hT : TbB B w) (hBw : B ≤ w.heap.size) (hr : RdN w (· < B) A n c x.kids) (hlen : L.length + (txt x).length ≤ 140737488355328) :
    Calls Tryz.prog 24 #[.pointer (some ⟨b, 0, none⟩), .agg #[.int .i64 x.kind, .string x.name, .int .i64 x.low, .int .i64 x.high, .slice A n c]] w (PutV B b L (txt x) (.tuple #[]) w) := form_all_w x.size x (Nat.le_refl _) hx w B b L A n c h hT hBw hr hlen
end Go.Proofs.YtmohefgdpddldaaGreatDoor
namespace Go.Proofs.YtmohefgdpddldaaGreatDoor
open Go.RowKit
open Y (Nd It noName)
open K (numsOf threeB twoB behindT betweenT brkB rngT txt kidsT partT anyB decT fracL numT lineT itemsT)

theorem mk_str (l : List UInt8) : (⟨l.toArray⟩ : ByteArray) = strOfNums (l.map fun b => (b.toNat : Int)) := by
  apply ByteArray.ext
  apply Array.ext'
  rw [strOfNums_data, List.map_map]
  show l = _
  conv => lhs; rw [← List.map_id l]
  refine List.map_congr_left fun b _ => ?_
  simp
theorem str_app2 (l m : List Int) : strOfNums l ++ strOfNums m = strOfNums (l ++ m) := by
  apply ByteArray.ext
  apply Array.ext'
  rw [ByteArray.data_append, Array.toList_append, strOfNums_data, strOfNums_data, strOfNums_data, List.map_append]
theorem tab_on {w w' : World} (h : Lib.TabIs Tryz.prog w "internal/strconv.uint64pow10" .u64 Lib.pow10Tab) (hb : Below w.heap.size w w') : Lib.TabIs Tryz.prog w' "internal/strconv.uint64pow10" .u64 Lib.pow10Tab := Lib.tabBelow_of_tabIs h w' hb
theorem itoa_any {w : World} (hT : Lib.TabIs Tryz.prog w "internal/strconv.uint64pow10" .u64 Lib.pow10Tab) {n : Int} (h0 : 0 ≤ n) (h1 : n ≤ 999999) :
    Calls Tryz.prog 97 #[.int .i64 n] w fun e w' => e = .returned (.string ⟨(Lib.itoa n).toArray⟩) ∧ Below w.heap.size w w' := by
  refine (Any.strconv_Itoa Tryz.layItoa n (by omega) (by omega) w hT).mono ?_
  rintro e w' ⟨he, k, os, rfl⟩
  exact ⟨he, Lib.below_grow _ _ (Nat.le_refl _) k os⟩
theorem itoa_pos (n : Int) : 1 ≤ (Lib.itoa n).length := by
  unfold Lib.itoa
  split
  · simp
  · rw [Lib.decDigits]
    split <;> simp
theorem trim_any (s : ByteArray) (hs : s.size ≤ 9223372036854775807) (w : World) :
    Calls Tryz.prog 98 #[.string s, .string ⟨#[48]⟩] w fun e w' => e = .returned (.string ⟨(Lib.trimRightB s.data.toList 48).toArray⟩) ∧ w = w' := by
  refine (Any.strings_TrimRight_one Tryz.layTrim s 48 (by decide) w hs).mono ?_
  rintro e w' ⟨he, hw⟩
  exact ⟨he, hw.symm⟩
set_option maxHeartbeats 2000000 in
theorem number_any {w : World} (hT : Lib.TabIs Tryz.prog w "internal/strconv.uint64pow10" .u64 Lib.pow10Tab) {n : Int} (h0 : 0 ≤ n) (h1 : n ≤ 999999) :
    Calls Tryz.prog 65 #[.int .i64 n] w fun e w' => e = .returned (.string (strOfNums (numT n))) ∧ Below w.heap.size w w' := by
  have hq0 : 0 ≤ n / 1000 := by omega
  have hq1 : n / 1000 ≤ 999 := by omega
  have hr0 : 0 ≤ n % 1000 := by omega
  have hr1 : n % 1000 < 1000 := by omega
  have HT := Lib.hid hT
  have HC := Lib.hid (itoa_any (n := n / 1000) hT hq0 (by omega))
  have HC2 : Hid (∀ W, Below w.heap.size w W → Calls Tryz.prog 97 #[.int .i64 (1000 + n % 1000)] W fun e w' => e = .returned (.string ⟨(Lib.itoa (1000 + n % 1000)).toArray⟩) ∧ Below W.heap.size W w') := fun W h => itoa_any (tab_on HT.out h) (by omega) (by omega)
  have hl := itoa_pos (1000 + n % 1000)
  have hl2 := Lib.itoa_length_le (1000 + n % 1000) (by omega) (by omega)
  have hlq := Lib.itoa_length_le (n / 1000) (by omega) (by omega)
  have hU : Hid (((⟨(Lib.itoa (1000 + n % 1000)).toArray⟩ : ByteArray).extract 1 (⟨(Lib.itoa (1000 + n % 1000)).toArray⟩ : ByteArray).size).data.toList = (Lib.itoa (1000 + n % 1000)).drop 1) := by
    show _ = _
    rw [Lib.extract_mk]
    show List.take _ _ = _
    rw [List.take_of_length_le]
    rw [Lib.size_mk, List.length_drop]; omega
  have hN : Hid (strOfNums (numT n) = ⟨(Lib.itoa (n / 1000)).toArray⟩ ++ (if fracL n = [] then ⟨#[]⟩ else ⟨#[46]⟩ ++ ⟨(fracL n).toArray⟩)) := by
    show _ = _
    unfold K.numT K.decT
    rw [mk_str (Lib.itoa (n / 1000))]
    split
    · rw [List.append_nil]
      have : (⟨#[]⟩ : ByteArray) = strOfNums [] := rfl
      rw [this, str_app2, List.append_nil]
    · have : (⟨#[46]⟩ : ByteArray) = strOfNums [46] := rfl
      rw [this, mk_str (fracL n), str_app2, str_app2]; rfl
  have hus : (⟨(Lib.itoa (1000 + n % 1000)).toArray⟩ : ByteArray).size = (Lib.itoa (1000 + n % 1000)).length := Lib.size_mk _
  have hqs : (⟨(Lib.itoa (n / 1000)).toArray⟩ : ByteArray).size = (Lib.itoa (n / 1000)).length := Lib.size_mk _
  have hfr : Hid (∀ s : ByteArray, s.data.toList = (Lib.itoa (1000 + n % 1000)).drop 1 → Lib.trimRightB s.data.toList 48 = fracL n) := fun s h => by rw [h]; rfl
  have hfl : (fracL n).length ≤ 21 := by
    unfold K.fracL Lib.trimRightB
    rw [List.length_reverse]
    refine Nat.le_trans (List.dropWhile_sublist _).length_le ?_
    rw [List.length_reverse, List.length_drop]; omega
  have hu1 : 1 ≤ (⟨(Lib.itoa (1000 + n % 1000)).toArray⟩ : ByteArray).size := by rw [hus]; exact hl
  have hu2 : (⟨(Lib.itoa (1000 + n % 1000)).toArray⟩ : ByteArray).size ≤ 21 := by rw [hus]; exact hl2
  have hq2 : (⟨(Lib.itoa (n / 1000)).toArray⟩ : ByteArray).size ≤ 21 := by rw [hqs]; exact hlq
  generalize (⟨(Lib.itoa (1000 + n % 1000)).toArray⟩ : ByteArray) = U at *
  generalize (⟨(Lib.itoa (n / 1000)).toArray⟩ : ByteArray) = QQ at *
  have HTR : Hid (∀ W, Calls Tryz.prog 98 #[.string (U.extract 1 U.size), .string ⟨#[48]⟩] W fun e w' => e = .returned (.string ⟨(fracL n).toArray⟩) ∧ W = w') := fun W => by
    rw [← hfr.out _ hU.out]
    exact trim_any _ (by rw [ByteArray.size_extract]; omega) W
  generalize strOfNums (numT n) = RES at *
  clear hl hl2 hlq hU hus hqs hfr hT
  go_enter Tryz.func65, Tryz.ntmps65
  go_wp2_with fail
  refine HC.out.mono ?_
  rintro e w1 ⟨rfl, hb⟩
  have HB := Lib.hid hb
  clear hb HC
  go_wp2_with fail
  refine (HC2.out _ HB.out).mono ?_
  rintro e w2 ⟨rfl, hb⟩
  have HB2 := Lib.hid (HB.out.trans (hb.mono HB.out.size))
  clear hb HB HC2
  go_wp2_with fail
  refine (HTR.out _).mono ?_
  rintro e w3 ⟨rfl, rfl⟩
  by_cases hf : fracL n = []
  · rw [hf]
    have HF : Hid (RES = QQ) := by
      show _ = _
      rw [hN.out, if_pos hf]
      exact ByteArray.append_empty
    clear hN hf HTR hfl
    go_wp2_with fail
    go_ret
    exact ⟨ret_str HF.out.symm, HB2.out⟩
  · have HF : Hid (RES = QQ ++ ⟨#[46]⟩ ++ ⟨(fracL n).toArray⟩) := by
      show _ = _
      rw [hN.out, if_neg hf, ByteArray.append_assoc]
    have hfs : (⟨(fracL n).toArray⟩ : ByteArray).size = (fracL n).length := Lib.size_mk _
    have hf2 : (⟨(fracL n).toArray⟩ : ByteArray).size ≤ 21 := by omega
    have g1 := str_some (s := ⟨(fracL n).toArray⟩) (by rw [hfs]; intro e; exact hf (List.eq_nil_of_length_eq_zero e))
    clear hN hf HTR hfl hfs
    generalize (⟨(fracL n).toArray⟩ : ByteArray) = FF at *
    have a1 : ¬ 9223372036854775807 < QQ.size + 1 := by omega
    have a2 : ¬ 9223372036854775807 < QQ.size + 1 + FF.size := by omega
    go_wp2_with fail
    go_ret
    exact ⟨ret_str HF.out.symm, HB2.out⟩
def BytL (l : List Int) : Prop := ∀ x ∈ l, 0 ≤ x ∧ x < 256
theorem bytL_app {l m : List Int} (h : BytL l) (k : BytL m) : BytL (l ++ m) := fun x hx => (List.mem_append.1 hx).elim (h x) (k x)
theorem bytL_of {l : List Int} (h : (l.all fun x => decide (0 ≤ x ∧ x < 256)) = true) : BytL l := fun x hx => by
  have := List.all_eq_true.1 h x hx
  simpa using this
theorem bytL_u8 (l : List UInt8) : BytL (l.map fun b => (b.toNat : Int)) := fun x hx => by
  obtain ⟨b, _, rfl⟩ := List.mem_map.1 hx
  have := b.toNat_lt
  exact ⟨by omega, by omega⟩
theorem behind_byt (k : Int) : BytL (behindT k) := by unfold K.behindT; split <;> (try split) <;> (try split) <;> exact bytL_of (by decide)
theorem between_byt (k : Int) : BytL (betweenT k) := by unfold K.betweenT; split <;> (try split) <;> (try split) <;> exact bytL_of (by decide)
theorem kidsT_byt (k : Int) : ∀ (l : List Nd) (f : Bool), (∀ y ∈ l, BytL (txt y)) → BytL (kidsT k f l)
  | [], f, _ => by rw [K.kidsT]; exact bytL_of (by decide)
  | x :: t, f, h => by
    rw [K.kidsT_cons]
    refine bytL_app (bytL_app ?_ ?_) (kidsT_byt k t false fun y hy => h y (List.mem_cons_of_mem _ hy))
    · split
      · exact bytL_of (by decide)
      · exact between_byt k
    · unfold K.partT
      have := h x (List.mem_cons_self ..)
      split
      · exact bytL_app (bytL_app (bytL_of (by decide)) this) (bytL_of (by decide))
      · exact this
theorem txt_byt : ∀ (n : Nat) (x : Nd), x.size ≤ n → anyB x = true → BytL (txt x) := by
  intro n
  induction n with
  | zero => intro x h; have := x.size_pos; omega
  | succ n ih =>
    intro x hn h
    have hs := K.size_eq x
    have hkids : ∀ k f, BytL (kidsT k f x.kids) := fun k f => kidsT_byt k x.kids f fun y hy => ih y (by have := K.size_in hy; omega) ((K.any_kids h).1 y hy)
    rw [K.txt_eq]
    split
    · exact bytL_of (by decide)
    · split
      · exact bytL_of (by decide)
      · split
        · exact bytL_app (l := [36]) (bytL_of (by decide)) (K.numsOf_byte _)
        · split
          · refine bytL_app (bytL_app ?_ (hkids 4 true)) (bytL_of (by decide))
            split <;> exact bytL_of (by decide)
          · split
            · rename_i h5
              obtain ⟨z0, z1, z2⟩ := any_rng h h5
              unfold K.rngT
              refine bytL_app (text_byte z0) ?_
              split
              · exact bytL_of (by decide)
              · exact bytL_app (l := [45]) (bytL_of (by decide)) (text_byte (by omega))
            · exact bytL_app (hkids _ true) (behind_byt _)
theorem numT_byt (n : Int) : BytL (numT n) := by
  unfold K.numT K.decT
  refine bytL_app (bytL_u8 _) ?_
  split
  · exact bytL_of (by decide)
  · exact bytL_app (l := [46]) (bytL_of (by decide)) (bytL_u8 _)
theorem numT_len {n : Int} (h0 : 0 ≤ n) (h1 : n ≤ 999999) : (numT n).length ≤ 50 := by
  have hl2 := Lib.itoa_length_le (1000 + n % 1000) (by omega) (by omega)
  have hlq := Lib.itoa_length_le (n / 1000) (by omega) (by omega)
  have hfl : (fracL n).length ≤ 21 := by
    unfold K.fracL Lib.trimRightB
    rw [List.length_reverse]
    refine Nat.le_trans (List.dropWhile_sublist _).length_le ?_
    rw [List.length_reverse, List.length_drop]; omega
  unfold K.numT K.decT
  rw [List.length_append, List.length_map]
  split
  · simp; omega
  · rw [List.length_cons, List.length_map]; omega
theorem right_anyB {x : Nd} (h : K.rightB x = true) : anyB x = true := (K.right_any h).2.1
theorem right_len {x : Nd} (h : K.rightB x = true) : (txt x).length ≤ 15000 := (K.right_any h).2.2
/-- A line is short, and bytes, where the item may be written. -/
theorem line_ok {x : It} (h : K.mayB x = true) : BytL (lineT x) ∧ (lineT x).length ≤ 30100 := by
  unfold K.mayB at h
  unfold K.lineT
  by_cases h1 : x.kind = 1
  · rw [if_pos h1] at h ⊢
    simp only [Bool.and_eq_true] at h
    have hn := K.name_len h.1.1.1.1
    have hb := right_len h.1.2
    refine ⟨bytL_app (bytL_app (bytL_app (l := [36]) (bytL_of (by decide)) (K.numsOf_byte _)) (bytL_of (by decide))) (txt_byt _ _ (Nat.le_refl _) (right_anyB h.1.2)), ?_⟩
    simp only [List.length_append, List.length_cons, List.length_nil]; omega
  · rw [if_neg h1] at h ⊢
    by_cases h2 : x.kind = 2
    · rw [if_pos h2] at h ⊢
      simp only [Bool.and_eq_true] at h
      have ho := h.1.1.2
      unfold K.numOk at ho
      simp only [Bool.and_eq_true, decide_eq_true_eq] at ho
      have hl := numT_len ho.1 ho.2
      have hb := right_len h.1.2
      have ha := right_len h.2
      have hs : (if x.cut = true then [32, 195, 183, 32] else [32, 195, 151, 32] : List Int).length = 4 := by split <;> rfl
      refine ⟨bytL_app (bytL_app (bytL_app (bytL_app (numT_byt _) (bytL_of (by decide))) (txt_byt _ _ (Nat.le_refl _) (right_anyB h.1.2))) ?_) (txt_byt _ _ (Nat.le_refl _) (right_anyB h.2)), ?_⟩
      · split <;> exact bytL_of (by decide)
      · simp only [List.length_append, List.length_cons, List.length_nil, hs]; omega
    · rw [if_neg h2] at h ⊢
      by_cases h3 : x.kind = 3
      · rw [if_pos h3] at h
        simp only [Bool.and_eq_true] at h
        have hl := h.1.1.1.1
        unfold W.lettersB at hl
        simp only [Bool.and_eq_true, decide_eq_true_eq] at hl
        refine ⟨bytL_app (bytL_app (bytL_of (by decide)) (K.numsOf_byte _)) ?_, ?_⟩
        · split
          · exact bytL_of (by decide)
          · exact bytL_app (l := [32]) (bytL_of (by decide)) (numT_byt _)
        · have hk : (if x.number = -1 then [] else 32 :: numT x.number : List Int).length ≤ 51 := by
            split
            · simp
            · rename_i hne
              have ho := h.1.1.1.2
              rw [Bool.or_eq_true, decide_eq_true_eq] at ho
              have ho := ho.resolve_left hne
              unfold K.numOk at ho
              simp only [Bool.and_eq_true, decide_eq_true_eq] at ho
              have := numT_len ho.1 ho.2
              rw [List.length_cons]; omega
          have : K.allowT.length = 7 := rfl
          simp only [List.length_append, this]; omega
      · rw [if_neg h3] at h; cases h
end Go.Proofs.YtmohefgdpddldaaGreatDoor
namespace Go.Proofs.YtmohefgdpddldaaGreatDoor
open Go.RowKit
open Y (Nd It noName)
open K (numsOf nameB twoB threeB aloneB endK pairB inS inF nosB deepB rightB noneB numOk mayB)

set_option maxHeartbeats 1000000 in
theorem name1_pred (l : List Int) (hl : ∀ x ∈ l, 0 ≤ x ∧ x < 256) (w0 : World) : PredB 70 #[] W.nmB l w0 := fun w x hx hW => by
  show Calls Tryz.prog 70 #[.int .u8 x] w _
  have HC := Lib.hid (plain_any x w)
  have HF : Hid (W.nmB x = (Q.plainB x || (x == 95))) := by show _ = _; unfold W.nmB; rw [beqd]
  have HB : Hid (Below w.heap.size w w) := Below.refl _ _
  obtain ⟨x0, x1⟩ := hl x hx
  clear hW hx hl
  generalize Q.plainB x = q at *
  cases h1 : (x == 95) with
  | true =>
    rw [h1, Bool.or_true] at HF
    go_enter Tryz.func70, Tryz.ntmps70
    go_wp2_with fail
    go_ret
    exact ⟨ret_bool HF.out.symm, HB.out⟩
  | false =>
    rw [h1, Bool.or_false] at HF
    go_enter Tryz.func70, Tryz.ntmps70
    go_wp2_with fail
    refine HC.out.mono ?_
    rintro e w2 ⟨rfl, rfl⟩
    go_wp2_with fail
    go_ret
    exact ⟨ret_bool HF.out.symm, HB.out⟩
theorem name_cons {s : ByteArray} (h : s.size ≠ 0) : ∃ c t, numsOf s = c :: t ∧ nameB (numsOf s) = (decide (s.size ≤ 16) && W.ltB c && (numsOf s).all W.nmB) ∧ (numsOf s)[0]? = some c := by
  cases hs : numsOf s with
  | nil => have := K.numsOf_len s; rw [hs] at this; exact absurd this.symm h
  | cons c t =>
    refine ⟨c, t, rfl, ?_, rfl⟩
    have := K.numsOf_len s
    rw [hs] at this
    unfold K.nameB
    rw [← this]; rfl
set_option maxHeartbeats 1000000 in
theorem isName_any (s : ByteArray) (w : World) : Calls Tryz.prog 31 #[.string s] w (BooK w (nameB (numsOf s))) := by
  by_cases h0 : s.size = 0
  · have g1 := str_none h0
    have HF : Hid (nameB (numsOf s) = false) := by
      have : numsOf s = [] := List.eq_nil_of_length_eq_zero (by rw [K.numsOf_len, h0])
      show _ = _
      rw [this]; rfl
    have HB : Hid (Below w.heap.size w w) := Below.refl _ _
    clear h0
    go_enter Tryz.func31, Tryz.ntmps31
    go_wp2_with fail
    go_ret
    exact ⟨ret_bool HF.out.symm, HB.out⟩
  · have g1 := str_some h0
    obtain ⟨c, t, hs, hF, hc0⟩ := name_cons h0
    have g2 : s.toList ≠ [] := fun e => by rw [e] at g1; cases g1
    have HB : Hid (Below w.heap.size w w) := Below.refl _ _
    by_cases h16 : s.size ≤ 16
    · rw [decide_eq_true h16, Bool.true_and] at hF
      have HF := Lib.hid hF
      have hlt : 0 < s.size := by omega
      have gc := (strIs_nums s).get hc0 hlt
      have g3 : ¬ (16 : Int) < (s.size : Int) := by omega
      have HL := Lib.hid (letter_any c w)
      have q1 := Lib.run_convert_string_bytes (P := Tryz.prog) w 9 41 5 s Tryz.underlying9 Tryz.underlying41 Tryz.underlying5
      have HBW := Lib.hid (bytes_below w 5 s)
      have HC := Lib.hid (allB_any 70 #[] W.nmB (bytes_rd w 5 s (by unfold maxLen; omega)) (enters_of Tryz.func70 (by kernel_rfl) rfl) (name1_pred (numsOf s) (K.numsOf_byte s) _))
      obtain ⟨c0, c1⟩ := K.numsOf_byte s c (List.mem_of_getElem? hc0)
      clear hs hF hc0 h0
      generalize W.ltB c = q at *
      generalize (numsOf s).all W.nmB = q2 at *
      generalize Lib.bytesWorld w 5 s = W1 at *
      go_enter Tryz.func31, Tryz.ntmps31
      go_wp2_with fail
      refine HL.out.mono ?_
      rintro e w2 ⟨rfl, rfl⟩
      cases q with
      | true =>
        go_wp2_with fail
        refine HC.out.mono ?_
        rintro e w2 ⟨rfl, hb2⟩
        have HB2 := Lib.hid (HBW.out.trans (hb2.mono HBW.out.size))
        clear hb2
        go_wp2_with fail
        go_ret
        exact ⟨ret_bool HF.out.symm, HB2.out⟩
      | false =>
        go_wp2_with fail
        go_ret
        exact ⟨ret_bool HF.out.symm, HB.out⟩
    · rw [decide_eq_false h16] at hF
      have HF := Lib.hid hF
      have g3 : (16 : Int) < (s.size : Int) := by omega
      clear hs hF hc0 h0
      go_enter Tryz.func31, Tryz.ntmps31
      go_wp2_with fail
      go_ret
      exact ⟨ret_bool HF.out.symm, HB.out⟩
end Go.Proofs.YtmohefgdpddldaaGreatDoor
namespace Go.Proofs.YtmohefgdpddldaaGreatDoor
open Go.RowKit
open Y (Nd It noName)
open K (numsOf nameB twoB threeB aloneB endK pairB inS inF nosB deepB rightB noneB numOk mayB)

theorem pair_no {k : Int} {l : List Nd} (h : l.length ≠ 2) : pairB k l = false := by
  unfold K.pairB
  split
  · exact absurd rfl h
  · rfl
theorem pair_two (k : Int) (a b : Nd) : pairB k [a, b] = (!twoB b.kind && ((k == 6) || (endK a == 2) || (endK a == 4))) := by unfold K.pairB; simp only [beqd]
theorem end_one {a : Nd} (h : twoB a.kind = false ∨ a.kids.length ≠ 2) : endK a = a.kind := by
  unfold K.endK
  rcases h with h | h
  · rw [if_neg (by rw [h]; decide)]
  · split
    · split
      · rename_i e; rw [e] at h; exact absurd rfl h
      · rfl
    · rfl
theorem end_two {a p q : Nd} (h : twoB a.kind = true) (hk : a.kids = [p, q]) : endK a = q.kind := by
  unfold K.endK
  rw [if_pos h, hk]
theorem two_of {l : List Nd} (h : l.length = 2) : ∃ a b, l = [a, b] := by
  match l, h with
  | [a, b], _ => exact ⟨a, b, rfl⟩
set_option maxHeartbeats 4000000 in
theorem isPair_any {x : Nd} {w : World} {A : Option Addr} {n c : Nat} (h : RdN w (Lt w) A n c x.kids) :
    Calls Tryz.prog 125 #[.agg #[.int .i64 x.kind, .string x.name, .int .i64 x.low, .int .i64 x.high, .slice A n c]] w (BooK w (pairB x.kind x.kids)) := by
  have HP := Lib.hid (kbelow_push w (.cells #[.int .i64 x.kind, .string x.name, .int .i64 x.low, .int .i64 x.high, .slice A n c] 24))
  have HA := Lib.hid (h.on HP.out)
  have HROW := Lib.hid (heap_alloc_new w (.cells #[.int .i64 x.kind, .string x.name, .int .i64 x.low, .int .i64 x.high, .slice A n c] 24))
  have hz : (w.alloc (.cells #[.int .i64 x.kind, .string x.name, .int .i64 x.low, .int .i64 x.high, .slice A n c] 24)).heap.size = w.heap.size + 1 := by simp
  have hn := h.len
  have hsm := h.small
  clear h
  by_cases h2 : n = 2
  · subst h2
    obtain ⟨a, b, hab⟩ := two_of hn
    have hF := pair_two x.kind a b
    rw [← hab] at hF
    have HF := Lib.hid hF
    rw [hab] at HA
    clear hF hn hab
    generalize pairB x.kind x.kids = res at *
    obtain ⟨b1, o1, y, A1, n1, c1, hA1, hb1, hy, hr1, s0, s1, s2, s3, s4⟩ := HA.out.got (i := 0) (by decide)
    obtain ⟨b2, o2, z, A2, n2, c2, hA2, hb2, hz2, hr2, t0, t1, t2, t3, t4⟩ := HA.out.got (i := 1) (by decide)
    subst hA1
    injection hA2 with hA2
    injection hA2 with e1 e2 _
    subst e1 e2
    obtain rfl : a = y := by simpa using hy
    obtain rfl : b = z := by simpa using hz2
    simp only [Nat.zero_mul, Nat.add_zero, Nat.one_mul] at s0 s1 s2 s3 s4 t0 t1 t2 t3 t4
    have HR1 := Lib.hid hr1
    have hn1 := hr1.len
    have hb1' : b1 < w.heap.size + 1 := by rw [← hz]; exact hb1
    clear hy hz2 hr1 hr2 hb1 hb2 HA t1 t2 t3 t4
    have HT := Lib.hid (fun W => ofTwo_any b.kind W)
    have HT2 := Lib.hid (fun W => ofTwo_any a.kind W)
    go_enter Tryz.func125, Tryz.ntmps125
    go_wp2_with fail
    generalize w.alloc (.cells #[.int .i64 x.kind, .string x.name, .int .i64 x.low, .int .i64 x.high, .slice (some ⟨b1, o1, none⟩) 2 c] 24) = W1 at *
    refine (HT.out _).mono ?_
    rintro e w2 ⟨rfl, rfl⟩
    have HB : Hid (Below w.heap.size w W1) := HP.out
    cases hq : twoB b.kind with
    | true =>
      rw [hq, Bool.not_true, Bool.false_and] at HF
      clear hq
      go_wp2_with fail
      go_ret
      exact ⟨ret_bool HF.out.symm, HB.out⟩
    | false =>
      rw [hq, Bool.not_false, Bool.true_and] at HF
      clear hq
      obtain ⟨r0, r1, r2, r3, r4⟩ := cells5 HROW.out
      go_wp2_with fail
      have HB2 : Hid (Below W1.heap.size W1 (W1.alloc (.cells #[.int .i64 a.kind, .string a.name, .int .i64 a.low, .int .i64 a.high, .slice A1 n1 c1] 24))) := kbelow_push _ _
      have HROW2 := Lib.hid (heap_alloc_new W1 (.cells #[.int .i64 a.kind, .string a.name, .int .i64 a.low, .int .i64 a.high, .slice A1 n1 c1] 24))
      have hz3 : (W1.alloc (.cells #[.int .i64 a.kind, .string a.name, .int .i64 a.low, .int .i64 a.high, .slice A1 n1 c1] 24)).heap.size = W1.heap.size + 1 := by simp
      have HB3 := Lib.hid (HB.out.trans (HB2.out.mono HB.out.size))
      generalize W1.alloc (.cells #[.int .i64 a.kind, .string a.name, .int .i64 a.low, .int .i64 a.high, .slice A1 n1 c1] 24) = W2 at *
      refine (HT2.out _).mono ?_
      rintro e w2 ⟨rfl, rfl⟩
      obtain ⟨u0, u1, u2, u3, u4⟩ := cells5 (N := w.heap.size + 1) (by rw [← hz]; exact HROW2.out)
      obtain ⟨r0, r1, r2, r3, r4⟩ := cells5 ((HB2.out.block w.heap.size (by omega)).trans HROW.out)
      cases hq : twoB a.kind with
      | false =>
        rw [end_one (.inl hq)] at HF
        clear hq s0 s1 s2 s3 s4 t0 HROW
        have HB := HB3
        cases k6 : (x.kind == 6) with
        | true =>
          rw [k6, Bool.true_or, Bool.true_or] at HF
          go_wp2_with fail
          go_ret
          exact ⟨ret_bool HF.out.symm, HB.out⟩
        | false =>
          rw [k6, Bool.false_or] at HF
          cases k2 : (a.kind == 2) with
          | true =>
            rw [k2, Bool.true_or] at HF
            go_wp2_with fail
            go_ret
            exact ⟨ret_bool HF.out.symm, HB.out⟩
          | false =>
            rw [k2, Bool.false_or] at HF
            go_wp2_with fail
            go_ret
            exact ⟨ret_bool HF.out.symm, HB.out⟩
      | true =>
        by_cases hn2 : n1 = 2
        · subst hn2
          obtain ⟨p, q, hpq⟩ := two_of hn1
          rw [end_two hq hpq] at HF
          rw [hpq] at HR1
          obtain ⟨b3, o3, y, A3, n3, c3, hA3, hb3, hy, hr3, v0, v1, v2, v3, v4⟩ := (HR1.out.on HB2.out).got (i := 1) (by decide)
          subst hA3
          obtain rfl : q = y := by simpa using hy
          simp only [Nat.one_mul] at v0 v1 v2 v3 v4
          have HB : Hid (Below w.heap.size w (set5 W2 (w.heap.size + 1) (.int .i64 q.kind) (.string q.name) (.int .i64 q.low) (.int .i64 q.high) (.slice A3 n3 c3))) := by
            unfold set5
            exact (((((HB3.out.setCell (p := ⟨w.heap.size + 1, _, none⟩) (Nat.le_succ _) _).setCell (p := ⟨w.heap.size + 1, _, none⟩) (Nat.le_succ _) _).setCell (p := ⟨w.heap.size + 1, _, none⟩) (Nat.le_succ _) _).setCell (p := ⟨w.heap.size + 1, _, none⟩) (Nat.le_succ _) _).setCell (p := ⟨w.heap.size + 1, _, none⟩) (Nat.le_succ _) _)
          clear hq hpq hy hr3 hb3 HR1 s0 s1 s2 s3 s4 t0 HROW
          have fz : ∀ j, W2.frozen? ⟨w.heap.size + 1, j, none⟩ = false := fun j => frozen_of_row _ _ _ _ _ (by rw [← hz]; exact HROW2.out)
          cases k6 : (x.kind == 6) with
          | true =>
            rw [k6, Bool.true_or, Bool.true_or] at HF
            go_wp2_with fail
            go_ret
            exact ⟨ret_bool HF.out.symm, HB.out⟩
          | false =>
            rw [k6, Bool.false_or] at HF
            cases k2 : (q.kind == 2) with
            | true =>
              rw [k2, Bool.true_or] at HF
              go_wp2_with fail
              go_ret
              exact ⟨ret_bool HF.out.symm, HB.out⟩
            | false =>
              rw [k2, Bool.false_or] at HF
              go_wp2_with fail
              go_ret
              exact ⟨ret_bool HF.out.symm, HB.out⟩
        · rw [end_one (.inr (by omega))] at HF
          have g2 : ((n1 : Int) == 2) = false := by rw [beq_eq_false_iff_ne]; omega
          clear hq s0 s1 s2 s3 s4 t0 HROW
          have HB := HB3
          cases k6 : (x.kind == 6) with
          | true =>
            rw [k6, Bool.true_or, Bool.true_or] at HF
            go_wp2_with fail
            go_ret
            exact ⟨ret_bool HF.out.symm, HB.out⟩
          | false =>
            rw [k6, Bool.false_or] at HF
            cases k2 : (a.kind == 2) with
            | true =>
              rw [k2, Bool.true_or] at HF
              go_wp2_with fail
              go_ret
              exact ⟨ret_bool HF.out.symm, HB.out⟩
            | false =>
              rw [k2, Bool.false_or] at HF
              go_wp2_with fail
              go_ret
              exact ⟨ret_bool HF.out.symm, HB.out⟩
  · have HF := Lib.hid (pair_no (k := x.kind) (l := x.kids) (by omega))
    have g1 : ((n : Int) != 2) = true := by rw [bne_iff_ne]; omega
    clear hn HA
    go_enter Tryz.func125, Tryz.ntmps125
    go_wp2_with fail
    go_ret
    exact ⟨ret_bool HF.out.symm, HP.out⟩
end Go.Proofs.YtmohefgdpddldaaGreatDoor
