/- The stream of expr: fail, next, take; and what one token alone is. The stream of expr: take; what one token alone is. What one token alone is; several forms. The reader of expr: what its functions leave; member. The reader of expr: member. The reader of expr: an append of one form; parts. The reader of expr: join, form. The reader of expr: form. The reader of expr: what stands between a token that opens and one that ends. The reader of expr: a form in brackets. The reader of expr: set, bare. How many nodes and letters a form has: the document's Weight. -/
import Derived.Test.YtmohefgdpddldaaGreatDoorCP03
import Derived.StillTailTactics
set_option maxRecDepth 100000
namespace Go.Proofs.YtmohefgdpddldaaGreatDoor
open Go.RowKit
open Y (Nd It Ps nextP takeP failP noTok noName)

section
variable {b : Nat} {w : World} {e : Int} {o : Nat} {s : Ps} {A : Option Addr} {n c : Nat}
end
end Go.Proofs.YtmohefgdpddldaaGreatDoor
namespace Go.Proofs.YtmohefgdpddldaaGreatDoor
open Go.RowKit
open Y (Nd It Ps nextP takeP failP noTok noName)

def Tok.v (t : Tok) : Value := .agg #[.int .i64 t.kind, .string (strOfNums t.text), .int .i64 t.low, .int .i64 t.high, .int .i64 t.pos]
def set5 (w : World) (N : Nat) (a0 a1 a2 a3 a4 : Value) : World := ((((w.setCell ⟨N, 0, none⟩ a0).setCell ⟨N, 1, none⟩ a1).setCell ⟨N, 2, none⟩ a2).setCell ⟨N, 3, none⟩ a3).setCell ⟨N, 4, none⟩ a4
theorem set5_row {w : World} {N : Nat} {x0 x1 x2 x3 x4 : Value} {t : TypeId} (h : w.heap[N]? = some (.cells #[x0, x1, x2, x3, x4] t (0, 0))) (a0 a1 a2 a3 a4 : Value) : (set5 w N a0 a1 a2 a3 a4).heap[N]? = some (.cells #[a0, a1, a2, a3, a4] t (0, 0)) :=
 heap_setCell_same _ _ _ _ _ _ (heap_setCell_same _ _ _ _ _ _ (heap_setCell_same _ _ _ _ _ _ (heap_setCell_same _ _ _ _ _ _ (heap_setCell_same _ _ _ _ _ _ h))))
theorem set5_size (w : World) (N : Nat) (a0 a1 a2 a3 a4 : Value) : (set5 w N a0 a1 a2 a3 a4).heap.size = w.heap.size := by simp [set5]
theorem set5_block (w : World) (N : Nat) (a0 a1 a2 a3 a4 : Value) {i : Nat} (hi : i ≠ N) : (set5 w N a0 a1 a2 a3 a4).heap[i]? = w.heap[i]? :=
 (Below.heap_setCell _ _ _ _ hi).trans ((Below.heap_setCell _ _ _ _ hi).trans ((Below.heap_setCell _ _ _ _ hi).trans ((Below.heap_setCell _ _ _ _ hi).trans (Below.heap_setCell _ _ _ _ hi))))
theorem Fe.set5 {b : Nat} {a c : World} (h : Fe b a c) {g : Nat} (hg : g = b ∨ a.heap.size ≤ g) (a0 a1 a2 a3 a4 : Value) : Fe b a (set5 c g a0 a1 a2 a3 a4) :=
 ((((h.set hg _ _).set hg _ _).set hg _ _).set hg _ _).set hg _ _
theorem cells5 {w : World} {N : Nat} {x0 x1 x2 x3 x4 : Value} {t : TypeId} (h : w.heap[N]? = some (.cells #[x0, x1, x2, x3, x4] t (0, 0))) :
  w.cell? ⟨N, 0, none⟩ = some x0 ∧ w.cell? ⟨N, 1, none⟩ = some x1 ∧ w.cell? ⟨N, 2, none⟩ = some x2 ∧ w.cell? ⟨N, 3, none⟩ = some x3 ∧ w.cell? ⟨N, 4, none⟩ = some x4 := by
 refine ⟨?_, ?_, ?_, ?_, ?_⟩ <;> (rw [cell_of_row _ _ _ _ _ _ h]; rfl)
theorem take_yes {e : Int} {ks : List Int} {t : Tok} {u : List Tok} (h : ks.contains t.kind = true) : takeP e ks (.live (t :: u)) = (t, .live u) := by rw [Y.take_cons, if_pos h]
theorem take_no {e : Int} {ks : List Int} {s : Ps} (h : nextP ks s = false) : takeP e ks s = (noTok, failP e 4 s) := by
 rcases s with (_ | ⟨t, u⟩) | ⟨a, y⟩
 ·rfl
 ·rw [Y.take_cons]; rw [Y.next_cons] at h; rw [if_neg (by rw [h]; decide)]; rfl
 ·rfl
section
variable {b : Nat} {w : World} {e : Int} {o : Nat} {s : Ps} {A : Option Addr} {n c : Nat}
end
end Go.Proofs.YtmohefgdpddldaaGreatDoor
namespace Go.Proofs.YtmohefgdpddldaaGreatDoor
open Go.RowKit
open Y (Nd It Ps nextP takeP failP noTok noName)

theorem IsN.parts {w : World} {S : Nat → Prop} {v : Value} {x : Nd} (h : IsN w S v x) : ∃ A n c, v = .agg #[.int .i64 x.kind, .string x.name, .int .i64 x.low, .int .i64 x.high, .slice A n c] ∧ RdN w S A n c x.kids := h
end Go.Proofs.YtmohefgdpddldaaGreatDoor
namespace Go.Proofs.YtmohefgdpddldaaGreatDoor
open Go.RowKit
open Y (Nd It Ps nextP takeP failP noTok noName formP orsP joinP piecesP pieceP bareP setP partsP partP heldP memberP)

section
variable {b N : Nat} {t : TypeId} {w w' : World} {e : Int} {o : Nat} {s : Ps}
def Box5 (w : World) (N : Nat) (t : TypeId) : Prop := ∃ x0 x1 x2 x3 x4 : Value, w.heap[N]? = some (.cells #[x0, x1, x2, x3, x4] t (0, 0))
theorem Box5.fe (h : Box5 w N t) (hf : Fe b w w') (hN : N ≠ b) (hs : N < w.heap.size) : Box5 w' N t := by
 obtain ⟨x0, x1, x2, x3, x4, h⟩ := h
 exact ⟨x0, x1, x2, x3, x4, (hf.block N hs hN).trans h⟩
theorem Box5.facts (h : Box5 w N t) : (∃ x0 x1 x2 x3 x4, w.cell? ⟨N, 0, none⟩ = some x0 ∧ w.cell? ⟨N, 1, none⟩ = some x1 ∧ w.cell? ⟨N, 2, none⟩ = some x2 ∧ w.cell? ⟨N, 3, none⟩ = some x3 ∧ w.cell? ⟨N, 4, none⟩ = some x4) ∧ ∀ j, w.frozen? ⟨N, j, none⟩ = false := by
 obtain ⟨x0, x1, x2, x3, x4, h⟩ := h
 exact ⟨⟨x0, x1, x2, x3, x4, cells5 h⟩, fun j => frozen_of_row _ _ _ _ _ h⟩
theorem Box5.set (h : Box5 w N t) (a0 a1 a2 a3 a4 : Value) : (set5 w N a0 a1 a2 a3 a4).heap[N]? = some (.cells #[a0, a1, a2, a3, a4] t (0, 0)) := by
 obtain ⟨x0, x1, x2, x3, x4, h⟩ := h
 exact set5_row h _ _ _ _ _
end
end Go.Proofs.YtmohefgdpddldaaGreatDoor
namespace Go.Proofs.YtmohefgdpddldaaGreatDoor
open Go.RowKit
open Y (Nd It Ps nextP takeP failP noTok noName formP orsP joinP piecesP pieceP bareP setP partsP partP heldP memberP)

def begN (w : World) : World := w.alloc (.cells #[.int .i64 0, .string { data := #[] }, .int .i64 0, .int .i64 0, .slice none 0 0] 24)
theorem begN_box (w : World) : Box5 (begN w) w.heap.size 24 := ⟨_, _, _, _, _, heap_alloc_new w _⟩
theorem begN_below (w : World) : Below w.heap.size w (begN w) := kbelow_push w _
theorem begN_size (w : World) : (begN w).heap.size = w.heap.size + 1 := by simp [begN]
end Go.Proofs.YtmohefgdpddldaaGreatDoor
namespace Go.Proofs.YtmohefgdpddldaaGreatDoor
open Go.RowKit
open Y (Nd It Ps nextP takeP failP noTok noName formP orsP joinP piecesP pieceP bareP setP partsP partP heldP memberP)

theorem Fe.grown {b : Nat} {a c d : World} {row : Option Nat} (h : Fe b a c) (hg : c.grownBy d row) (hr : ∀ i, row = some i → a.heap.size ≤ i) : Fe b a d :=
 ⟨hg.os.trans h.os, hg.tape.trans h.tape, hg.output.trans h.output, Nat.le_trans h.size hg.size, fun i hi hn => (hg.block i (Nat.lt_of_lt_of_le hi h.size) (fun e => by have := hr i e.symm; omega)).trans (h.block i hi hn)⟩
theorem app_n {w : World} {ops : Array Oper} {rest : List Oper} {o : Oper} {a : Act} {Q : Exit → Act → World → Prop} (hgd : o.guard = none) (s x : Operand) 
  (ho : o.op = .call { callee := .builtin .append, args := #[s, x], argTypes := #[22, 22] })
  (base : Nat) (v : Value) (l : List Nd) (hs : a.eval s = v) (hown : OwnN w base v l) (N : Nat) (y : Nd) (x0 x1 x2 x3 x4 : Value)
  (hx : a.eval x = .slice (some ⟨N, 0, none⟩) 1 1) (hrow : w.heap[N]? = some (.cells #[x0, x1, x2, x3, x4] 24 (0, 0))) (hy : NdAt w (fun b => base ≤ b ∧ b < w.heap.size ∧ v.ownBlock ≠ some b) [x0, x1, x2, x3, x4] y)
  (h63 : l.length ≤ 1000000) (hbase : base ≤ w.heap.size)
  (h : ∀ v' w', OwnN w' base v' (l ++ [y]) → w.grownBy w' v.ownBlock → wpList Tryz.prog ops Q rest (a.put o.dst v') w') : wpList Tryz.prog ops Q (o :: rest) a w := by
 obtain ⟨i0, hi0, hz0, hz1, hz2⟩ := info_k info_nd
 obtain ⟨cs, hc, hk⟩ := hown
 have h1 : ∀ u ∈ [x0, x1, x2, x3, x4], u.oneCell' = true := by
  obtain ⟨A, n, c, e, _⟩ := hy.inv
  rw [e]
  intro u hu
  simp only [List.mem_cons, List.not_mem_nil, or_false] at hu
  rcases hu with rfl | rfl | rfl | rfl | rfl <;> rfl
 refine wpList_append_own_at w hgd s x 22 ho base 24 i0 _ 5 64 Tryz.underlying22 hi0 hz0 hz1 hz2 rfl (by decide) v l.length cs hs hc ⟨N, 0, none⟩ 1 1 [x0, x1, x2, x3, x4] hx rfl ?_ h1 (by unfold maxLen; omega) (by omega) hbase ?_
 ·intro j u hu
  rw [kadd_none, cell_of_row _ _ _ _ _ _ hrow, Nat.zero_add]
  simpa using hu
 ·intro v' w' h2 h3 _ h4
  exact h v' w' (OwnN.push hk hc.1 hy rfl h2 h3 h4) h3
def litN (w : World) (x0 x1 x2 x3 x4 : Value) : World := w.alloc (.cells #[x0, x1, x2, x3, x4] 24)
theorem litN_below (w : World) (x0 x1 x2 x3 x4 : Value) : Below w.heap.size w (litN w x0 x1 x2 x3 x4) := kbelow_push w _
theorem litN_size (w : World) (x0 x1 x2 x3 x4 : Value) : (litN w x0 x1 x2 x3 x4).heap.size = w.heap.size + 1 := by simp [litN]
theorem litN_row (w : World) (x0 x1 x2 x3 x4 : Value) (N : Nat) (hN : N = w.heap.size) : (litN w x0 x1 x2 x3 x4).heap[N]? = some (.cells #[x0, x1, x2, x3, x4] 24 (0, 0)) := by subst hN; exact heap_alloc_new w _
section
variable {α : Type} {b : Nat} {w wr W2 w3 w5 : World} {e : Int} {o L m K m' : Nat} {f : Nat → Nat → List Nd → Ps → α × Ps} {r : α × Ps} {v v5 : Value} {l : List Nd} {s : Ps} {k : Nd × Ps} {A : Option Addr} {n c : Nat}
end
end Go.Proofs.YtmohefgdpddldaaGreatDoor
namespace Go.Proofs.YtmohefgdpddldaaGreatDoor
open Go.RowKit
open Y (Nd It Ps nextP takeP failP noTok noName formP orsP joinP piecesP pieceP bareP setP partsP partP heldP memberP)

end Go.Proofs.YtmohefgdpddldaaGreatDoor
namespace Go.Proofs.YtmohefgdpddldaaGreatDoor
open Go.RowKit
open Y (Nd It Ps nextP takeP failP noTok noName formP orsP joinP piecesP pieceP bareP setP partsP partP heldP memberP)

theorem OwnN.lit {w : World} {B : Nat} {x : Nd} {x0 x1 x2 x3 x4 : Value} (hB : B ≤ w.heap.size) (hx : NdAt w (In B w.heap.size) [x0, x1, x2, x3, x4] x) : OwnN (litN w x0 x1 x2 x3 x4) B (.slice (some ⟨w.heap.size, 0, none⟩) 1 1) [x] := by
 refine ⟨[x0, x1, x2, x3, x4], World.ownsRow_lit w #[x0, x1, x2, x3, x4] 1 hB (by unfold maxLen; omega) rfl, fun i y hy => ?_⟩
 have hi : i = 0 := by
  have := (List.getElem?_eq_some_iff.1 hy).1; simp at this; omega
 subst hi
 simp at hy
 subst hy
 refine hx.keep (fun i hi => ⟨hi.1, by rw [litN_size]; have := hi.2; omega, fun e => ?_⟩) fun p hp => (litN_below w x0 x1 x2 x3 x4).cell hp.2
 have h2 : i < w.heap.size := hi.2
 have h3 : w.heap.size = i := Option.some.inj e
 omega
theorem nd_eta (x : Nd) : Nd.mk x.kind x.name x.low x.high x.kids = x := by cases x; rfl
end Go.Proofs.YtmohefgdpddldaaGreatDoor
namespace Go.Proofs.YtmohefgdpddldaaGreatDoor
open Go.RowKit
open Y (Nd It Ps nextP takeP failP noTok noName deepP formP orsP joinP piecesP pieceP bareP setP partsP partP heldP memberP)


end Go.Proofs.YtmohefgdpddldaaGreatDoor
namespace Go.Proofs.YtmohefgdpddldaaGreatDoor
open Go.RowKit
open Y (Nd It Ps nextP takeP failP noTok noName deepP formP orsP joinP piecesP pieceP bareP setP partsP partP heldP memberP)

section
variable {b : Nat} {w w10 : World} {e : Int} {o : Nat} {s2 : Ps} {A : Option Addr} {n c : Nat} {x : Nd} {t : Tok} {tx : ByteArray}
end

end Go.Proofs.YtmohefgdpddldaaGreatDoor
namespace Go.Proofs.YtmohefgdpddldaaGreatDoor
open Go.RowKit
open Y (Nd It Ps nextP takeP failP noTok noName deepP formP orsP joinP piecesP pieceP bareP setP partsP partP heldP memberP)

end Go.Proofs.YtmohefgdpddldaaGreatDoor
namespace Go.Proofs.YtmohefgdpddldaaGreatDoor
open Go.RowKit
open Y (Nd It)

mutual
def Y.Nd.small : Nd → Prop
 | .mk _ s _ _ l => s.size ≤ 140737488355328 ∧ Y.smallL l
def Y.smallL : List Nd → Prop
 | [] => True
 | x :: t => Y.Nd.small x ∧ Y.smallL t
end
theorem small_kids {x : Nd} (h : x.small) : x.name.size ≤ 140737488355328 ∧ Y.smallL x.kids := by
 cases x with
 | mk k s lo hi l => rw [Y.Nd.small] at h; exact h
theorem small_mem {l : List Nd} (h : Y.smallL l) {i : Nat} {y : Nd} (hy : l[i]? = some y) : y.small := by
 induction l generalizing i with
 | nil => simp at hy
 | cons z t ih =>
  rw [Y.smallL] at h
  cases i with
  | zero => simp at hy; subst hy; exact h.1
  | succ i => exact ih h.2 (by simpa using hy)
def WeighP (w : World) (x : Nd) (d : Int) (e : Ending) (w' : World) : Prop := ∃ i : Int, e = .returned (.int .i64 i) ∧ 0 ≤ i ∧ i ≤ 140737488358329 + 2000 * (101 - d) ∧ (i ≤ 2000 → (x.size : Int) ≤ i) ∧ Below w.heap.size w w'
def WeighK (k : Nat) : Prop := ∀ (x : Nd), x.size ≤ k → x.small → ∀ (d : Int), 0 ≤ d → d ≤ 101 → ∀ (w : World) (A : Option Addr) (n c : Nat), RdN w (Lt w) A n c x.kids →
 Calls Tryz.prog 8 #[.agg #[.int .i64 x.kind, .string x.name, .int .i64 x.low, .int .i64 x.high, .slice A n c], .int .i64 d] w (WeighP w x d)
set_option maxHeartbeats 8000000 in
theorem weigh_all : ∀ k : Nat, WeighK k := by
 intro k
 induction k with
 | zero => intro x h; have := Nd.size_pos x; omega
 | succ k ih =>
  intro x hk hsmall d hd0 hd1 w A n c ha
  have hkids := size_kids x
  obtain ⟨hnm, hsl⟩ := small_kids hsmall
  have hn := ha.len
  have hsm := ha.small
  have HP := Lib.hid (kbelow_push w (.cells #[.int .i64 x.kind, .string x.name, .int .i64 x.low, .int .i64 x.high, .slice A n c] 24))
  have HROW := Lib.hid (heap_alloc_new w (.cells #[.int .i64 x.kind, .string x.name, .int .i64 x.low, .int .i64 x.high, .slice A n c] 24))
  have HA := Lib.hid (ha.on HP.out)
  have hz : (w.alloc (.cells #[.int .i64 x.kind, .string x.name, .int .i64 x.low, .int .i64 x.high, .slice A n c] 24)).heap.size = w.heap.size + 1 := by simp
  generalize hs : x.size = sz at *
  generalize hl : x.kids = l at *
  have HWP : Hid (∀ (i : Int) (w' : World), 0 ≤ i → i ≤ 140737488358329 + 2000 * (101 - d) → (i ≤ 2000 → (sz : Int) ≤ i) → Below w.heap.size w w' → WeighP w x d (.returned (.int .i64 i)) w') := fun i w' h1 h2 h3 h4 => ⟨i, rfl, h1, h2, by rw [hs]; exact h3, h4⟩
  have HKS := Lib.hid hkids
  have HK := Lib.hid hk
  have HSL := Lib.hid hsl
  have hnm0 : (0 : Int) ≤ (x.name.size : Int) := by omega
  have hnm1 : (x.name.size : Int) ≤ 140737488355328 := by omega
  clear ha hs hl hkids hk hsl hsmall hnm
  by_cases h100 : 100 < d
  ·have HE := Lib.hid (HWP.out 3000 _ (by decide) (by omega) (by omega) HP.out)
   clear HWP HROW HA HP HKS HK HSL
   go_enter Tryz.func8, Tryz.ntmps8
   go_wp2_with fail
   go_ret
   exact HE.out
  ·have g1 : ¬ (100 < d) := h100
   go_enter Tryz.func8, Tryz.ntmps8
   go_wp2_with fail
   generalize w.alloc (.cells #[.int .i64 x.kind, .string x.name, .int .i64 x.low, .int .i64 x.high, .slice A n c] 24) = W1 at *
   go_loopw [5, 6] (fun sv iv wx => ∃ (j : Nat) (S : Int), j ≤ n ∧ iv = .int .i64 j ∧ sv = .int .i64 S ∧ 1 ≤ S ∧ S ≤ 140737488358329 + 2000 * (101 - d) ∧ Hid (S ≤ 2000 → ((Y.sizeL (l.take j) + 1 : Nat) : Int) ≤ S) ∧ Hid (Below W1.heap.size W1 wx)) (fun _ iv _ => n - (intOf iv).toNat)
   case atStart => exact ⟨0, 1 + x.name.size, by omega, rfl, rfl, by omega, by omega, (by show _ → _; intro _; rw [List.take_zero]; show ((0 + 1 : Nat) : Int) ≤ _; omega), Below.refl _ _⟩
   case round =>
    obtain ⟨j, S, hj, rfl, rfl, hS0, hS1, HS, HB⟩ := hrel
    have HA2 := Lib.hid (HA.out.on HB.out)
    obtain ⟨r0, r1, r2, r3, r4⟩ := cells5 ((HB.out.block w.heap.size (by omega)).trans HROW.out)
    by_cases hlt : j < n
    ·by_cases h2 : S ≤ 2000
     ·obtain ⟨b1, o1, y, A1, n1, c1, hA1, hb1, hy, hr1, s0, s1, s2, s3, s4⟩ := HA2.out.got hlt
      subst hA1
      have HY := Lib.hid hy
      have HR1 := Lib.hid hr1
      have hj0 : (0 : Int) ≤ (j : Int) := by omega
      have hj1 : (j : Int) < (n : Int) := by omega
      have hyk : y.size ≤ k := by have := size_mem hy; have h1 := HKS.out; have h2 := HK.out; omega
      have HC := Lib.hid (ih y hyk (small_mem HSL.out hy) (d + 1) (by omega) (by omega) _ A1 n1 c1 hr1)
      have HST : Hid (((Y.sizeL (l.take (j + 1)) + 1 : Nat) : Int) = ((Y.sizeL (l.take j) + 1 : Nat) : Int) + (y.size : Int)) := by
       show _ = _
       rw [sizeL_take hy]; omega
      clear hy hr1 hb1 HA2 hyk HR1
      go_wp2_with fail
      refine HC.out.mono ?_
      rintro en w3 ⟨T, rfl, hT0, hT1, hT2, hb3⟩
      have HS2 : Hid (S + T ≤ 2000 → ((Y.sizeL (l.take (j + 1)) + 1 : Nat) : Int) ≤ S + T) := by
       show _ → _
       intro h
       have e1 := HS.out (by omega)
       have e2 := hT2 (by omega)
       rw [HST.out]; omega
      have HB3 := Lib.hid (HB.out.trans (hb3.mono HB.out.size))
      clear hb3 hT2 HC HS HST HB HY
      go_wp2_with fail
      go_roundw
      case rel => exact ⟨j + 1, S + T, by omega, by go_num, rfl, by omega, by omega, HS2.out, HB3.out⟩
      case measure => simp [intOf]; omega
     ·have HE := Lib.hid (HWP.out S wr (by omega) hS1 (fun h => absurd h h2) (HP.out.trans (HB.out.mono HP.out.size)))
      clear HWP HA2 HS HB
      go_wp2_with fail
      go_ret
      exact HE.out
    ·obtain rfl : j = n := by omega
     have HE := Lib.hid (HWP.out S wr (by omega) hS1 (fun h => by have e1 := HS.out h; have e2 := HKS.out; rw [List.take_of_length_le (by omega)] at e1; omega) (HP.out.trans (HB.out.mono HP.out.size)))
     clear HWP HA2 HS HB
     go_wp2_with fail
     go_ret
     exact HE.out
theorem weigh_any {x : Nd} (hs : x.small) {w : World} {A : Option Addr} {n c : Nat} (ha : RdN w (Lt w) A n c x.kids) :
  Calls Tryz.prog 8 #[.agg #[.int .i64 x.kind, .string x.name, .int .i64 x.low, .int .i64 x.high, .slice A n c], .int .i64 0] w (WeighP w x 0) :=
 weigh_all x.size x (Nat.le_refl _) hs 0 (by decide) (by decide) w A n c ha
end Go.Proofs.YtmohefgdpddldaaGreatDoor
