/- Words for slices of whole numbers of one kind in memory: when a slice value reads as a list of numbers, how that is kept from world to world, and rows of one's own. Tokens in memory. Laws of my own on the model: a statement whose order is open and that ends with a store for which all else has come up, also in a round; and a range over a function whose iterator keeps cells of its own between two rounds. Plain facts on forms: trees of nodes, and what tokens say. Plain facts on what tokens say: what is wrong stays wrong; nothing grows; more behind; further on. Forms in memory: when cells read as a form, and how that is kept from world to world; rows of forms of one's own; the reader of expr. Plain facts on characters that are written out, and on how they are read. Plain facts on characters and their bytes: a character's bytes, what bytes begin with, how far bytes are characters', and lines; no program stands in this text. Plain facts on words of the notation: what a text of characters says, token by token. Plain facts on forms that are written out: what may be written, and its text. Whether forms are the same: the program's Same. How many nodes a form has: the program's Size. The small functions of quote, and of the document's answer: letters and digits, characters, digits. Whether all of several forms are so: the program's all, over slices.ContainsFunc. The stream of expr: fail, next, take; and what one token alone is. The stream of expr: take; what one token alone is. What one token alone is; several forms. The reader of expr: what its functions leave; member. The reader of expr: member. The reader of expr: an append of one form; parts. The reader of expr: join, form. The reader of expr: form. The reader of expr: what stands between a token that opens and one that ends. The reader of expr: a form in brackets. The reader of expr: set, bare. The reader of expr: piece. -/
import Derived.Test.YtmohefgdpddldaaGreatDoorRows
import Derived.WalkKit
import Derived.WalkSpells
import Derived.WalkLawsBesides
import Derived.Below
import Derived.Laws.OwnMore
import Derived.Laws.BytesArg
import Derived.Deep.AppendLies
import Derived.Deep.Draws
import Derived.Deep.QuietTactic
import Derived.BigQuiet
import Derived.RegionTactic
import Derived.Deep.DeepCutAuto
import Derived.Deep.RegionLaw
import Derived.Maps.AppendAt
import Derived.Lib.Hide
import Derived.Lib.Strings
import Derived.Laws.Rows
import Derived.OrdersHeld
import Derived.OrdersIn
import Derived.StillTail
import Derived.OwnWalkIn
import Derived.RangeFuncNested
import Derived.RangeFuncBox
import Derived.RangeFuncLeaves
import Derived.Lib.DecodeNEq
import Derived.Lib.ItoaNum
import Derived.Lib.TrimByte
import Derived.Shelf.Abstract
import Derived.StillTailTactics
import Derived.Deep.RegionHeld3
namespace Go.Proofs.YtmohefgdpddldaaGreatDoor
open Go.RowKit

theorem kbelow_drewN {B : Nat} {a w : World} (h : Below B a w) (q : Nat) : Below B a (w.drewN q) := ⟨h.os, h.tape, h.output, h.size, h.block⟩
theorem kbelow_push (w : World) (o : Obj) : Below w.heap.size w (w.alloc o) := (Below.refl _ _).alloc (Nat.le_refl _) o
theorem kadd_none (b off j : Nat) : (⟨b, off, none⟩ : Addr).add j = ⟨b, off + j, none⟩ := by
 unfold Addr.add; by_cases h : j = 0 <;> simp [h]
theorem klt_of_cell {w : World} {a : Addr} {v : Value} (h : w.cell? a = some v) : a.block < w.heap.size := by
 rcases Nat.lt_or_ge a.block w.heap.size with hlt | hge
 ·exact hlt
 ·unfold World.cell? at h; rw [Array.getElem?_eq_none hge] at h; cases h
theorem kdrewN_two (w : World) (p q : Nat) : (w.drewN p).drewN q = w.drewN (p + q) := by simp [World.drewN, Nat.add_assoc]

/-- The slice value '.slice A n c' reads as the numbers L of kind k, and lies below block B. -/
structure RdK (k : IntKind) (w : World) (B : Nat) (A : Option Addr) (n c : Nat) (L : List Int) : Prop where
 len : L.length = n
 cap : n ≤ c
 capm : c ≤ maxLen
 at_ : 0 < n → ∃ b off, A = some ⟨b, off, none⟩ ∧ b < B ∧ ∀ (j : Nat) (x : Int), L[j]? = some x → w.cell? ⟨b, off + j, none⟩ = some (.int k x)
section
variable {k : IntKind} {w w' : World} {B B' n c : Nat} {A : Option Addr} {L : List Int}
theorem RdK.keep (h : RdK k w B A n c L) (hk : ∀ p : Addr, p.block < B → w'.cell? p = w.cell? p) : RdK k w' B A n c L :=
 ⟨h.len, h.cap, h.capm, fun hn => by
  obtain ⟨b, off, e, hb, hc⟩ := h.at_ hn
  exact ⟨b, off, e, hb, fun j x hx => (hk _ hb).trans (hc j x hx)⟩⟩
theorem RdK.more (h : RdK k w B A n c L) (hB : B ≤ B') : RdK k w B' A n c L :=
 ⟨h.len, h.cap, h.capm, fun hn => by
  obtain ⟨b, off, e, hb, hc⟩ := h.at_ hn
  exact ⟨b, off, e, by omega, hc⟩⟩
theorem RdK.on (h : RdK k w w.heap.size A n c L) (hb : Below w.heap.size w w') : RdK k w' w'.heap.size A n c L := (h.keep fun _ hp => hb.cell hp).more hb.size
theorem RdK.drewN (h : RdK k w B A n c L) (q : Nat) : RdK k (w.drewN q) B A n c L := ⟨h.len, h.cap, h.capm, h.at_⟩
theorem RdK.push (h : RdK k w w.heap.size A n c L) (o : Obj) : RdK k (w.alloc o) (w.alloc o).heap.size A n c L := h.on (kbelow_push w o)
theorem RdK.nil (k : IntKind) (w : World) (B : Nat) : RdK k w B none 0 0 [] := ⟨rfl, Nat.le_refl _, by simp [maxLen], fun h => absurd h (by omega)⟩
theorem RdK.small (h : RdK k w B A n c L) : n ≤ 9223372036854775807 := by have h1 := h.cap; have h2 := h.capm; unfold maxLen at h2; omega
theorem RdK.got (h : RdK k w B A n c L) {j : Nat} (hj : j < n) : ∃ (b off : Nat) (x : Int), A = some ⟨b, off, none⟩ ∧ b < B ∧ L[j]? = some x ∧ w.cell? ⟨b, off + j, none⟩ = some (.int k x) := by
 have hl : j < L.length := by have := h.len; omega
 obtain ⟨b, off, e, hb, hc⟩ := h.at_ (by omega)
 exact ⟨b, off, _, e, hb, List.getElem?_eq_getElem hl, hc _ _ (List.getElem?_eq_getElem hl)⟩
/-- The first m of it. -/
theorem RdK.take (h : RdK k w B A n c L) {m : Nat} (hm : m ≤ n) : RdK k w B A m c (L.take m) :=
 ⟨by rw [List.length_take, h.len]; omega, Nat.le_trans hm h.cap, h.capm, fun h0 => by
  obtain ⟨b, off, e, hb, hc⟩ := h.at_ (by omega)
  exact ⟨b, off, e, hb, fun j x hx => hc j x (by
   have hj : j < m := by have := (List.getElem?_eq_some_iff.1 hx).1; rw [List.length_take] at this; omega
   rwa [List.getElem?_take_of_lt hj] at hx)⟩⟩
/-- All but the first m of it. -/
theorem RdK.drop {b off : Nat} (h : RdK k w B (some ⟨b, off, none⟩) n c L) {m : Nat} (hm : m < n) : RdK k w B (some ⟨b, off + m, none⟩) (n - m) (c - m) (L.drop m) :=
 ⟨by rw [List.length_drop, h.len], by have := h.cap; omega, by have := h.capm; omega, fun _ => by
  obtain ⟨b', off', e, hb, hc⟩ := h.at_ (by omega)
  injection e with e; injection e with e1 e2 _; subst e1 e2
  exact ⟨b, off + m, rfl, hb, fun j x hx => by rw [Nat.add_assoc]; exact hc _ x (by rwa [List.getElem?_drop] at hx)⟩⟩
/-- A row of one's own of such numbers. -/
def OwnK (k : IntKind) (w : World) (B : Nat) (e : TypeId) (v : Value) (n : Nat) (L : List Int) : Prop := w.ownsRow B e 1 v n (L.map (Value.int k))
theorem OwnK.len {e : TypeId} {v : Value} (h : OwnK k w B e v n L) : L.length = n := by have := h.1; simpa using this
theorem OwnK.rd {e : TypeId} {v : Value} (h : OwnK k w B e v n L) : ∃ A c, v = .slice A n c ∧ RdK k w w.heap.size A n c L := by
 have hl := h.len
 rcases h.2 with ⟨h1, h2⟩ | ⟨g, cap, cur, h1, _, hg, h3, h4, _, _⟩
 ·subst h1 h2; obtain rfl : L = [] := List.eq_nil_of_length_eq_zero hl; exact ⟨none, 0, rfl, RdK.nil _ _ _⟩
 ·subst h1
  have hlt : g < w.heap.size := by
   rcases Nat.lt_or_ge g w.heap.size with hlt | hge
   ·exact hlt
   ·rw [Array.getElem?_eq_none hge] at hg; cases hg
  exact ⟨_, cap, rfl, hl, h3, h4, fun _ => ⟨g, 0, rfl, hlt, fun j x hx => by rw [← kadd_none]; exact World.ownsRow.cells h (g := g) rfl j _ (by simp [hx])⟩⟩
theorem OwnK.nil (k : IntKind) (w : World) (B : Nat) (e : TypeId) : OwnK k w B e (.slice none 0 0) 0 [] := World.ownsRow_nil w B e 1
theorem OwnK.block {e : TypeId} {v : Value} (h : OwnK k w B e v n L) : ∀ i, v.ownBlock = some i → B ≤ i ∧ i < w.heap.size := World.ownsRow.lt h
theorem OwnK.below {e : TypeId} {v : Value} (h : OwnK k w B e v n L) (hb : Below w.heap.size w w') : OwnK k w' B e v n L := by
 refine ⟨h.1, ?_⟩
 rcases h.2 with h2 | ⟨g, cap, cur, h1, hB, hg, h3⟩
 ·exact .inl h2
 ·have hlt : g < w.heap.size := by
   rcases Nat.lt_or_ge g w.heap.size with hlt | hge
   ·exact hlt
   ·rw [Array.getElem?_eq_none hge] at hg; cases hg
  exact .inr ⟨g, cap, cur, h1, hB, (hb.block g hlt).trans hg, h3⟩
theorem OwnK.alloc {e : TypeId} {v : Value} (h : OwnK k w B e v n L) (o : Obj) : OwnK k (w.alloc o) B e v n L := World.ownsRow.alloc h o
theorem OwnK.drewN {e : TypeId} {v : Value} (h : OwnK k w B e v n L) (q : Nat) : OwnK k (w.drewN q) B e v n L := h
/-- A row stays where another one grows. -/
theorem OwnK.kept {e : TypeId} {v : Value} {row : Option Nat} (h : OwnK k w B e v n L) (hg : w.grownBy w' row) (hne : v.ownBlock = none ∨ v.ownBlock ≠ row) : OwnK k w' B e v n L := World.ownsRow.kept h hg hne
end
/-- Two rows lie apart. -/
def Apt (v u : Value) : Prop := v.ownBlock = none ∨ v.ownBlock ≠ u.ownBlock
theorem apt_nil (u : Value) : Apt (.slice none 0 0) u := Or.inl rfl
/-- Growing keeps everything below the base as it was. -/
theorem below_grown {w0 w w' : World} {row : Option Nat} (h : Below w0.heap.size w0 w) (hg : w.grownBy w' row) (hr : ∀ i, row = some i → w0.heap.size ≤ i) : Below w0.heap.size w0 w' :=
 ⟨hg.os.trans h.os, hg.tape.trans h.tape, hg.output.trans h.output, Nat.le_trans h.size hg.size, fun i hi => by
  have h1 := h.size
  exact (hg.block i (by omega) (fun e => by have := hr i e.symm; omega)).trans (h.block i hi)⟩
theorem info_k {P : Program} {e : TypeId} {z : Value} {s b : Nat} (h : (P.info? e).map (fun i => (i.zero, i.size, i.bytes)) = some (some z, s, b)) : ∃ i, P.info? e = some i ∧ i.zero = some z ∧ i.size = s ∧ i.bytes = b := by
 cases hi : P.info? e with
 | none => rw [hi] at h; cases h
 | some i => rw [hi] at h; simp at h; exact ⟨i, rfl, h.1, h.2.1, h.2.2⟩
theorem one_k (k : IntKind) (L : List Int) : ∀ u ∈ L.map (Value.int k), u.oneCell' = true := fun u hu => by
 simp at hu; obtain ⟨x, _, rfl⟩ := hu; rfl
/-- An append onto a row of one's own. -/
theorem app_k {P : Program} {w : World} {ops : Array Oper} {rest : List Oper} {o : Oper} {a : Act} {Q : Exit → Act → World → Prop} (k : IntKind) (hgd : o.guard = none) (s x : Operand) (t : TypeId)
  (ho : o.op = .call { callee := .builtin .append, args := #[s, x], argTypes := #[t, t] })
  (base : Nat) (e : TypeId) (bytes : Nat) (ht : P.underlying t = some (.slice e)) (hi : (P.info? e).map (fun i => (i.zero, i.size, i.bytes)) = some (some (.int k 0), 1, bytes)) (hby : bytes ≤ 8)
  (v : Value) (n : Nat) (L : List Int) (hs : a.eval s = v) (hown : OwnK k w base e v n L)
  (ad : Addr) (m c : Nat) (news : List Int) (hx : a.eval x = .slice (some ad) m c) (hl : news.length = m) (hnews : ∀ j u, news[j]? = some u → w.cell? (ad.add j) = some (.int k u))
  (h63 : n + m ≤ 1099511627776) (hbase : base ≤ w.heap.size)
  (h : ∀ v' w', OwnK k w' base e v' (n + m) (L ++ news) → w.grownBy w' v.ownBlock → (v'.ownBlock = v.ownBlock ∨ v'.ownBlock = some w.heap.size) → wpList P ops Q rest (a.put o.dst v') w') : wpList P ops Q (o :: rest) a w := by
 obtain ⟨i0, hi0, hz0, hz1, hz2⟩ := info_k hi
 refine wpList_append_own_at w hgd s x t ho base e i0 (.int k 0) 1 bytes ht hi0 hz0 hz1 hz2 rfl (by decide) v n _ hs hown ad m c (news.map (Value.int k)) hx (by simp [hl]) ?_ (one_k k news) (by unfold maxLen; omega) ?_ hbase ?_
 ·intro j u hu
  simp at hu
  obtain ⟨y, hy, rfl⟩ := hu
  exact hnews j y hy
 ·have := Nat.mul_le_mul (Nat.le_refl (n + m)) hby
  omega
 ·intro v' w' h1 h2 _ h4
  exact h v' w' (by unfold OwnK; rw [List.map_append]; exact h1) h2 h4
/-- The cells of what is written out. -/
theorem lit_k (w : World) (N : Nat) (hN : N = w.heap.size) (k : IntKind) (L : List Int) (t : TypeId) (cs : Array Value) (hc : cs.toList = L.map (Value.int k)) : ∀ j u, L[j]? = some u → (w.alloc (.cells cs t)).cell? ((⟨N, 0, none⟩ : Addr).add j) = some (.int k u) := by
 subst hN
 intro j u hu
 rw [kadd_none, cell_of_row (w.alloc (.cells cs t)) w.heap.size (0 + j) cs t (0, 0) (heap_alloc_new w _), Nat.zero_add]
 have : cs.toList[j]? = some (.int k u) := by rw [hc]; simp [hu]
 simpa using this
/-- A list that is written out. -/
theorem rd_lit_k (w : World) (N : Nat) (hN : N = w.heap.size) (k : IntKind) (L : List Int) (t : TypeId) (cs : Array Value) (hc : cs.toList = L.map (Value.int k)) (hm : L.length ≤ 1099511627776) :
  RdK k (w.alloc (.cells cs t)) (w.alloc (.cells cs t)).heap.size (some ⟨N, 0, none⟩) L.length L.length L :=
 ⟨rfl, Nat.le_refl _, by unfold maxLen; omega, fun _ => ⟨N, 0, rfl, by subst hN; simp, fun j u hu => by have := lit_k w N hN k L t cs hc j u hu; rwa [kadd_none] at this⟩⟩
/-- The string of bytes. -/
theorem conv_k {P : Program} {w : World} {B : Nat} {A : Option Addr} {n c : Nat} {L : List Int} (h : RdK .u8 w B A n c L) (src e dst : TypeId) (hs : P.underlying src = some (.slice e)) (he : P.underlying e = some (.int .u8)) (hd : P.underlying dst = some .string) :
  (hn : 0 < n) → (convert src dst (.slice A n c)).run P w = .ok (.string (strOfNums L)) w := by
 intro hn
 obtain ⟨b, off, rfl, _, hc⟩ := h.at_ hn
 refine run_convert_bytes_arg w src e hs he b off n c L h.len (fun i hi => ?_) dst hd
 have hl : i < L.length := by rw [h.len]; exact hi
 rw [hc i L[i] (List.getElem?_eq_getElem hl)]
 simp [List.getD, List.getElem?_eq_getElem hl]
theorem conv_any {P : Program} {w : World} {B : Nat} {A : Option Addr} {n c : Nat} {L : List Int} (h : RdK .u8 w B A n c L) (src e dst : TypeId) (hs : P.underlying src = some (.slice e)) (he : P.underlying e = some (.int .u8)) (hd : P.underlying dst = some .string) :
  (convert src dst (.slice A n c)).run P w = .ok (.string (strOfNums L)) w := by
 rcases Nat.eq_zero_or_pos n with h0 | h0
 ·subst h0
  obtain rfl : L = [] := List.eq_nil_of_length_eq_zero h.len
  cases A with
  | none => exact run_convert_bytes_nil w src e hs he 0 c dst hd
  | some a =>
   have hl : (loadCells a 0).run P w = .ok (([] : List Int).map (Value.int .u8)).toArray w := run_loadCells_list (P := P) w a [] (fun j v hj => by simp at hj)
   rw [run_convert_bytes_string w src dst e _ 0 c hs he hd, run_bytesToString w _ 0 c [] hl, foldl_push_bytes]
   rfl
 ·exact conv_k h src e dst hs he hd h0
theorem str_inj {a b : List Int} (ha : ∀ x ∈ a, 0 ≤ x ∧ x < 256) (hb : ∀ x ∈ b, 0 ≤ x ∧ x < 256) : strOfNums a = strOfNums b ↔ a = b := by
 refine ⟨fun h => ?_, fun h => by rw [h]⟩
 have h1 : (strOfNums a).data.toList = (strOfNums b).data.toList := by rw [h]
 rw [strOfNums_data, strOfNums_data] at h1
 clear h
 induction a generalizing b with
 | nil => cases b with
  | nil => rfl
  | cons y t => simp at h1
 | cons x s ih => cases b with
  | nil => simp at h1
  | cons y t =>
   simp only [List.map_cons, List.cons.injEq] at h1
   have e1 := congrArg UInt8.toNat h1.1
   have hx := ha x (by simp); have hy := hb y (by simp)
   simp only [UInt8.toNat_ofNat'] at e1
   have e2 : x = y := by omega
   rw [e2, ih (fun z hz => ha z (by simp [hz])) (fun z hz => hb z (by simp [hz])) h1.2]
theorem str_eqB {a b : List Int} (ha : ∀ x ∈ a, 0 ≤ x ∧ x < 256) (hb : ∀ x ∈ b, 0 ≤ x ∧ x < 256) : ((strOfNums a).toList == (strOfNums b).toList) = decide (a = b) := by
 rw [Lib.toList_data, Lib.toList_data, Bool.eq_iff_iff, beq_iff_eq, decide_eq_true_eq, ← str_inj ha hb]
 refine ⟨fun h => ?_, fun h => by rw [h]⟩
 exact ByteArray.ext (Array.ext' h)
/-- A number is handed back; what lay there before is as it was. -/
def NumK (w : World) (x : Int) (e : Ending) (w' : World) : Prop := e = .returned (.int .i64 x) ∧ Below w.heap.size w w'
def BooK (w : World) (x : Bool) (e : Ending) (w' : World) : Prop := e = .returned (.bool x) ∧ Below w.heap.size w w'
end Go.Proofs.YtmohefgdpddldaaGreatDoor
namespace Go.Proofs.YtmohefgdpddldaaGreatDoor
open Go.RowKit

/-- A token with its place. -/
structure Tok where
 kind : Int
 text : List Int
 low : Int
 high : Int
 pos : Int
deriving DecidableEq
def Tok.cells (t : Tok) : List Value := [.int .i64 t.kind, .string (strOfNums t.text), .int .i64 t.low, .int .i64 t.high, .int .i64 t.pos]
def cellsP (l : List Tok) : List Value := l.flatMap Tok.cells
theorem cellsP_app (l m : List Tok) : cellsP (l ++ m) = cellsP l ++ cellsP m := by simp [cellsP]
theorem cellsP_one (l : List Tok) : ∀ u ∈ cellsP l, u.oneCell' = true := fun u hu => by
 simp only [cellsP, List.mem_flatMap] at hu
 obtain ⟨t, _, hu⟩ := hu
 simp only [Tok.cells, List.mem_cons, List.not_mem_nil, or_false] at hu
 rcases hu with rfl | rfl | rfl | rfl | rfl <;> rfl
theorem cellsP_at {l : List Tok} {i : Nat} {t : Tok} (h : l[i]? = some t) {j : Nat} (hj : j < 5) : (cellsP l)[i * 5 + j]? = t.cells[j]? := by
 induction l generalizing i with
 | nil => simp at h
 | cons x u ih =>
  rw [show cellsP (x :: u) = x.cells ++ cellsP u by simp [cellsP]]
  have hx : x.cells.length = 5 := rfl
  cases i with
  | zero => simp at h; subst h; rw [Nat.zero_mul, Nat.zero_add, List.getElem?_append_left (by omega)]
  | succ i =>
   rw [List.getElem?_append_right (by omega), hx, show (i + 1) * 5 + j - 5 = i * 5 + j by omega]
   exact ih (by simpa using h)
/-- The slice value reads as these tokens, and lies below block B. -/
structure RdT (w : World) (B : Nat) (A : Option Addr) (n c : Nat) (l : List Tok) : Prop where
 len : l.length = n
 cap : n ≤ c
 capm : c ≤ maxLen
 at_ : 0 < n → ∃ b off, A = some ⟨b, off, none⟩ ∧ b < B ∧ ∀ (j : Nat) (u : Value), (cellsP l)[j]? = some u → w.cell? ⟨b, off + j, none⟩ = some u
def OwnT (w : World) (B : Nat) (v : Value) (l : List Tok) : Prop := w.ownsRow B 94 5 v l.length (cellsP l)
section
variable {w w' : World} {B n c : Nat} {A : Option Addr} {l : List Tok} {v : Value}
theorem RdT.keep (h : RdT w B A n c l) (hk : ∀ p : Addr, p.block < B → w'.cell? p = w.cell? p) : RdT w' B A n c l :=
 ⟨h.len, h.cap, h.capm, fun hn => by
  obtain ⟨b, off, e, hb, hc⟩ := h.at_ hn
  exact ⟨b, off, e, hb, fun j x hx => (hk _ hb).trans (hc j x hx)⟩⟩
theorem RdT.more {B' : Nat} (h : RdT w B A n c l) (hB : B ≤ B') : RdT w B' A n c l :=
 ⟨h.len, h.cap, h.capm, fun hn => by
  obtain ⟨b, off, e, hb, hc⟩ := h.at_ hn
  exact ⟨b, off, e, by omega, hc⟩⟩
theorem RdT.on (h : RdT w w.heap.size A n c l) (hb : Below w.heap.size w w') : RdT w' w'.heap.size A n c l := (h.keep fun _ hp => hb.cell hp).more hb.size
theorem RdT.drewN (h : RdT w B A n c l) (q : Nat) : RdT (w.drewN q) B A n c l := ⟨h.len, h.cap, h.capm, h.at_⟩
theorem RdT.nil (w : World) (B : Nat) : RdT w B none 0 0 [] := ⟨rfl, Nat.le_refl _, by simp [maxLen], fun h => absurd h (by omega)⟩
theorem OwnT.nil (w : World) (B : Nat) : OwnT w B (.slice none 0 0) [] := World.ownsRow_nil w B _ 5
theorem OwnT.rd (h : OwnT w B v l) : ∃ A c, v = .slice A l.length c ∧ RdT w w.heap.size A l.length c l := by
 rcases h.2 with ⟨h1, h2⟩ | ⟨g, cap, cur, h1, _, hg, h3, h4, _, _⟩
 ·subst h1
  have : l = [] := List.eq_nil_of_length_eq_zero h2
  subst this
  exact ⟨none, 0, rfl, RdT.nil _ _⟩
 ·subst h1
  have hlt : g < w.heap.size := by
   rcases Nat.lt_or_ge g w.heap.size with hlt | hge
   ·exact hlt
   ·rw [Array.getElem?_eq_none hge] at hg; cases hg
  exact ⟨_, cap, rfl, rfl, h3, h4, fun _ => ⟨g, 0, rfl, hlt, fun j x hx => by rw [← kadd_none]; exact World.ownsRow.cells h (g := g) rfl j _ hx⟩⟩
theorem OwnT.below (h : OwnT w B v l) (hb : Below w.heap.size w w') : OwnT w' B v l := by
 refine ⟨h.1, ?_⟩
 rcases h.2 with h2 | ⟨g, cap, cur, h1, hB, hg, h3⟩
 ·exact .inl h2
 ·have hlt : g < w.heap.size := by
   rcases Nat.lt_or_ge g w.heap.size with hlt | hge
   ·exact hlt
   ·rw [Array.getElem?_eq_none hge] at hg; cases hg
  exact .inr ⟨g, cap, cur, h1, hB, (hb.block g hlt).trans hg, h3⟩
/-- A row stays where blocks below it turn. -/
theorem OwnT.set (h : OwnT w B v l) {b o : Nat} (hb : b < B) (x : Value) : OwnT (w.setCell ⟨b, o, none⟩ x) B v l := by
 refine ⟨h.1, ?_⟩
 rcases h.2 with h2 | ⟨g, cap, cur, h1, hB, hg, h3⟩
 ·exact .inl h2
 ·exact .inr ⟨g, cap, cur, h1, hB, (Below.heap_setCell _ _ _ _ (by show g ≠ b; omega)).trans hg, h3⟩
theorem OwnT.drewN (h : OwnT w B v l) (q : Nat) : OwnT (w.drewN q) B v l := h
theorem OwnT.block (h : OwnT w B v l) : ∀ i, v.ownBlock = some i → B ≤ i ∧ i < w.heap.size := World.ownsRow.lt h
end
end Go.Proofs.YtmohefgdpddldaaGreatDoor
namespace Go.Proofs.YtmohefgdpddldaaGreatDoor
open Go.RowKit

section
variable {P : Program} {ops : Array Oper} {Q : Exit → Act → World → Prop} {md : Region.Mode} {S : World → Prop} {z : Nat}
/-- Whatever order is picked from here on; S holds behind all but the last operation z. -/
def AnyZ (P : Program) (md : Region.Mode) (ops : Array Oper) (Q : Exit → Act → World → Prop) (S : World → Prop) (z : Nat) : Nat → Array Bool → Act → World → Prop
 | 0, listed, a, w => Region.ready md ops listed = [] ∧ Q .normal a w
 | m + 1, listed, a, w => (Region.ready md ops listed = [] → Q .normal a w) ∧
  ∀ i ∈ Region.ready md ops listed, wpOp P ops Q i (fun a' w' => (i ≠ z → S w') ∧ AnyZ P md ops Q S z m (listed.setIfInBounds i true) a' w') a w
theorem any_of_Z : ∀ (m : Nat) (listed : Array Bool) (a : Act) (w : World), AnyZ P md ops Q S z m listed a w → wpAny P md ops Q m listed a w
 | 0, _, _, _, h => h
 | m + 1, _, _, _, h => ⟨h.1, fun i hi => wpOp_mono (fun a' w' hk => any_of_Z m _ a' w' hk.2) (h.2 i hi)⟩
theorem Z_first {i : Nat} {oi : Oper} {v : Value} (hi : ops[i]? = some oi) (hsel : Region.noSelect ops = true) (hwait : Region.waitsFor md ops z i = true)
  (hQ : ∀ c a w, Q (.panic c) (a.put oi.dst v) w → Q (.panic c) a w) :
  ∀ (m : Nat) (listed : Array Bool) (a : Act) (w : World),
   (∀ j oj, ops[j]? = some oj → j ≠ i → listed.getD j true = false → (∀ e ∈ oj.after, Region.binds md e = true → e.on ≠ i) → oi.apart ops oj = true) →
   i ∈ Region.ready md ops listed → YieldsIf P ops S oi v a → S w →
   AnyZ P md ops Q S z m (listed.setIfInBounds i true) (a.put oi.dst v) w → AnyZ P md ops Q S z (m + 1) listed a w := by
 have hs := Region.noSelect_spec hsel
 intro m
 induction m with
 | zero =>
  intro listed a w _ hr hy hS H
  constructor
  ·intro h; rw [h] at hr; cases hr
  ·intro j hj
   by_cases hji : j = i
   ·rw [hji]; exact hy.wpOp hi hS ⟨fun _ => hS, H⟩
   ·have h1 := ready_mono hj hji
    rw [H.1] at h1
    cases h1
 | succ m ih =>
  intro listed a w hfree hr hy hS H
  constructor
  ·intro h; rw [h] at hr; cases hr
  ·intro j hj
   by_cases hji : j = i
   ·rw [hji]; exact hy.wpOp hi hS ⟨fun _ => hS, H⟩
   ·have hK := H.2 j (ready_mono hj hji)
    obtain ⟨hjun, oj, hoj, hall⟩ := mem_ready.1 hj
    have hnot : ∀ e ∈ oj.after, Region.binds md e = true → e.on ≠ i := by
     intro e he hb heq
     have g1 := hall e he hb
     have g0 := (mem_ready.1 hr).1
     rw [heq] at g1
     rcases Nat.lt_or_ge i listed.size with h' | h'
     ·simp [h'] at g0 g1; rw [g0] at g1; cases g1
     ·simp [Array.getElem?_eq_none h'] at g1
    have hjz : j ≠ z := by
     intro e
     subst e
     obtain ⟨oz, hoz, e, he, hb, heq⟩ := Region.waitsFor_spec hwait
     rw [hoj] at hoz
     injection hoz with hoz
     subst hoz
     exact hnot e he hb heq
    have h2 := wpOp_putIf hoj (hfree j oj hoj hji hjun hnot) (fun cs b => hs i oi cs b hi) (fun cs b => hs j oj cs b hoj) hQ hy hK
    have hfree' : ∀ k ok, ops[k]? = some ok → k ≠ i → (listed.setIfInBounds j true).getD k true = false → (∀ e ∈ ok.after, Region.binds md e = true → e.on ≠ i) → oi.apart ops ok = true := by
     intro k ok hk hki hun hno
     refine hfree k ok hk hki ?_ hno
     by_cases hjk : j = k
     ·rw [← hjk]; exact hjun
     ·rwa [getD_set_ne true hjk] at hun
    refine wpOp_mono (fun a' w' h3 => ?_) h2
    have hS' := h3.2.1 hjz
    refine ⟨fun _ => hS', ih _ a' w' hfree' (ready_mono hr (Ne.symm hji)) h3.1 hS' ?_⟩
    rw [Array.setIfInBounds_comm _ _ hji]
    exact h3.2.2
/-- The like, where the last operation waits for this one. -/
theorem Z_takeW (i : Nat) {oi : Oper} {v : Value} {m : Nat} {listed : Array Bool} {a : Act} {w : World} (hi : ops[i]? = some oi) (hs : Region.noSelect ops = true) (hwait : Region.waitsFor md ops z i = true)
  (hf : Region.free md ops listed i = true) (hr : (Region.ready md ops listed).contains i = true) (hQ : ∀ c a w, Q (.panic c) (a.put oi.dst v) w → Q (.panic c) a w) (hS : S w)
  (hg : oi.guard = none) (hy : ∀ w, S w → (execOp a.eval oi).run P w = .ok (.value v) w)
  (h : AnyZ P md ops Q S z m (listed.setIfInBounds i true) (a.put oi.dst v) w) : AnyZ P md ops Q S z (m + 1) listed a w :=
 Z_first hi hs hwait hQ m listed a w (Region.free_spec hi hf) (by simpa using hr) (.inl ⟨by simp [Region.wanted, hg], hy⟩) hS h
/-- One alone may come up. -/
theorem Z_one (i : Nat) {oi : Oper} {m : Nat} {listed : Array Bool} {a : Act} {w : World} (hi : ops[i]? = some oi) (hr : Region.ready md ops listed = [i]) (hg : oi.guard = none)
  (h : oi.wp P a w (fun a' w' => (i ≠ z → S w') ∧ AnyZ P md ops Q S z m (listed.setIfInBounds i true) a' w') Q) : AnyZ P md ops Q S z (m + 1) listed a w := by
 refine ⟨fun h0 => (by rw [hr] at h0; cases h0), fun j hj => ?_⟩
 rw [hr] at hj
 have e : j = i := by simpa using hj
 subst e
 unfold wpOp
 simp only [hi]
 rw [if_pos (by simp [Region.wanted, hg])]
 exact .inl h
/-- An append onto a row of one's own, as an operation. -/
theorem app_wp {o : Oper} {a : Act} {w : World} {K : Act → World → Prop} (s x : Operand) (t : TypeId) (ho : o.op = .call { callee := .builtin .append, args := #[s, x], argTypes := #[t, t] })
  (base : Nat) (e : TypeId) (i : TypeInfo) (zv : Value) (size bytes : Nat) (ht : P.underlying t = some (.slice e)) (hi : P.info? e = some i) (hz : i.zero = some zv)
  (hsize : i.size = size) (hby : i.bytes = bytes) (hzs : zv.cells.size = size) (hsz : 0 < size)
  (v : Value) (n : Nat) (xs : List Value) (hs : a.eval s = v) (hown : w.ownsRow base e size v n xs)
  (ad : Addr) (m c : Nat) (news : List Value) (hx : a.eval x = .slice (some ad) m c) (hl : news.length = m * size) (hnews : ∀ j u, news[j]? = some u → w.cell? (ad.add j) = some u) (h1 : ∀ u ∈ news, u.oneCell' = true)
  (h63 : n + m ≤ maxLen) (hbytes : (n + m) * bytes ≤ 140737488355328) (hbase : base ≤ w.heap.size)
  (h : ∀ v' w', w'.ownsRow base e size v' (n + m) (xs ++ news) → w.grownBy w' v.ownBlock → (v'.ownBlock = v.ownBlock ∨ v'.ownBlock = some w.heap.size) → K (a.put o.dst v') w') : o.wp P a w K Q := by
 obtain ⟨v', w', hrun, h2, h3, _, h5⟩ := run_append_own_at (P := P) w base t o.type e i zv size bytes ht hi hz hsize hby hzs hsz v n xs hown ad m c news hl hnews h1 h63 hbytes hbase
 unfold Oper.wp execOp
 simp only [ho, resolve, invoke, builtin, Sem.run_bind, Sem.run_pure, Result.andThen_ok, List.map_toArray, List.map_cons, List.map_nil, hs, hx, hrun]
 exact h v' w' h2 h3 h5
theorem Z_done {listed : Array Bool} {a : Act} {w : World} (hr : Region.ready md ops listed = []) (h : Q .normal a w) : AnyZ P md ops Q S z 0 listed a w := ⟨hr, h⟩
/-- It is left in the ordinary way alone. -/
def OnlyN (Q : Exit → Act → World → Prop) : Exit → Act → World → Prop
 | .normal, a, w => Q .normal a w
 | _, _, _ => False
theorem onlyN_mono (e : Exit) (a : Act) (w : World) (h : OnlyN Q e a w) : Q e a w := by
 cases e with
 | normal => exact h
 | _ => exact h.elim
theorem region_plain {id : Nat} {a : Act} {w : World} (S : World → Prop) (z m : Nat) (hm : P.follows .mixedOrders = true) (hsz : ops.size = m)
  (h : AnyZ P .any ops (OnlyN Q) S z m (Array.replicate m false) a w.drew) : (Code.region id ops true).wp P Q a w := by
 subst hsz
 exact Go.wp_mono (wp_region_any hm (any_of_Z _ _ _ _ h)) onlyN_mono
end

/-- Objects of a kind stay as they are. -/
def Keeps (p : Obj → Bool) (A B : World) : Prop := A.heap.size ≤ B.heap.size ∧ ∀ (k : Nat) (o : Obj), A.heap[k]? = some o → p o = true → B.heap[k]? = some o
theorem Keeps.refl (p : Obj → Bool) (A : World) : Keeps p A A := ⟨Nat.le_refl _, fun _ _ h _ => h⟩
theorem Keeps.trans {p : Obj → Bool} {A B C : World} (h : Keeps p A B) (k : Keeps p B C) : Keeps p A C := ⟨Nat.le_trans h.1 k.1, fun i o hi hp => k.2 i o (h.2 i o hi hp) hp⟩
theorem Keeps.below {A B : World} (h : Below A.heap.size A B) (p : Obj → Bool) : Keeps p A B :=
 ⟨h.size, fun i _ hi _ => (h.block i (Array.getElem?_eq_some_iff.1 hi).1).trans hi⟩
theorem Keeps.grown {p : Obj → Bool} {A B : World} {row : Option Nat} (hg : A.grownBy B row) (hr : ∀ r o, row = some r → A.heap[r]? = some o → p o = false) : Keeps p A B := by
 refine ⟨hg.size, fun i o hi hp => ?_⟩
 refine (hg.block i (Array.getElem?_eq_some_iff.1 hi).1 ?_).trans hi
 intro e
 have := hr i o e.symm hi
 rw [hp] at this; cases this
theorem Keeps.set {p : Obj → Bool} {A : World} {b : Nat} {o : Obj} (hb : A.heap[b]? = some o) (hp : p o = false) (i : Nat) (v : Value) : Keeps p A (A.setCell ⟨b, i, none⟩ v) := by
 refine ⟨by simp, fun k o' hk hp' => ?_⟩
 have hne : k ≠ b := fun e => by subst e; rw [hb] at hk; injection hk with hk; subst hk; rw [hp] at hp'; cases hp'
 rw [heap_setCell_other _ _ _ _ hne]; exact hk
theorem Keeps.put {p : Obj → Bool} {A : World} {l : Nat} {o : Obj} (hl : A.heap[l]? = some o) (hp : p o = false) (o' : Obj) : Keeps p A (A.putObj l o') := by
 refine ⟨by simp, fun k o2 hk hp' => ?_⟩
 have hne : k ≠ l := fun e => by subst e; rw [hl] at hk; injection hk with hk; subst hk; rw [hp] at hp'; cases hp'
 rw [World.putObj_heap_other hne]; exact hk
theorem Keeps.alloc (p : Obj → Bool) (A : World) (o : Obj) : Keeps p A (A.alloc o) := Keeps.below ((Below.refl _ _).alloc (Nat.le_refl _) o) p
theorem Keeps.drewN (p : Obj → Bool) (A : World) (q : Nat) : Keeps p A (A.drewN q) := ⟨Nat.le_refl _, fun _ _ h _ => h⟩

section
variable {α : Type}
variable {P : Program} {n : Nat} {g : Operand} {ps : Array Tmp} {assign body : Code} {Q : Exit → Act → World → Prop} {a : Act} {w : World}
end
end Go.Proofs.YtmohefgdpddldaaGreatDoor
set_option maxRecDepth 100000
namespace Go.Proofs.YtmohefgdpddldaaGreatDoor
namespace Y

/-- A form: its kind, its name, its numbers, its parts. -/
inductive Nd where
 | mk (kind : Int) (name : ByteArray) (low high : Int) (kids : List Nd)
def Nd.kind : Nd → Int | .mk k _ _ _ _ => k
def Nd.name : Nd → ByteArray | .mk _ s _ _ _ => s
def Nd.low : Nd → Int | .mk _ _ x _ _ => x
def Nd.high : Nd → Int | .mk _ _ _ x _ => x
def Nd.kids : Nd → List Nd | .mk _ _ _ _ l => l
mutual
/-- How many nodes. -/
def Nd.size : Nd → Nat
 | .mk _ _ _ _ l => sizeL l + 1
def sizeL : List Nd → Nat
 | [] => 0
 | x :: t => x.size + sizeL t
end
theorem Nd.size_pos (x : Nd) : 1 ≤ x.size := by cases x; rw [Nd.size]; omega
theorem sizeL_app (l m : List Nd) : sizeL (l ++ m) = sizeL l + sizeL m := by
 induction l with
 | nil => simp [sizeL]
 | cons x t ih => simp [sizeL, ih]; omega
/-- An item. -/
structure It where
 kind : Int
 name : ByteArray
 number : Int
 cut : Bool
 before : Nd
 after : Nd
 pos : Int
def noName : ByteArray := { data := #[] }
def zeroN : Nd := .mk 0 noName 0 0 []
/-- All of it but its place. -/
def It.core (x : It) : It := ⟨x.kind, x.name, x.number, x.cut, x.before, x.after, 0⟩
/-- Tokens that are still to be read, or where and why it is wrong. -/
inductive Ps where
 | live (ts : List Tok)
 | dead (at_ why : Int)
def Ps.toks : Ps → List Tok | .live ts => ts | .dead _ _ => []
def Ps.atv : Ps → Int | .live _ => 0 | .dead a _ => a
def Ps.whyv : Ps → Int | .live _ => 0 | .dead _ y => y
/-- It is wrong at the next token, or at the end. -/
def failP (e why : Int) : Ps → Ps
 | .dead a y => .dead a y
 | .live [] => .dead e 5
 | .live (t :: _) => .dead t.pos why
def nextP (ks : List Int) (s : Ps) : Bool := match s.toks with | [] => false | t :: _ => ks.contains t.kind
def noTok : Tok := ⟨0, [], 0, 0, 0⟩
def takeP (e : Int) (ks : List Int) (s : Ps) : Tok × Ps :=
 match s with
 | .live (t :: u) => if ks.contains t.kind = true then (t, .live u) else (noTok, .dead t.pos 4)
 | .live [] => (noTok, .dead e 5)
 | .dead a y => (noTok, .dead a y)
def several (k : Int) (l : List Nd) : Nd := match l with | [x] => x | _ => .mk k noName 0 0 l
def single (t : Tok) : Nd := if t.kind = 1 then .mk 2 (strOfNums t.text) 0 0 [] else if t.kind = 15 then .mk 5 noName t.low t.high [] else .mk 3 noName 0 0 []
def kindP (k : Int) : Int := if k = 9 then 10 else if k = 10 then 11 else if k = 11 then 12 else if k = 16 then 6 else 7
/-- One more that is open. -/
def deepP (e : Int) (o : Nat) (s : Ps) : Ps := if o = 12 then failP e 8 s else s
mutual
def formP (e : Int) : Nat → Nat → Ps → Nd × Ps
 | 0, _, s => (zeroN, s)
 | n + 1, o, s => orsP e n o [(joinP e n o s).1] (joinP e n o s).2
def orsP (e : Int) : Nat → Nat → List Nd → Ps → Nd × Ps
 | 0, _, l, s => (several 9 l, s)
 | n + 1, o, l, s => if nextP [8] s = true then orsP e n o (l ++ [(joinP e n o (takeP e [8] s).2).1]) (joinP e n o (takeP e [8] s).2).2 else (several 9 l, s)
def joinP (e : Int) : Nat → Nat → Ps → Nd × Ps
 | 0, _, s => (zeroN, s)
 | n + 1, o, s => (if (piecesP e n o [] s).1 = [] then .mk 1 noName 0 0 [] else several 8 (piecesP e n o [] s).1, (piecesP e n o [] s).2)
def piecesP (e : Int) : Nat → Nat → List Nd → Ps → List Nd × Ps
 | 0, _, l, s => (l, s)
 | n + 1, o, l, s => if nextP [1, 12, 6, 13] s = true then piecesP e n o (l ++ [(pieceP e n o s).1]) (pieceP e n o s).2 else (l, s)
def pieceP (e : Int) : Nat → Nat → Ps → Nd × Ps
 | 0, _, s => (zeroN, s)
 | n + 1, o, s => if nextP [9, 10, 11] (bareP e n o s).2 = true then (.mk (kindP (takeP e [9, 10, 11] (bareP e n o s).2).1.kind) noName 0 0 [(bareP e n o s).1], (takeP e [9, 10, 11] (bareP e n o s).2).2) else bareP e n o s
def bareP (e : Int) : Nat → Nat → Ps → Nd × Ps
 | 0, _, s => (zeroN, s)
 | n + 1, o, s =>
  if nextP [6] s = true then
   ((formP e n (o + 1) (takeP e [6] (deepP e o s)).2).1, (takeP e [7] (formP e n (o + 1) (takeP e [6] (deepP e o s)).2).2).2)
  else if nextP [13] s = true then setP e n o s
  else (single (takeP e [1, 12] s).1, (takeP e [1, 12] s).2)
def setP (e : Int) : Nat → Nat → Ps → Nd × Ps
 | 0, _, s => (zeroN, s)
 | n + 1, o, s => (.mk 4 noName (takeP e [13] (deepP e o s)).1.low 0 (partsP e n (o + 1) [] (takeP e [13] (deepP e o s)).2).1, (takeP e [14] (partsP e n (o + 1) [] (takeP e [13] (deepP e o s)).2).2).2)
def partsP (e : Int) : Nat → Nat → List Nd → Ps → List Nd × Ps
 | 0, _, l, s => (l, s)
 | n + 1, o, l, s => if nextP [15, 1, 13] s = true then partsP e n o (l ++ [(partP e n o s).1]) (partP e n o s).2 else (l, s)
def partP (e : Int) : Nat → Nat → Ps → Nd × Ps
 | 0, _, s => (zeroN, s)
 | n + 1, o, s => heldP e n o (memberP e n o s).1 (memberP e n o s).2
def heldP (e : Int) : Nat → Nat → Nd → Ps → Nd × Ps
 | 0, _, x, s => (x, s)
 | n + 1, o, x, s => if nextP [16, 17] s = true then heldP e n o (.mk (kindP (takeP e [16, 17] s).1.kind) noName 0 0 [x, (memberP e n o (takeP e [16, 17] s).2).1]) (memberP e n o (takeP e [16, 17] s).2).2 else (x, s)
def memberP (e : Int) : Nat → Nat → Ps → Nd × Ps
 | 0, _, s => (zeroN, s)
 | n + 1, o, s => if nextP [13] s = true then setP e n o s else (single (takeP e [15, 1] s).1, (takeP e [15, 1] s).2)
end
/-- A line's item. -/
def itemP (e : Int) (n : Nat) (s : Ps) : It × Ps :=
 if (takeP e [1, 2, 19] s).1.kind = 1 then
  (⟨1, strOfNums (takeP e [1, 2, 19] s).1.text, 0, false, (formP e n 0 (takeP e [3] (takeP e [1, 2, 19] s).2).2).1, zeroN, (takeP e [1, 2, 19] s).1.pos⟩, (formP e n 0 (takeP e [3] (takeP e [1, 2, 19] s).2).2).2)
 else if (takeP e [1, 2, 19] s).1.kind = 2 then
  (⟨2, noName, (takeP e [1, 2, 19] s).1.low, decide ((takeP e [4, 5] (formP e n 0 (takeP e [1, 2, 19] s).2).2).1.kind = 5), (formP e n 0 (takeP e [1, 2, 19] s).2).1, (formP e n 0 (takeP e [4, 5] (formP e n 0 (takeP e [1, 2, 19] s).2).2).2).1, (takeP e [1, 2, 19] s).1.pos⟩, (formP e n 0 (takeP e [4, 5] (formP e n 0 (takeP e [1, 2, 19] s).2).2).2).2)
 else (⟨3, strOfNums (takeP e [1, 2, 19] s).1.text, (takeP e [1, 2, 19] s).1.low, false, zeroN, zeroN, (takeP e [1, 2, 19] s).1.pos⟩, (takeP e [1, 2, 19] s).2)
/-- A line's end, unless it is the text's. -/
def lineP (e : Int) (s : Ps) : Ps := if s.toks = [] then s else (takeP e [18] s).2
/-- All lines' items. -/
def itemsP (e : Int) (n : Nat) : Nat → List It → Ps → List It × Ps
 | 0, l, s => (l, s)
 | m + 1, l, s =>
  if s.toks = [] then (l, s)
  else if nextP [18] s = true then itemsP e n m l (takeP e [18] s).2
  else if l.length = 100 then (l, failP e 9 s)
  else itemsP e n m (l ++ [(itemP e n s).1]) (lineP e (itemP e n s).2)
/-- Nothing may be left. -/
def lastP (e : Int) (s : Ps) : Ps := if s.toks = [] then s else failP e 4 s
end Y
end Go.Proofs.YtmohefgdpddldaaGreatDoor
namespace Go.Proofs.YtmohefgdpddldaaGreatDoor
namespace Y

@[simp] theorem next_dead (ks : List Int) (a y : Int) : nextP ks (.dead a y) = false := rfl
@[simp] theorem next_nil (ks : List Int) : nextP ks (.live []) = false := rfl
@[simp] theorem next_cons (ks : List Int) (t : Tok) (u : List Tok) : nextP ks (.live (t :: u)) = ks.contains t.kind := rfl
@[simp] theorem take_dead (e : Int) (ks : List Int) (a y : Int) : takeP e ks (.dead a y) = (noTok, .dead a y) := rfl
@[simp] theorem take_nil (e : Int) (ks : List Int) : takeP e ks (.live []) = (noTok, .dead e 5) := rfl
@[simp] theorem take_cons (e : Int) (ks : List Int) (t : Tok) (u : List Tok) : takeP e ks (.live (t :: u)) = if ks.contains t.kind = true then (t, .live u) else (noTok, .dead t.pos 4) := rfl
@[simp] theorem fail_dead (e w a y : Int) : failP e w (.dead a y) = .dead a y := rfl
@[simp] theorem deep_dead (e : Int) (o : Nat) (a y : Int) : deepP e o (.dead a y) = .dead a y := by unfold deepP; split <;> rfl
theorem take_len (e : Int) (ks : List Int) (s : Ps) : (takeP e ks s).2.toks.length ≤ s.toks.length := by
 rcases s with (_ | ⟨t, u⟩) | ⟨a, y⟩
 ·simp [Ps.toks]
 ·rw [take_cons]; split <;> simp [Ps.toks]
 ·simp [Ps.toks]
theorem take_less (e : Int) (ks ks' : List Int) (s : Ps) (h : nextP ks s = true) : (takeP e ks' s).2.toks.length < s.toks.length := by
 rcases s with (_ | ⟨t, u⟩) | ⟨a, y⟩
 ·simp at h
 ·rw [take_cons]; split <;> simp [Ps.toks]
 ·simp at h
theorem fail_len (e w : Int) (s : Ps) : (failP e w s).toks.length ≤ s.toks.length := by
 rcases s with (_ | ⟨t, u⟩) | ⟨a, y⟩ <;> simp [Ps.toks, failP]
theorem deep_len (e : Int) (o : Nat) (s : Ps) : (deepP e o s).toks.length ≤ s.toks.length := by
 unfold deepP; split
 ·exact fail_len _ _ _
 ·exact Nat.le_refl _
theorem deep_take (e : Int) (o : Nat) (ks ks' : List Int) (s : Ps) (h : nextP ks s = true) : (takeP e ks' (deepP e o s)).2.toks.length < s.toks.length := by
 unfold deepP
 split
 ·rcases s with (_ | ⟨t, u⟩) | ⟨a, y⟩
  ·simp at h
  ·simp [failP, Ps.toks]
  ·simp at h
 ·exact take_less e ks ks' s h
section
variable (e : Int)
structure Dead (n : Nat) : Prop where
 form : ∀ o a y, (formP e n o (.dead a y)).2 = .dead a y
 ors : ∀ o l a y, (orsP e n o l (.dead a y)).2 = .dead a y
 join : ∀ o a y, (joinP e n o (.dead a y)).2 = .dead a y
 pieces : ∀ o l a y, (piecesP e n o l (.dead a y)).2 = .dead a y
 piece : ∀ o a y, (pieceP e n o (.dead a y)).2 = .dead a y
 bare : ∀ o a y, (bareP e n o (.dead a y)).2 = .dead a y
 set : ∀ o a y, (setP e n o (.dead a y)).2 = .dead a y
 parts : ∀ o l a y, (partsP e n o l (.dead a y)).2 = .dead a y
 part : ∀ o a y, (partP e n o (.dead a y)).2 = .dead a y
 held : ∀ o x a y, (heldP e n o x (.dead a y)).2 = .dead a y
 member : ∀ o a y, (memberP e n o (.dead a y)).2 = .dead a y
theorem dead_all (n : Nat) : Dead e n := by
 induction n with
 | zero => constructor <;> intros <;> simp [formP, orsP, joinP, piecesP, pieceP, bareP, setP, partsP, partP, heldP, memberP]
 | succ n ih =>
  obtain ⟨h1, h2, h3, h4, h5, h6, h7, h8, h9, h10, h11⟩ := ih
  constructor <;> intros <;> simp [formP, orsP, joinP, piecesP, pieceP, bareP, setP, partsP, partP, heldP, memberP, h1, h2, h3, h4, h5, h6, h7, h8, h9, h10, h11]
structure Len (n : Nat) : Prop where
 form : ∀ o s, (formP e n o s).2.toks.length ≤ s.toks.length
 ors : ∀ o l s, (orsP e n o l s).2.toks.length ≤ s.toks.length
 join : ∀ o s, (joinP e n o s).2.toks.length ≤ s.toks.length
 pieces : ∀ o l s, (piecesP e n o l s).2.toks.length ≤ s.toks.length
 piece : ∀ o s, (pieceP e n o s).2.toks.length ≤ s.toks.length
 bare : ∀ o s, (bareP e n o s).2.toks.length ≤ s.toks.length
 set : ∀ o s, (setP e n o s).2.toks.length ≤ s.toks.length
 parts : ∀ o l s, (partsP e n o l s).2.toks.length ≤ s.toks.length
 part : ∀ o s, (partP e n o s).2.toks.length ≤ s.toks.length
 held : ∀ o x s, (heldP e n o x s).2.toks.length ≤ s.toks.length
 member : ∀ o s, (memberP e n o s).2.toks.length ≤ s.toks.length
theorem len_all (n : Nat) : Len e n := by
 induction n with
 | zero => constructor <;> intros <;> simp [formP, orsP, joinP, piecesP, pieceP, bareP, setP, partsP, partP, heldP, memberP]
 | succ n ih =>
  obtain ⟨h1, h2, h3, h4, h5, h6, h7, h8, h9, h10, h11⟩ := ih
  constructor
  ·intro o s; rw [formP]; exact Nat.le_trans (h2 _ _ _) (h3 _ _)
  ·intro o l s; rw [orsP]; split
   ·exact Nat.le_trans (h2 _ _ _) (Nat.le_trans (h3 _ _) (take_len _ _ _))
   ·exact Nat.le_refl _
  ·intro o s; rw [joinP]; exact h4 _ _ _
  ·intro o l s; rw [piecesP]; split
   ·exact Nat.le_trans (h4 _ _ _) (h5 _ _)
   ·exact Nat.le_refl _
  ·intro o s; rw [pieceP]; split
   ·exact Nat.le_trans (take_len _ _ _) (h6 _ _)
   ·exact h6 _ _
  ·intro o s; rw [bareP]; split
   ·exact Nat.le_trans (take_len _ _ _) (Nat.le_trans (h1 _ _) (Nat.le_trans (take_len _ _ _) (deep_len _ _ _)))
   ·split
    ·exact h7 _ _
    ·exact take_len _ _ _
  ·intro o s; rw [setP]; exact Nat.le_trans (take_len _ _ _) (Nat.le_trans (h8 _ _ _) (Nat.le_trans (take_len _ _ _) (deep_len _ _ _)))
  ·intro o l s; rw [partsP]; split
   ·exact Nat.le_trans (h8 _ _ _) (h9 _ _)
   ·exact Nat.le_refl _
  ·intro o s; rw [partP]; exact Nat.le_trans (h10 _ _ _) (h11 _ _)
  ·intro o x s; rw [heldP]; split
   ·exact Nat.le_trans (h10 _ _ _) (Nat.le_trans (h11 _ _) (take_len _ _ _))
   ·exact Nat.le_refl _
  ·intro o s; rw [memberP]; split
   ·exact h7 _ _
   ·exact take_len _ _ _
end
theorem set_less (e : Int) (m o : Nat) (s : Ps) {ks : List Int} (h : nextP ks s = true) : (setP e (m + 1) o s).2.toks.length < s.toks.length := by
 rw [setP]
 exact Nat.lt_of_le_of_lt (Nat.le_trans (take_len _ _ _) ((len_all e m).parts _ _ _)) (deep_take e o ks _ s h)
theorem member_less (e : Int) (m o : Nat) (s : Ps) {ks : List Int} (h : nextP ks s = true) : (memberP e (m + 2) o s).2.toks.length < s.toks.length := by
 rw [memberP]
 split
 ·exact set_less e m o s h
 ·exact take_less e ks _ s h
theorem part_less (e : Int) (m o : Nat) (s : Ps) {ks : List Int} (h : nextP ks s = true) : (partP e (m + 3) o s).2.toks.length < s.toks.length := by
 rw [partP]
 exact Nat.lt_of_le_of_lt ((len_all e (m + 2)).held _ _ _) (member_less e m o s h)
theorem bare_less (e : Int) (m o : Nat) (s : Ps) {ks : List Int} (h : nextP ks s = true) : (bareP e (m + 2) o s).2.toks.length < s.toks.length := by
 rw [bareP]
 split
 ·exact Nat.lt_of_le_of_lt (Nat.le_trans (take_len _ _ _) ((len_all e (m + 1)).form _ _)) (deep_take e o ks _ s h)
 ·split
  ·exact set_less e m o s h
  ·exact take_less e ks _ s h
section
variable (e d : Int)
end
end Y
end Go.Proofs.YtmohefgdpddldaaGreatDoor
namespace Go.Proofs.YtmohefgdpddldaaGreatDoor
open Go.RowKit
open Y (Nd It Ps)

/-- Five cells read as a form whose parts lie in blocks of which S speaks. -/
inductive NdAt (w : World) (S : Nat → Prop) : List Value → Nd → Prop
 | mk (k lo hi : Int) (s : ByteArray) (A : Option Addr) (n c : Nat) (kids : List Nd) (cs : Nat → List Value) (hl : kids.length = n) (hc : n ≤ c) (hm : c ≤ maxLen)
   (hA : 0 < n → ∃ b off, A = some ⟨b, off, none⟩ ∧ S b ∧ ∀ i, i < n → ∀ j u, (cs i)[j]? = some u → w.cell? ⟨b, off + (i * 5 + j), none⟩ = some u)
   (hk : ∀ i x, kids[i]? = some x → NdAt w S (cs i) x) : NdAt w S [.int .i64 k, .string s, .int .i64 lo, .int .i64 hi, .slice A n c] (.mk k s lo hi kids)
/-- A slice value reads as these forms. -/
structure RdN (w : World) (S : Nat → Prop) (A : Option Addr) (n c : Nat) (l : List Nd) : Prop where
 len : l.length = n
 cap : n ≤ c
 capm : c ≤ maxLen
 at_ : ∃ cs : Nat → List Value, (0 < n → ∃ b off, A = some ⟨b, off, none⟩ ∧ S b ∧ ∀ i, i < n → ∀ j u, (cs i)[j]? = some u → w.cell? ⟨b, off + (i * 5 + j), none⟩ = some u) ∧ ∀ i x, l[i]? = some x → NdAt w S (cs i) x
theorem NdAt.of {w : World} {S : Nat → Prop} {A : Option Addr} {n c : Nat} {l : List Nd} (h : RdN w S A n c l) (k lo hi : Int) (s : ByteArray) : NdAt w S [.int .i64 k, .string s, .int .i64 lo, .int .i64 hi, .slice A n c] (.mk k s lo hi l) := by
 obtain ⟨h1, h2, h3, cs, h4, h5⟩ := h
 exact .mk k lo hi s A n c l cs h1 h2 h3 h4 h5
theorem NdAt.inv {w : World} {S : Nat → Prop} {cs : List Value} {x : Nd} (h : NdAt w S cs x) : ∃ A n c, cs = [.int .i64 x.kind, .string x.name, .int .i64 x.low, .int .i64 x.high, .slice A n c] ∧ RdN w S A n c x.kids := by
 cases h with
 | mk k lo hi s A n c kids cs hl hc hm hA hk => exact ⟨A, n, c, rfl, hl, hc, hm, cs, hA, hk⟩
/-- A value that is a form. -/
def IsN (w : World) (S : Nat → Prop) (v : Value) (x : Nd) : Prop := ∃ A n c, v = .agg #[.int .i64 x.kind, .string x.name, .int .i64 x.low, .int .i64 x.high, .slice A n c] ∧ RdN w S A n c x.kids
theorem NdAt.keep {w w' : World} {S S' : Nat → Prop} {cs : List Value} {x : Nd} (h : NdAt w S cs x) (hS : ∀ b, S b → S' b) (hk : ∀ p : Addr, S p.block → w'.cell? p = w.cell? p) : NdAt w' S' cs x := by
 induction h with
 | mk k lo hi s A n c kids cs hl hc hm hA _ ih =>
  refine .mk k lo hi s A n c kids cs hl hc hm (fun hn => ?_) ih
  obtain ⟨b, off, e, hb, hcc⟩ := hA hn
  exact ⟨b, off, e, hS b hb, fun i hi j u hu => (hk ⟨b, _, none⟩ hb).trans (hcc i hi j u hu)⟩
section
variable {w w' : World} {S S' : Nat → Prop} {A : Option Addr} {n c : Nat} {l : List Nd} {v : Value} {x : Nd}
theorem RdN.keep (h : RdN w S A n c l) (hS : ∀ b, S b → S' b) (hk : ∀ p : Addr, S p.block → w'.cell? p = w.cell? p) : RdN w' S' A n c l := by
 obtain ⟨h1, h2, h3, cs, h4, h5⟩ := h
 refine ⟨h1, h2, h3, cs, fun hn => ?_, fun i x hx => (h5 i x hx).keep hS hk⟩
 obtain ⟨b, off, e, hb, hcc⟩ := h4 hn
 exact ⟨b, off, e, hS b hb, fun i hi j u hu => (hk ⟨b, _, none⟩ hb).trans (hcc i hi j u hu)⟩
theorem IsN.keep (h : IsN w S v x) (hS : ∀ b, S b → S' b) (hk : ∀ p : Addr, S p.block → w'.cell? p = w.cell? p) : IsN w' S' v x := by
 obtain ⟨A, n, c, e, hr⟩ := h
 exact ⟨A, n, c, e, hr.keep hS hk⟩
theorem IsN.at_ (h : IsN w S v x) : ∃ cs, v = .agg cs.toArray ∧ NdAt w S cs x := by
 obtain ⟨A, n, c, rfl, hr⟩ := h
 cases x with
 | mk k s lo hi kids => exact ⟨_, rfl, NdAt.of hr _ _ _ _⟩
theorem RdN.nil (w : World) (S : Nat → Prop) : RdN w S none 0 0 [] := ⟨rfl, Nat.le_refl _, by simp [maxLen], fun _ => [], fun h => absurd h (by omega), fun i x hx => by simp at hx⟩
theorem RdN.small (h : RdN w S A n c l) : n ≤ 9223372036854775807 := by have h1 := h.cap; have h2 := h.capm; unfold maxLen at h2; omega
/-- The cells of one of them. -/
theorem RdN.got (h : RdN w S A n c l) {i : Nat} (hi : i < n) : ∃ (b off : Nat) (x : Nd) (A' : Option Addr) (n' c' : Nat), A = some ⟨b, off, none⟩ ∧ S b ∧ l[i]? = some x ∧ RdN w S A' n' c' x.kids ∧
  w.cell? ⟨b, off + i * 5, none⟩ = some (.int .i64 x.kind) ∧ w.cell? ⟨b, off + i * 5 + 1, none⟩ = some (.string x.name) ∧ w.cell? ⟨b, off + i * 5 + 2, none⟩ = some (.int .i64 x.low) ∧ w.cell? ⟨b, off + i * 5 + 3, none⟩ = some (.int .i64 x.high) ∧ w.cell? ⟨b, off + i * 5 + 4, none⟩ = some (.slice A' n' c') := by
 obtain ⟨h1, h2, h3, cs, h4, h5⟩ := h
 obtain ⟨b, off, e, hb, hcc⟩ := h4 (by omega)
 have hx := List.getElem?_eq_getElem (l := l) (i := i) (by omega)
 obtain ⟨A', n', c', e5, hr⟩ := (h5 i _ hx).inv
 have hc := hcc i hi
 rw [e5] at hc
 refine ⟨b, off, l[i]'(by omega), A', n', c', e, hb, hx, hr, ?_, ?_, ?_, ?_, ?_⟩
 ·exact hc 0 _ rfl
 ·have := hc 1 _ rfl; rwa [← Nat.add_assoc] at this
 ·have := hc 2 _ rfl; rwa [← Nat.add_assoc] at this
 ·have := hc 3 _ rfl; rwa [← Nat.add_assoc] at this
 ·have := hc 4 _ rfl; rwa [← Nat.add_assoc] at this
end
/-- Blocks from one up to another one. -/
def In (lo hi : Nat) (b : Nat) : Prop := lo ≤ b ∧ b < hi
/-- A row of forms of one's own, from block B on; its parts lie there too, in other blocks. -/
def OwnN (w : World) (B : Nat) (v : Value) (l : List Nd) : Prop := ∃ cs, w.ownsRow B 24 5 v l.length cs ∧ ∀ i x, l[i]? = some x → NdAt w (fun b => B ≤ b ∧ b < w.heap.size ∧ v.ownBlock ≠ some b) ((cs.drop (i * 5)).take 5) x
theorem info_nd : (Tryz.prog.info? 24).map (fun i => (i.zero, i.size, i.bytes)) = some (some (.agg #[.int .i64 0, .string { data := #[] }, .int .i64 0, .int .i64 0, .slice none 0 0]), 5, 64) := by kernel_rfl
section
variable {w w' : World} {B : Nat} {v : Value} {l : List Nd}
theorem OwnN.nil (w : World) (B : Nat) : OwnN w B (.slice none 0 0) [] := ⟨[], World.ownsRow_nil w B _ 5, fun i x hx => by simp at hx⟩
theorem OwnN.rd (h : OwnN w B v l) : ∃ A c, v = .slice A l.length c ∧ RdN w (In B w.heap.size) A l.length c l := by
 obtain ⟨cs, ho, hk⟩ := h
 have hs : ∀ i x, l[i]? = some x → NdAt w (In B w.heap.size) ((cs.drop (i * 5)).take 5) x := fun i x hx => (hk i x hx).keep (fun b hb => ⟨hb.1, hb.2.1⟩) (fun _ _ => rfl)
 rcases ho.2 with ⟨h1, h2⟩ | ⟨g, cap, cur, h1, hB, hg, h3, h4, _, _⟩
 ·subst h1
  have : l = [] := List.eq_nil_of_length_eq_zero h2
  subst this
  exact ⟨none, 0, rfl, RdN.nil _ _⟩
 ·subst h1
  have hlt : g < w.heap.size := by
   rcases Nat.lt_or_ge g w.heap.size with hlt | hge
   ·exact hlt
   ·rw [Array.getElem?_eq_none hge] at hg; cases hg
  refine ⟨_, cap, rfl, rfl, h3, h4, fun i => (cs.drop (i * 5)).take 5, fun _ => ⟨g, 0, rfl, ⟨hB, hlt⟩, fun i hi j u hu => ?_⟩, hs⟩
  rw [← kadd_none]
  have hj : j < 5 := by
   have := (List.getElem?_eq_some_iff.1 hu).1; rw [List.length_take] at this; omega
  rw [List.getElem?_take_of_lt hj, List.getElem?_drop] at hu
  exact World.ownsRow.cells ho (g := g) rfl _ _ hu
theorem row_keep {e : TypeId} {k m : Nat} {cs : List Value} (h : w.ownsRow B e k v m cs) (hb : ∀ i, B ≤ i → i < w.heap.size → v.ownBlock = some i → w'.heap[i]? = w.heap[i]?) : w'.ownsRow B e k v m cs := by
 refine ⟨h.1, ?_⟩
 rcases h.2 with h2 | ⟨g, cap, cur, h1, hB, hg, h3⟩
 ·exact .inl h2
 ·have hlt : g < w.heap.size := by
   rcases Nat.lt_or_ge g w.heap.size with hlt | hge
   ·exact hlt
   ·rw [Array.getElem?_eq_none hge] at hg; cases hg
  exact .inr ⟨g, cap, cur, h1, hB, (hb g hB hlt (by subst h1; rfl)).trans hg, h3⟩
/-- It stays where nothing from B on has turned. -/
theorem OwnN.keep (h : OwnN w B v l) (hs : w.heap.size ≤ w'.heap.size) (hb : ∀ i, B ≤ i → i < w.heap.size → w'.heap[i]? = w.heap[i]?) : OwnN w' B v l := by
 obtain ⟨cs, ho, hk⟩ := h
 exact ⟨cs, row_keep ho fun i h1 h2 _ => hb i h1 h2, fun i x hx => (hk i x hx).keep (fun b hb => ⟨hb.1, by omega, hb.2.2⟩) (fun p hp => World.cell?_of_block (hb p.block hp.1 hp.2.1))⟩
theorem OwnN.block (h : OwnN w B v l) : ∀ i, v.ownBlock = some i → B ≤ i ∧ i < w.heap.size := by
 obtain ⟨cs, ho, _⟩ := h
 exact World.ownsRow.lt ho
/-- What an append of one form leaves. -/
theorem OwnN.push {v' : Value} {ns cs : List Value} {x : Nd} (hk : ∀ i x, l[i]? = some x → NdAt w (fun b => B ≤ b ∧ b < w.heap.size ∧ v.ownBlock ≠ some b) ((cs.drop (i * 5)).take 5) x) (hcl : cs.length = l.length * 5)
  (hx : NdAt w (fun b => B ≤ b ∧ b < w.heap.size ∧ v.ownBlock ≠ some b) ns x) (hn : ns.length = 5) (ho : w'.ownsRow B 24 5 v' (l.length + 1) (cs ++ ns)) (hg : w.grownBy w' v.ownBlock) (hat : v'.ownBlock = v.ownBlock ∨ v'.ownBlock = some w.heap.size) : OwnN w' B v' (l ++ [x]) := by
 have hS : ∀ b, (B ≤ b ∧ b < w.heap.size ∧ v.ownBlock ≠ some b) → B ≤ b ∧ b < w'.heap.size ∧ v'.ownBlock ≠ some b := fun b ⟨h1, h2, h3⟩ => ⟨h1, Nat.lt_of_lt_of_le h2 hg.size, by
  rcases hat with e | e
  ·rw [e]; exact h3
  ·rw [e]; intro e2; injection e2 with e2; omega⟩
 have hc : ∀ p : Addr, (B ≤ p.block ∧ p.block < w.heap.size ∧ v.ownBlock ≠ some p.block) → w'.cell? p = w.cell? p := fun p ⟨_, h2, h3⟩ => World.cell?_of_block (hg.block p.block h2 (fun e => h3 e.symm))
 refine ⟨cs ++ ns, by simpa using ho, fun i y hy => ?_⟩
 rcases Nat.lt_or_ge i l.length with hi | hi
 ·rw [List.getElem?_append_left hi] at hy
  have := (hk i y hy).keep hS hc
  rw [List.drop_append_of_le_length (by omega), List.take_append_of_le_length (by rw [List.length_drop]; omega)]
  exact this
 ·have hil : i = l.length := by
   have := (List.getElem?_eq_some_iff.1 hy).1; simp at this; omega
  subst hil
  rw [List.getElem?_append_right (Nat.le_refl _), Nat.sub_self] at hy
  simp at hy
  subst hy
  rw [List.drop_append, List.drop_eq_nil_of_le (by omega), List.nil_append, hcl, Nat.sub_self, List.drop_zero, List.take_of_length_le (by omega)]
  exact hx.keep hS hc
end
/-- Only block b and new blocks have turned. -/
structure Fe (b : Nat) (w w' : World) : Prop where
 os : w'.os = w.os
 tape : w'.tape = w.tape
 output : w'.output = w.output
 size : w.heap.size ≤ w'.heap.size
 block : ∀ i, i < w.heap.size → i ≠ b → w'.heap[i]? = w.heap[i]?
theorem Fe.refl (b : Nat) (w : World) : Fe b w w := ⟨rfl, rfl, rfl, Nat.le_refl _, fun _ _ _ => rfl⟩
theorem Fe.trans {b : Nat} {a c d : World} (h : Fe b a c) (k : Fe b c d) : Fe b a d :=
 ⟨k.os.trans h.os, k.tape.trans h.tape, k.output.trans h.output, Nat.le_trans h.size k.size, fun i hi hn => (k.block i (Nat.lt_of_lt_of_le hi h.size) hn).trans (h.block i hi hn)⟩
theorem Fe.drewN {b : Nat} {a c : World} (h : Fe b a c) (q : Nat) : Fe b a (c.drewN q) := ⟨h.os, h.tape, h.output, h.size, h.block⟩
theorem Fe.of_below {b : Nat} {w w' : World} (h : Below w.heap.size w w') : Fe b w w' := ⟨h.os, h.tape, h.output, h.size, fun i hi _ => h.block i hi⟩
/-- A cell of the reader, or of a block that is new, turns. -/
theorem Fe.set {b : Nat} {a c : World} (h : Fe b a c) {g : Nat} (hg : g = b ∨ a.heap.size ≤ g) (o : Nat) (v : Value) : Fe b a (c.setCell ⟨g, o, none⟩ v) :=
 ⟨h.os, h.tape, h.output, by simp; exact h.size, fun i hi hn => (Below.heap_setCell _ _ _ _ (by show i ≠ g; omega)).trans (h.block i hi hn)⟩
theorem Fe.below {b B : Nat} {w w' : World} (h : Fe b w w') (hb : B ≤ b) (hB : B ≤ w.heap.size) : Below B w w' := ⟨h.os, h.tape, h.output, h.size, fun i hi => h.block i (by omega) (by omega)⟩
theorem OwnN.fe {w w' : World} {b B : Nat} {v : Value} {l : List Nd} (h : OwnN w B v l) (hf : Fe b w w') (hb : b < B) : OwnN w' B v l := h.keep hf.size fun i h1 h2 => hf.block i h2 (by omega)
theorem IsN.fe {w w' : World} {S : Nat → Prop} {b : Nat} {v : Value} {x : Nd} (h : IsN w S v x) (hf : Fe b w w') (hb : ∀ i, S i → i < w.heap.size ∧ i ≠ b) : IsN w' S v x :=
 h.keep (fun _ hb => hb) fun p hp => World.cell?_of_block (hf.block p.block (hb _ hp).1 (hb _ hp).2)
section
variable {b : Nat} {w w' : World} {e : Int} {o : Nat} {s : Ps} {A : Option Addr} {n c : Nat}
end
/-- The first token of some. -/
theorem RdT.first {w : World} {B : Nat} {A : Option Addr} {n c : Nat} {t : Tok} {u : List Tok} (h : RdT w B A n c (t :: u)) : ∃ b off, A = some ⟨b, off, none⟩ ∧ b < B ∧ n = u.length + 1 ∧ w.cell? ⟨b, off, none⟩ = some (.int .i64 t.kind) ∧ w.cell? ⟨b, off + 1, none⟩ = some (.string (strOfNums t.text)) ∧ w.cell? ⟨b, off + 2, none⟩ = some (.int .i64 t.low) ∧ w.cell? ⟨b, off + 3, none⟩ = some (.int .i64 t.high) ∧ w.cell? ⟨b, off + 4, none⟩ = some (.int .i64 t.pos) := by
 have hl := h.len
 simp only [List.length_cons] at hl
 obtain ⟨b, off, e, hb, hc⟩ := h.at_ (by omega)
 refine ⟨b, off, e, hb, hl.symm, ?_, ?_, ?_, ?_, ?_⟩
 ·exact hc 0 _ rfl
 ·exact hc 1 _ rfl
 ·exact hc 2 _ rfl
 ·exact hc 3 _ rfl
 ·exact hc 4 _ rfl
/-- All but the first token. -/
theorem RdT.tail {w : World} {B : Nat} {A : Option Addr} {n c : Nat} {t : Tok} {u : List Tok} (h : RdT w B A n c (t :: u)) : RdT w B (if c = 1 then A else A.map (·.add 5)) (n - 1) (c - 1) u := by
 have hl := h.len
 simp only [List.length_cons] at hl
 refine ⟨by omega, by have := h.cap; omega, by have := h.capm; omega, fun h1 => ?_⟩
 obtain ⟨b, off, rfl, hb, hc⟩ := h.at_ (by omega)
 rw [if_neg (by have := h.cap; omega)]
 refine ⟨b, off + 5, by simp [kadd_none], hb, fun j x hx => ?_⟩
 have := hc (5 + j) x (by
  rw [show cellsP (t :: u) = t.cells ++ cellsP u by simp [cellsP], List.getElem?_append_right (by simp [Tok.cells])]
  simpa [Tok.cells] using hx)
 rwa [Nat.add_assoc]
end Go.Proofs.YtmohefgdpddldaaGreatDoor
namespace Go.Proofs.YtmohefgdpddldaaGreatDoor
namespace Q
def isC (c : Int) : Bool := decide (0 ≤ c ∧ c ≤ 1114111)
def plainB (c : Int) : Bool := decide (97 ≤ c ∧ c ≤ 122 ∨ 65 ≤ c ∧ c ≤ 90 ∨ 48 ≤ c ∧ c ≤ 57)
theorem isC_iff (c : Int) : isC c = true ↔ 0 ≤ c ∧ c ≤ 1114111 := by unfold isC; exact decide_eq_true_iff
theorem plain_iff (c : Int) : plainB c = true ↔ (97 ≤ c ∧ c ≤ 122 ∨ 65 ≤ c ∧ c ≤ 90 ∨ 48 ≤ c ∧ c ≤ 57) := by unfold plainB; exact decide_eq_true_iff
/-- The letter of one digit. -/
def dig (d : Int) : Int := if d < 10 then 48 + d else 87 + d
/-- Hexadecimal digits, at most f of them. -/
def hexF : Nat → Int → List Int
 | 0, _ => []
 | f + 1, n => if n < 16 then [dig n] else hexF f (n / 16) ++ [dig (n % 16)]
/-- A character, written out. -/
def textB (c : Int) : List Int := if plainB c then [c] else [92, 117, 123] ++ hexF 6 c ++ [125]
def flatT (L : List Int) : List Int := L.flatMap textB
/-- What a letter is worth as a digit. -/
def digV (c : Int) : Int := if 48 ≤ c ∧ c ≤ 57 then c - 48 else if 97 ≤ c ∧ c ≤ 102 then c - 97 + 10 else if 65 ≤ c ∧ c ≤ 70 then c - 65 + 10 else -1
theorem digV_bd (c : Int) : -1 ≤ digV c ∧ digV c ≤ 15 := by unfold digV; split <;> (try split) <;> (try split) <;> omega
/-- What reading comes to: a character and the place behind it, or an error. -/
inductive R where
 | ok (c : Int) (k : Nat)
 | bad (e : Int)
def numS : List Int → Nat → Int → Nat → R
 | [], _, _, _ => .bad 5
 | c :: t, d, v, p => if c = 125 ∧ 0 < d ∧ isC v = true then .ok v (p + 1) else if digV c < 0 ∨ d = 6 then .bad 6 else numS t (d + 1) (v * 16 + digV c) (p + 1)
/-- Behind \u. -/
def uS : List Int → Nat → R
 | [], _ => .bad 5
 | c :: t, p => if c = 123 then numS t 0 0 (p + 1) else .bad 6
/-- Behind \. -/
def escS : List Int → Nat → R
 | [], _ => .bad 5
 | c :: t, p => if c = 117 then uS t (p + 1) else if c = 110 then .ok 10 (p + 1) else if c = 116 then .ok 9 (p + 1) else if 33 ≤ c ∧ c ≤ 126 ∧ plainB c = false then .ok c (p + 1) else .bad 6
def readS : List Int → Nat → R
 | [], _ => .bad 5
 | c :: t, p => if c = 92 then escS t (p + 1) else if isC c = true then .ok c (p + 1) else .bad 6
theorem dig_bd {d : Int} (h0 : 0 ≤ d) (h1 : d < 16) : 48 ≤ dig d ∧ dig d ≤ 102 ∧ digV (dig d) = d ∧ dig d ≠ 125 := by
 unfold dig digV
 split
 ·rw [if_pos (by omega)]; omega
 ·rw [if_neg (by omega), if_pos (by omega)]; omega
theorem pow_step (f : Nat) : (16 : Int) ^ (f + 1) = 16 * 16 ^ f := by rw [Int.pow_succ]; omega
theorem hex_len : ∀ (f : Nat) (n : Int), (hexF f n).length ≤ f
 | 0, _ => by simp [hexF]
 | f + 1, n => by
  unfold hexF
  split
  ·simp
  ·have := hex_len f (n / 16); simp; omega
theorem hex_pos (f : Nat) (n : Int) : 0 < (hexF (f + 1) n).length := by
 unfold hexF; split <;> simp
theorem div_lt {f : Nat} {n : Int} (h : n < 16 ^ (f + 1)) : n / 16 < 16 ^ f := by
 rw [pow_step] at h
 omega
theorem hex_mem : ∀ (f : Nat) (n : Int), 0 ≤ n → ∀ x ∈ hexF f n, 48 ≤ x ∧ x ≤ 102 ∧ 0 ≤ digV x ∧ x ≠ 125
 | 0, _, _, x, hx => by simp [hexF] at hx
 | f + 1, n, h0, x, hx => by
  unfold hexF at hx
  split at hx
  ·rename_i h
   simp at hx; subst hx
   have := dig_bd h0 h; omega
  ·rename_i h
   rcases List.mem_append.1 hx with hx | hx
   ·exact hex_mem f (n / 16) (by omega) x hx
   ·simp at hx; subst hx
    have := dig_bd (d := n % 16) (by omega) (by omega); omega
def valD (v : Int) (l : List Int) : Int := l.foldl (fun v c => v * 16 + digV c) v
theorem val_hex : ∀ (f : Nat) (n : Int), 0 ≤ n → n < 16 ^ f → valD 0 (hexF f n) = n
 | 0, n, h0, h1 => by simp at h1; simp [hexF, valD]; omega
 | f + 1, n, h0, h1 => by
  unfold hexF
  split
  ·rename_i h
   simp only [valD, List.foldl_cons, List.foldl_nil]
   rw [(dig_bd h0 h).2.2.1]; omega
  ·rename_i h
   have ih := val_hex f (n / 16) (by omega) (div_lt h1)
   unfold valD at ih ⊢
   rw [List.foldl_append, ih]
   simp only [List.foldl_cons, List.foldl_nil]
   rw [(dig_bd (d := n % 16) (by omega) (by omega)).2.2.1]; omega
theorem num_digits : ∀ (ds : List Int) (rest : List Int) (d : Nat) (v : Int) (p : Nat), (∀ x ∈ ds, 0 ≤ digV x ∧ x ≠ 125) → d + ds.length ≤ 6 →
  numS (ds ++ rest) d v p = numS rest (d + ds.length) (valD v ds) (p + ds.length)
 | [], rest, d, v, p, _, _ => by simp [valD]
 | c :: t, rest, d, v, p, h, hd => by
  have hc := h c (by simp)
  simp at hd
  rw [List.cons_append, numS, if_neg (by omega), if_neg (by omega), num_digits t rest (d + 1) _ (p + 1) (fun x hx => h x (by simp [hx])) (by omega)]
  simp only [List.length_cons, valD, List.foldl_cons]
  congr 1 <;> omega
theorem top_lt {c : Int} (h : isC c = true) : 0 ≤ c ∧ c < 16 ^ 6 := by
 have := (isC_iff c).1 h
 have e : (16 : Int) ^ 6 = 16777216 := by decide
 omega
theorem text_plain {c : Int} (h : plainB c = true) : textB c = [c] := by unfold textB; rw [if_pos h]
theorem text_esc {c : Int} (h : plainB c = false) : textB c = [92, 117, 123] ++ hexF 6 c ++ [125] := by unfold textB; rw [if_neg (by rw [h]; decide)]
theorem text_pos (c : Int) : 0 < (textB c).length := by
 unfold textB; split <;> simp
theorem text_byte {c : Int} (h : isC c = true) : ∀ x ∈ textB c, 0 ≤ x ∧ x < 128 := by
 intro x hx
 have hc := (isC_iff c).1 h
 unfold textB at hx
 split at hx
 ·rename_i hp
  rw [plain_iff] at hp
  simp at hx; subst hx; omega
 ·rcases List.mem_append.1 hx with hx | hx
  ·rcases List.mem_append.1 hx with hx | hx
   ·simp at hx; omega
   ·have := hex_mem 6 c hc.1 x hx; omega
  ·simp at hx; omega
/-- What is written out is read as it was. -/
theorem read_text {c : Int} (h : isC c = true) (rest : List Int) (p : Nat) : readS (textB c ++ rest) p = .ok c (p + (textB c).length) := by
 have hc := top_lt h
 cases hp : plainB c with
 | true =>
  rw [text_plain hp]
  rw [plain_iff] at hp
  show readS (c :: rest) p = _
  rw [readS, if_neg (by omega), if_pos h]; rfl
 | false =>
  rw [text_esc hp]
  have e : [92, 117, 123] ++ hexF 6 c ++ [125] ++ rest = 92 :: 117 :: 123 :: (hexF 6 c ++ (125 :: rest)) := by simp
  have hm := hex_mem 6 c hc.1
  have hl := hex_len 6 c
  have hl0 : 0 < (hexF 6 c).length := hex_pos 5 c
  rw [e, readS, if_pos rfl, escS, if_pos rfl, uS, if_pos rfl, num_digits _ _ _ _ _ (fun x hx => ⟨(hm x hx).2.2.1, (hm x hx).2.2.2⟩) (by omega), val_hex 6 c hc.1 hc.2, numS, if_pos ⟨rfl, by omega, h⟩]
  congr 1
  simp; omega
theorem flat_cons (c : Int) (L : List Int) : flatT (c :: L) = textB c ++ flatT L := by simp [flatT]
theorem flat_app (A B : List Int) : flatT (A ++ B) = flatT A ++ flatT B := by simp [flatT]
theorem all_take {L : List Int} {k : Nat} {x : Int} (h : L[k]? = some x) : (L.take (k + 1)).all isC = ((L.take k).all isC && isC x) := by
 obtain ⟨hk, e⟩ := List.getElem?_eq_some_iff.1 h
 rw [List.take_succ_eq_append_getElem hk, e, List.all_append]; simp
/-- What is written out is one's alone, at any beginning. -/
theorem flat_head {A B : List Int} {s : List Int} (hA : A.all isC = true) (hB : B.all isC = true) (h : flatT A ++ s = flatT B) : ∃ C, B = A ++ C ∧ s = flatT C := by
 induction A generalizing B with
 | nil => exact ⟨B, rfl, by simpa [flatT] using h⟩
 | cons c t ih =>
  rw [List.all_cons, Bool.and_eq_true] at hA
  cases B with
  | nil =>
   have h1 := congrArg List.length h
   rw [flat_cons, List.append_assoc, List.length_append] at h1
   have := text_pos c
   have h2 : (flatT ([] : List Int)).length = 0 := rfl
   omega
  | cons d u =>
   rw [List.all_cons, Bool.and_eq_true] at hB
   rw [flat_cons, flat_cons, List.append_assoc] at h
   have r1 := read_text hA.1 (flatT t ++ s) 0
   have r2 := read_text hB.1 (flatT u) 0
   rw [h, r2] at r1
   injection r1 with e1 e2
   subst e1
   have h' := List.append_cancel_left h
   obtain ⟨C, hC, hs⟩ := ih hA.2 hB.2 h'
   exact ⟨C, by rw [hC]; rfl, hs⟩
theorem flat_inj {A B : List Int} (hA : A.all isC = true) (hB : B.all isC = true) (h : flatT A = flatT B) : A = B := by
 obtain ⟨C, hC, hs⟩ := flat_head (s := []) hA hB (by simpa using h)
 cases C with
 | nil => simpa using hC.symm
 | cons c t =>
  have h1 := congrArg List.length hs
  rw [flat_cons, List.length_append, List.length_nil] at h1
  have := text_pos c
  omega
/-- What Parse answers. -/
inductive PIs (s : List Int) : List Int → Int → Prop where
 | ok (L : List Int) (h : L.all isC = true) (e : s = flatT L) : PIs s L 0
 | bad (h : ∀ L : List Int, L.all isC = true → s ≠ flatT L) : PIs s [] 15
theorem PIs.one {s L M : List Int} {e f : Int} (h : PIs s L e) (k : PIs s M f) : L = M ∧ e = f := by
 cases h with
 | ok _ h1 h2 => cases k with
  | ok _ k1 k2 => exact ⟨flat_inj h1 k1 (h2 ▸ k2), rfl⟩
  | bad k1 => exact absurd h2 (k1 _ h1)
 | bad h1 => cases k with
  | ok _ k1 k2 => exact absurd k2 (h1 _ k1)
  | bad k1 => exact ⟨rfl, rfl⟩
/-- Where one is read, it lies within. -/
theorem num_in : ∀ (l : List Int) (d : Nat) (v : Int) (p : Nat) (c : Int) (n : Nat), numS l d v p = .ok c n → isC c = true ∧ p < n ∧ n ≤ p + l.length
 | [], d, v, p, c, n, h => by simp [numS] at h
 | x :: t, d, v, p, c, n, h => by
  rw [numS] at h
  split at h
  ·rename_i h1
   injection h with e1 e2
   subst e1 e2
   exact ⟨h1.2.2, by omega, by simp only [List.length_cons]; omega⟩
  ·split at h
   ·cases h
   ·have := num_in t _ _ _ _ _ h
    exact ⟨this.1, by omega, by simp only [List.length_cons]; omega⟩
theorem read_in {l : List Int} {p : Nat} {c : Int} {n : Nat} (h : readS l p = .ok c n) : isC c = true ∧ p < n ∧ n ≤ p + l.length := by
 cases l with
 | nil => simp [readS] at h
 | cons x t =>
  rw [readS] at h
  split at h
  ·cases t with
   | nil => simp [escS] at h
   | cons y u =>
    rw [escS] at h
    split at h
    ·cases u with
     | nil => simp [uS] at h
     | cons z o =>
      rw [uS] at h
      split at h
      ·have := num_in _ _ _ _ _ _ h; exact ⟨this.1, by omega, by simp only [List.length_cons]; omega⟩
      ·cases h
    ·split at h
     ·injection h with e1 e2; subst e1 e2; exact ⟨by decide, by omega, by simp only [List.length_cons]; omega⟩
     ·split at h
      ·injection h with e1 e2; subst e1 e2; exact ⟨by decide, by omega, by simp only [List.length_cons]; omega⟩
      ·split at h
       ·injection h with e1 e2; subst e1 e2; exact ⟨by rw [isC_iff]; omega, by omega, by simp only [List.length_cons]; omega⟩
       ·cases h
  ·split at h
   ·rename_i h1; injection h with e1 e2; subst e1 e2; exact ⟨h1, by omega, by simp only [List.length_cons]; omega⟩
   ·cases h
end Q
end Go.Proofs.YtmohefgdpddldaaGreatDoor
namespace Go.Proofs.YtmohefgdpddldaaGreatDoor.E

/-- Has a number bytes? -/
def okb (c : Int) : Bool := decide (0 ≤ c) && decide (c ≤ 1114111) && !(decide (55296 ≤ c) && decide (c ≤ 57343))
theorem okb_iff (c : Int) : okb c = true ↔ 0 ≤ c ∧ c ≤ 1114111 ∧ ¬ (55296 ≤ c ∧ c ≤ 57343) := by
  simp only [okb, Bool.and_eq_true, decide_eq_true_eq, Bool.not_eq_true', Bool.and_eq_false_iff, decide_eq_false_iff_not]; omega
/-- The bytes of a character; none of what has none. -/
def encB (c : Int) : List Int :=
  if c < 0 ∨ 1114111 < c ∨ (55296 ≤ c ∧ c ≤ 57343) then []
  else if c < 128 then [c]
  else if c < 2048 then [192 + c / 64, 128 + c % 64]
  else if c < 65536 then [224 + c / 4096, 128 + c / 64 % 64, 128 + c % 64]
  else [240 + c / 262144, 128 + c / 4096 % 64, 128 + c / 64 % 64, 128 + c % 64]
theorem enc_not {c : Int} (h : okb c = false) : encB c = [] := by
  unfold encB
  rw [if_pos]
  have : ¬ okb c = true := by simp [h]
  rw [okb_iff] at this; omega
/-- The four kinds of characters, with their bytes. -/
theorem enc_kinds {c : Int} (h : okb c = true) : (0 ≤ c ∧ c < 128 ∧ encB c = [c]) ∨ (128 ≤ c ∧ c < 2048 ∧ encB c = [192 + c / 64, 128 + c % 64]) ∨
    (2048 ≤ c ∧ c < 65536 ∧ ¬ (55296 ≤ c ∧ c ≤ 57343) ∧ encB c = [224 + c / 4096, 128 + c / 64 % 64, 128 + c % 64]) ∨
    (65536 ≤ c ∧ c ≤ 1114111 ∧ encB c = [240 + c / 262144, 128 + c / 4096 % 64, 128 + c / 64 % 64, 128 + c % 64]) := by
  rw [okb_iff] at h
  unfold encB
  rw [if_neg (by omega)]
  by_cases h1 : c < 128
  · rw [if_pos h1]; exact Or.inl ⟨by omega, h1, rfl⟩
  rw [if_neg h1]
  by_cases h2 : c < 2048
  · rw [if_pos h2]; exact Or.inr (Or.inl ⟨by omega, h2, rfl⟩)
  rw [if_neg h2]
  by_cases h3 : c < 65536
  · rw [if_pos h3]; exact Or.inr (Or.inr (Or.inl ⟨by omega, h3, by omega, rfl⟩))
  rw [if_neg h3]
  exact Or.inr (Or.inr (Or.inr ⟨by omega, by omega, rfl⟩))
theorem enc_len {c : Int} (h : okb c = true) : 1 ≤ (encB c).length ∧ (encB c).length ≤ 4 := by
  rcases enc_kinds h with ⟨_, _, e⟩ | ⟨_, _, e⟩ | ⟨_, _, _, e⟩ | ⟨_, _, e⟩ <;> simp [e]
theorem enc_le (c : Int) : (encB c).length ≤ 4 := by
  cases h : okb c with
  | true => exact (enc_len h).2
  | false => simp [enc_not h]
theorem enc_byte {c x : Int} (hx : x ∈ encB c) : 0 ≤ x ∧ x < 256 := by
  cases h : okb c with
  | false => simp [enc_not h] at hx
  | true =>
    rcases enc_kinds h with ⟨_, _, e⟩ | ⟨_, _, e⟩ | ⟨_, _, _, e⟩ | ⟨_, _, e⟩ <;> rw [e] at hx <;> simp at hx <;> omega
/-- No character's bytes begin with another one's. -/
theorem enc_one {c d : Int} (hc : okb c = true) (hd : okb d = true) {r s : List Int} (h : encB c ++ r = encB d ++ s) : c = d ∧ r = s := by
  rcases enc_kinds hc with ⟨_, _, e⟩ | ⟨_, _, e⟩ | ⟨_, _, _, e⟩ | ⟨_, _, e⟩ <;> rcases enc_kinds hd with ⟨_, _, f⟩ | ⟨_, _, f⟩ | ⟨_, _, _, f⟩ | ⟨_, _, f⟩ <;>
    rw [e, f] at h <;> simp only [List.cons_append, List.nil_append, List.cons.injEq] at h <;>
    first
      | exact ⟨by omega, h.2⟩
      | exact ⟨by omega, h.2.2⟩
      | exact ⟨by omega, h.2.2.2⟩
      | exact ⟨by omega, h.2.2.2.2⟩
      | (exfalso; obtain ⟨h1, h2⟩ := h; omega)
      | (exfalso; obtain ⟨h1, h2, h3⟩ := h; omega)
theorem enc_pre {c d : Int} (hc : okb c = true) (hd : okb d = true) {l : List Int} (h : encB c <+: l) (h' : encB d <+: l) : c = d := by
  obtain ⟨r, rfl⟩ := h
  obtain ⟨s, e⟩ := h'
  exact (enc_one hd hc e).1.symm
/-- What bytes begin with: a character, and how many bytes it has; or none. -/
def Fst (l : List Int) (c : Int) (k : Nat) : Prop :=
  (okb c = true ∧ encB c <+: l ∧ k = (encB c).length) ∨ (c = -1 ∧ k = 0 ∧ ∀ d, okb d = true → ¬ encB d <+: l)
theorem fst_le {l : List Int} {c : Int} {k : Nat} (h : Fst l c k) : k ≤ l.length ∧ k ≤ 4 := by
  rcases h with ⟨a1, a2, rfl⟩ | ⟨_, rfl, _⟩
  · exact ⟨a2.length_le, enc_le _⟩
  · omega
theorem fst_bd {l : List Int} {c : Int} {k : Nat} (h : Fst l c k) : -1 ≤ c ∧ c ≤ 1114111 := by
  rcases h with ⟨a1, _, _⟩ | ⟨rfl, _, _⟩
  · rw [okb_iff] at a1; omega
  · omega
/-- A number that so many bytes would tell. -/
def cand : List Int → Nat → Int
  | a :: _, 1 => a
  | a :: b :: _, 2 => (a - 192) * 64 + b - 128
  | a :: b :: c :: _, 3 => ((a - 224) * 64 + b - 128) * 64 + c - 128
  | a :: b :: c :: d :: _, 4 => (((a - 240) * 64 + b - 128) * 64 + c - 128) * 64 + d - 128
  | _, _ => 0
theorem cand_enc {c : Int} (h : okb c = true) (r : List Int) : cand (encB c ++ r) (encB c).length = c := by
  rcases enc_kinds h with ⟨_, _, e⟩ | ⟨_, _, e⟩ | ⟨_, _, _, e⟩ | ⟨_, _, e⟩ <;> rw [e] <;> simp [cand] <;> omega
def headB : Nat → Int
  | 1 => 0
  | 2 => 192
  | 3 => 224
  | _ => 240
/-- That number, after i of them. -/
def part (l : List Int) (n : Nat) : Nat → Int
  | 0 => 0
  | 1 => l.getD 0 0 - headB n
  | i + 2 => part l n (i + 1) * 64 + l.getD (i + 1) 0 - 128
theorem getD_byte {l : List Int} (hb : ∀ x ∈ l, 0 ≤ x ∧ x < 256) (k : Nat) : 0 ≤ l.getD k 0 ∧ l.getD k 0 < 256 := by
  rw [List.getD_eq_getElem?_getD]
  cases h : l[k]? with
  | none => simp
  | some x => exact hb x (List.mem_of_getElem? h)
theorem head_bd (n : Nat) : 0 ≤ headB n ∧ headB n ≤ 240 := by unfold headB; split <;> omega
theorem part_bd {l : List Int} (hb : ∀ x ∈ l, 0 ≤ x ∧ x < 256) (n i : Nat) (hi : i ≤ 4) : -100000000 ≤ part l n i ∧ part l n i ≤ 100000000 := by
  have g0 := getD_byte hb 0; have g1 := getD_byte hb 1; have g2 := getD_byte hb 2; have g3 := getD_byte hb 3; have hh := head_bd n
  match i, hi with
  | 0, _ => simp [part]
  | 1, _ => simp only [part]; omega
  | 2, _ => have e : part l n 2 = (l.getD 0 0 - headB n) * 64 + l.getD 1 0 - 128 := rfl
            rw [e]; omega
  | 3, _ => have e : part l n 3 = ((l.getD 0 0 - headB n) * 64 + l.getD 1 0 - 128) * 64 + l.getD 2 0 - 128 := rfl
            rw [e]; omega
  | 4, _ => have e : part l n 4 = (((l.getD 0 0 - headB n) * 64 + l.getD 1 0 - 128) * 64 + l.getD 2 0 - 128) * 64 + l.getD 3 0 - 128 := rfl
            rw [e]; omega
theorem part_cand {l : List Int} {n : Nat} (h1 : 1 ≤ n) (h4 : n ≤ 4) (hl : n ≤ l.length) : part l n n = cand l n := by
  match n, h1, h4, l, hl with
  | 1, _, _, a :: t, _ => simp [part, cand, headB]
  | 2, _, _, a :: b :: t, _ => simp [part, cand, headB]
  | 3, _, _, a :: b :: c :: t, _ => simp [part, cand, headB]
  | 4, _, _, a :: b :: c :: d :: t, _ => simp [part, cand, headB]
theorem part_step {l : List Int} {n i : Nat} {x : Int} (h1 : 1 ≤ i) (hx : l[i]? = some x) : part l n (i + 1) = part l n i * 64 + x - 128 := by
  match i, h1 with
  | i + 1, _ => simp only [part, List.getD_eq_getElem?_getD, hx, Option.getD_some]
theorem part_one {l : List Int} {n : Nat} {x : Int} (hx : l[0]? = some x) : part l n 1 = x - headB n := by
  simp only [part, List.getD_eq_getElem?_getD, hx, Option.getD_some]
/-- So many bytes are a character's. -/
def fitB (l : List Int) (k : Nat) : Bool := decide (encB (cand l k) = l.take k)
theorem fit_yes {l : List Int} {k : Nat} (hk : 1 ≤ k) (hl : k ≤ l.length) (h : fitB l k = true) : Fst l (cand l k) k := by
  have e : encB (cand l k) = l.take k := of_decide_eq_true h
  have hlen : (encB (cand l k)).length = k := by rw [e, List.length_take]; omega
  refine Or.inl ⟨?_, ?_, hlen.symm⟩
  · cases ho : okb (cand l k) with
    | true => rfl
    | false => rw [enc_not ho] at hlen; simp at hlen; omega
  · rw [e]; exact List.take_prefix k l
theorem fit_no {l : List Int} (h : ∀ k, 1 ≤ k → k ≤ 4 → k ≤ l.length → fitB l k = false) : Fst l (-1) 0 := by
  refine Or.inr ⟨rfl, rfl, fun d hd hp => ?_⟩
  have hb := enc_len hd
  have hl := hp.length_le
  have := h _ hb.1 hb.2 hl
  obtain ⟨r, rfl⟩ := hp
  unfold fitB at this
  rw [cand_enc hd] at this
  simp at this

/-! ### How far bytes are characters' -/
def flat (cs : List Int) : List Int := cs.flatMap encB
/-- Up to n the bytes are just these characters'. -/
structure Upto (b : List Int) (n : Nat) (cs : List Int) : Prop where
  ok : ∀ c ∈ cs, okb c = true
  eq : b.take n = flat cs
  le : n ≤ b.length
/-- No character's bytes begin at n. -/
def Dead (b : List Int) (n : Nat) : Prop := ∀ d, okb d = true → ¬ encB d <+: b.drop n
theorem flat_snoc (cs : List Int) (c : Int) : flat (cs ++ [c]) = flat cs ++ encB c := by simp [flat]
theorem flat_app (cs ds : List Int) : flat (cs ++ ds) = flat cs ++ flat ds := by simp [flat]
theorem dead_end (b : List Int) : Dead b b.length := fun d hd hp => by
  have h1 := hp.length_le; have h2 := enc_len hd; simp only [List.length_drop] at h1; omega
theorem Upto.start (b : List Int) : Upto b 0 [] := ⟨(fun _ h => by cases h), by simp [flat], Nat.zero_le _⟩
theorem Upto.len {b : List Int} {n : Nat} {cs : List Int} (h : Upto b n cs) : (flat cs).length = n := by
  rw [← h.eq, List.length_take]; have := h.le; omega
theorem Upto.next {b : List Int} {n : Nat} {cs : List Int} {c : Int} (h : Upto b n cs) (hc : okb c = true) (hp : encB c <+: b.drop n) : Upto b (n + (encB c).length) (cs ++ [c]) := by
  refine ⟨fun x hx => ?_, ?_, ?_⟩
  · rcases List.mem_append.1 hx with hx | hx
    · exact h.ok x hx
    · simp at hx; subst hx; exact hc
  · rw [flat_snoc, ← h.eq, List.take_add, List.prefix_iff_eq_take.1 hp]
    simp
  · have := hp.length_le; rw [List.length_drop] at this; have := h.le; omega
theorem Upto.one {b : List Int} : ∀ {cs ds : List Int} {n m : Nat}, Upto b n cs → Dead b n → Upto b m ds → Dead b m → n = m ∧ cs = ds := by
  intro cs
  induction cs generalizing b with
  | nil =>
    intro ds n m h1 d1 h2 d2
    have hn : n = 0 := by have := h1.len; simp [flat] at this; omega
    subst hn
    cases ds with
    | nil => have := h2.len; simp [flat] at this; exact ⟨this, rfl⟩
    | cons d ds =>
      exfalso
      refine d1 d (h2.ok d (by simp)) ?_
      have : b.take m = encB d ++ flat ds := h2.eq
      rw [List.drop_zero]
      exact (List.IsPrefix.trans ⟨flat ds, rfl⟩ (this ▸ List.take_prefix m b))
  | cons c cs ih =>
    intro ds n m h1 d1 h2 d2
    have e1 : b.take n = encB c ++ flat cs := h1.eq
    have hc := h1.ok c (by simp)
    have p1 : encB c <+: b := List.IsPrefix.trans ⟨flat cs, rfl⟩ (e1 ▸ List.take_prefix n b)
    cases ds with
    | nil =>
      exfalso
      have hm : m = 0 := by have := h2.len; simp [flat] at this; omega
      subst hm
      exact d2 c hc (by simpa using p1)
    | cons d ds =>
      have e2 : b.take m = encB d ++ flat ds := h2.eq
      have hd := h2.ok d (by simp)
      have p2 : encB d <+: b := List.IsPrefix.trans ⟨flat ds, rfl⟩ (e2 ▸ List.take_prefix m b)
      have := enc_pre hc hd p1 p2
      subst this
      have l1 := h1.len; have l2 := h2.len
      simp only [flat, List.flatMap_cons, List.length_append] at l1 l2
      have q1 : n = (encB c).length + (n - (encB c).length) := by omega
      have q2 : m = (encB c).length + (m - (encB c).length) := by omega
      have t1 : (b.drop (encB c).length).take (n - (encB c).length) = flat cs := by
        have := e1; rw [q1, List.take_add] at this
        rw [← List.prefix_iff_eq_take.1 p1] at this
        exact List.append_cancel_left this
      have t2 : (b.drop (encB c).length).take (m - (encB c).length) = flat ds := by
        have := e2; rw [q2, List.take_add] at this
        rw [← List.prefix_iff_eq_take.1 p1] at this
        exact List.append_cancel_left this
      have u1 : Upto (b.drop (encB c).length) (n - (encB c).length) cs := ⟨fun x hx => h1.ok x (by simp [hx]), t1, by rw [List.length_drop]; have := h1.le; omega⟩
      have u2 : Upto (b.drop (encB c).length) (m - (encB c).length) ds := ⟨fun x hx => h2.ok x (by simp [hx]), t2, by rw [List.length_drop]; have := h2.le; omega⟩
      have w1 : Dead (b.drop (encB c).length) (n - (encB c).length) := by
        unfold Dead; rw [List.drop_drop, ← q1]; exact d1
      have w2 : Dead (b.drop (encB c).length) (m - (encB c).length) := by
        unfold Dead; rw [List.drop_drop, ← q2]; exact d2
      obtain ⟨r1, r2⟩ := ih u1 w1 u2 w2
      exact ⟨by omega, by rw [r2]⟩
/-- Where characters begin, from k on. -/
def offs : Nat → List Int → List Int
  | _, [] => []
  | k, c :: t => (k : Int) :: offs (k + (encB c).length) t
theorem offs_len (k : Nat) (cs : List Int) : (offs k cs).length = cs.length := by
  induction cs generalizing k with
  | nil => rfl
  | cons c t ih => simp [offs, ih]
theorem offs_app (k : Nat) (cs ds : List Int) : offs k (cs ++ ds) = offs k cs ++ offs (k + (flat cs).length) ds := by
  induction cs generalizing k with
  | nil => simp [offs, flat]
  | cons c t ih => simp [offs, ih, flat, Nat.add_assoc]

/-- What Decode tells of bytes: characters, places, where it is wrong, and the error's number. -/
inductive DecIs (b : List Int) : List Int → List Int → Int → Int → Prop
  | long : 3000 < b.length → DecIs b [] [] 0 2
  | ok (cs : List Int) : b.length ≤ 3000 → Upto b b.length cs → DecIs b cs (offs 0 cs ++ [(b.length : Int)]) (-1) 0
  | bad (n : Nat) (ds : List Int) : b.length ≤ 3000 → n < b.length → Upto b n ds → Dead b n → DecIs b [] [] n 3
theorem DecIs.one {b cs ats ds bts : List Int} {x e y f : Int} (h : DecIs b cs ats x e) (h' : DecIs b ds bts y f) : cs = ds ∧ ats = bts ∧ x = y ∧ e = f := by
  cases h with
  | long h1 => cases h' with
    | long _ => exact ⟨rfl, rfl, rfl, rfl⟩
    | ok _ h2 _ => omega
    | bad _ _ h2 _ _ _ => omega
  | ok _ h1 u1 => cases h' with
    | long _ => omega
    | ok _ h2 u2 => have := (u1.one (dead_end b) u2 (dead_end b)).2; subst this; exact ⟨rfl, rfl, rfl, rfl⟩
    | bad n _ h2 h3 u2 d2 => have := (u1.one (dead_end b) u2 d2).1; omega
  | bad m _ h1 k1 u1 d1 => cases h' with
    | long _ => omega
    | ok _ h2 u2 => have := (u1.one d1 u2 (dead_end b)).1; omega
    | bad n _ h2 h3 u2 d2 => have := (u1.one d1 u2 d2).1; subst this; exact ⟨rfl, rfl, rfl, rfl⟩
theorem offs_snoc {b : List Int} {p : Nat} {cs : List Int} (h : Upto b p cs) (c : Int) : offs 0 (cs ++ [c]) = offs 0 cs ++ [(p : Int)] := by
  rw [offs_app, h.len]; simp [offs]
theorem flat_ge {cs : List Int} (h : ∀ c ∈ cs, okb c = true) : cs.length ≤ (flat cs).length := by
  induction cs with
  | nil => simp
  | cons c t ih =>
    have h1 := enc_len (h c (by simp))
    have h2 := ih (fun x hx => h x (by simp [hx]))
    simp only [flat, List.flatMap_cons, List.length_append, List.length_cons] at *
    omega
theorem Upto.few {b : List Int} {n : Nat} {cs : List Int} (h : Upto b n cs) : cs.length ≤ n := by have := flat_ge h.ok; rw [h.len] at this; exact this

theorem all_take {l : List Int} {k : Nat} {c : Int} (h : l[k]? = some c) : (l.take (k + 1)).all okb = ((l.take k).all okb && okb c) := by
  obtain ⟨hk, he⟩ := List.getElem?_eq_some_iff.1 h
  rw [List.take_succ_eq_append_getElem hk, he, List.all_append]; simp
theorem flat_mono (l : List Int) (k : Nat) : (flat (l.take k)).length ≤ (flat l).length := by
  conv => rhs; rw [← List.take_append_drop k l, flat_app, List.length_append]
  omega

/-! ### Lines -/
end Go.Proofs.YtmohefgdpddldaaGreatDoor.E
namespace Go.Proofs.YtmohefgdpddldaaGreatDoor
namespace W
open E (okb encB flat)
open Q (plainB R readS)

def dgB (c : Int) : Bool := decide (48 ≤ c ∧ c ≤ 57)
def ltB (c : Int) : Bool := decide (97 ≤ c ∧ c ≤ 122 ∨ 65 ≤ c ∧ c ≤ 90)
def smB (c : Int) : Bool := decide (97 ≤ c ∧ c ≤ 122)
def nmB (c : Int) : Bool := plainB c || decide (c = 95)
def noLf (c : Int) : Bool := decide (c ≠ 10)
def noBl (c : Int) : Bool := decide (c ≠ 32)
def markB (c : Int) : Bool := decide (c = 91 ∨ c = 93 ∨ c = 38 ∨ c = 45 ∨ c = 36 ∨ c = 35 ∨ c = 94 ∨ c = 10)
/-- How many of a kind a list begins with. -/
def many (p : Int → Bool) (l : List Int) : Nat := (l.takeWhile p).length
/-- What digits are worth, as if noughts made them so many. -/
def valN : List Int → Nat → Int → Int
 | _, 0, n => n
 | [], m + 1, n => valN [] m (n * 10)
 | c :: t, m + 1, n => valN t m (n * 10 + (c - 48))
/-- The digits behind a point. -/
def partN (l : List Int) : Nat := if l[many dgB l]? = some 46 then many dgB (l.drop (many dgB l + 1)) else 0
/-- A number that a text begins with: thousandths, how long it is, why it may not be. -/
def numB (l : List Int) : Int × Nat × Int :=
 if many dgB l = 0 ∨ 1 < many dgB l ∧ l[0]? = some 48 then (0, 0, 4)
 else if 3 < many dgB l ∨ 3 < partN l then (0, 0, 2)
 else (valN (l.take (many dgB l)) (many dgB l) 0 * 1000 + valN ((l.drop (many dgB l + 1)).take (partN l)) 3 0, if 0 < partN l then many dgB l + 1 + partN l else many dgB l, 0)
def lettersB (k : List Int) : Bool := k.all smB && decide (1 ≤ k.length) && decide (k.length ≤ 16)
/-- What stands behind #allow and its blank. -/
def allowB (l : List Int) : Option (List Int × Int) :=
 if lettersB (l.takeWhile noBl) = true then
  if many noBl l = l.length then some (l.takeWhile noBl, -1)
  else if (numB (l.drop (many noBl l + 1))).2.2 = 0 ∧ (numB (l.drop (many noBl l + 1))).2.1 = (l.drop (many noBl l + 1)).length then some (l.takeWhile noBl, (numB (l.drop (many noBl l + 1))).1) else none
 else none
/-- One step: a token of m + 1 characters, so many that are none, or what is wrong k characters on. -/
inductive St where
 | tok (kind : Int) (text : List Int) (low high : Int) (m : Nat)
 | skip (m : Nat)
 | bad (k : Nat) (e : Int)
def nameS (t : List Int) : St := if ltB (t.headD (-1)) = true then (if 16 < many nmB t then .bad 0 2 else .tok 1 (t.takeWhile nmB) 0 0 (many nmB t)) else .bad 0 4
def setS (t : List Int) : St := if t.headD (-1) = 94 then .tok 13 [] 1 0 1 else .tok 13 [] 0 0 0
def numT (l : List Int) : St := if (numB l).2.2 = 0 then .tok 2 [] (numB l).1 0 ((numB l).2.1 - 1) else .bad 0 (numB l).2.2
def allowP : List Int := [35, 97, 108, 108, 111, 119, 32]
def noteS (l : List Int) : St :=
 if (l.takeWhile noLf).take 7 = allowP then
  (match allowB ((l.takeWhile noLf).drop 7) with | some x => .tok 19 x.1 x.2 0 (many noLf l - 1) | none => .bad 0 4)
 else .skip (many noLf l - 1)
/-- A character of a set, k characters on. -/
inductive C where
 | ok (c : Int) (n : Nat)
 | bad (k : Nat) (e : Int)
def chS (l : List Int) (k : Nat) : C :=
 if markB ((l.drop k).headD (-1)) = true then .bad k 4 else match readS (l.drop k) k with | .ok c n => .ok c n | .bad e => if e = 5 then .bad l.length 5 else .bad k e
def hiS (l : List Int) (lo : Int) (n : Nat) : C := if (l.drop n).headD (-1) = 45 then chS l (n + 1) else .ok lo n
def charsS (l : List Int) : St :=
 match chS l 0 with
 | .bad k e => .bad k e
 | .ok lo n => match hiS l lo n with
  | .bad k e => .bad k e
  | .ok hi m => if hi < lo then .bad 0 7 else .tok 15 [] lo hi (m - 1)
def signK (c : Int) : Int :=
 if c = 61 then 3 else if c = 215 then 4 else if c = 247 then 5 else if c = 40 then 6 else if c = 41 then 7 else if c = 124 then 8 else if c = 42 then 9 else if c = 43 then 10 else if c = 63 then 11 else if c = 46 then 12 else if c = 10 then 18 else 0
/-- Outside of sets. -/
def outS (c : Int) (t : List Int) : St :=
 if c = 36 then nameS t else if dgB c = true then numT (c :: t) else if c = 91 then setS t else if c = 35 then noteS (c :: t) else if signK c = 0 then .bad 0 4 else .tok (signK c) [] 0 0 0
/-- In a set; last: the kind of the token ahead. -/
def inS (last c : Int) (t : List Int) : St :=
 if c = 36 then nameS t else if c = 91 then setS t else if c = 93 then .tok 14 [] 0 0 0 else if c = 38 then .tok 16 [] 0 0 0
 else if c = 45 then (if last = 14 ∨ last = 1 then .tok 17 [] 0 0 0 else .bad 0 4) else charsS (c :: t)
/-- A token; at: which character it begins with. -/
structure Tk where
 kind : Int
 text : List Int
 low : Int
 high : Int
 at_ : Nat
deriving DecidableEq
/-- How many sets are open behind a token. -/
def opn (k : Int) (o : Nat) : Nat := if k = 13 then o + 1 else if k = 14 then o - 1 else o
def lastK (ts : List Tk) : Int := match ts.getLast? with | some t => t.kind | none => 0
def stepS (o : Nat) (ts : List Tk) (c : Int) (t : List Int) : St := if 0 < o then inS (lastK ts) c t else outS c t
/-- What all comes to. -/
inductive Lx where
 | ok (ts : List Tk)
 | bad (k : Nat) (e : Int)
def lexF : Nat → List Int → Nat → Nat → List Tk → Lx
 | 0, _, _, _, _ => .bad 0 0
 | _ + 1, [], i, o, ts => if 0 < o then .bad i 5 else .ok ts
 | f + 1, c :: t, i, o, ts =>
  if c = 32 ∨ c = 9 then lexF f t (i + 1) o ts else
  match stepS o ts c t with
  | .tok k x lo hi m => lexF f (t.drop m) (i + m + 1) (opn k o) (ts ++ [⟨k, x, lo, hi, i⟩])
  | .skip m => lexF f (t.drop m) (i + m + 1) o ts
  | .bad k e => .bad (i + k) e
theorem lex_fuel : ∀ (f g : Nat) (l : List Int) (i o : Nat) (ts : List Tk), l.length < f → l.length < g → lexF f l i o ts = lexF g l i o ts := by
 intro f
 induction f with
 | zero => intro g l i o ts h; omega
 | succ f ih =>
  intro g l i o ts h h'
  cases g with
  | zero => omega
  | succ g =>
   cases l with
   | nil => rfl
   | cons c t =>
    simp only [List.length_cons] at h h'
    rw [lexF, lexF]
    split
    ·exact ih g t _ _ _ (by omega) (by omega)
    ·cases stepS o ts c t with
     | tok k x lo hi m => exact ih g _ _ _ _ (by rw [List.length_drop]; omega) (by rw [List.length_drop]; omega)
     | skip m => exact ih g _ _ _ _ (by rw [List.length_drop]; omega) (by rw [List.length_drop]; omega)
     | bad k e => rfl
def lexS (l : List Int) (i o : Nat) (ts : List Tk) : Lx := lexF (l.length + 1) l i o ts
theorem lexS_nil (i o : Nat) (ts : List Tk) : lexS [] i o ts = if 0 < o then .bad i 5 else .ok ts := rfl
theorem lexS_blank {c : Int} (h : c = 32 ∨ c = 9) (t : List Int) (i o : Nat) (ts : List Tk) : lexS (c :: t) i o ts = lexS t (i + 1) o ts := by
 unfold lexS; rw [List.length_cons, lexF, if_pos h]
theorem lexS_step {c : Int} (h : ¬ (c = 32 ∨ c = 9)) (t : List Int) (i o : Nat) (ts : List Tk) : lexS (c :: t) i o ts =
  match stepS o ts c t with
  | .tok k x lo hi m => lexS (t.drop m) (i + m + 1) (opn k o) (ts ++ [⟨k, x, lo, hi, i⟩])
  | .skip m => lexS (t.drop m) (i + m + 1) o ts
  | .bad k e => .bad (i + k) e := by
 unfold lexS; rw [List.length_cons, lexF, if_neg h]
 cases stepS o ts c t with
 | tok k x lo hi m => exact lex_fuel _ _ _ _ _ _ (by rw [List.length_drop]; omega) (by rw [List.length_drop]; omega)
 | skip m => exact lex_fuel _ _ _ _ _ _ (by rw [List.length_drop]; omega) (by rw [List.length_drop]; omega)
 | bad k e => rfl
theorem many_le (p : Int → Bool) (l : List Int) : many p l ≤ l.length := (List.takeWhile_prefix p).length_le
theorem take_many (p : Int → Bool) (l : List Int) : l.take (many p l) = l.takeWhile p := by
 have h := List.takeWhile_prefix p (l := l)
 exact (List.prefix_iff_eq_take.1 h).symm
theorem many_cons {p : Int → Bool} {c : Int} (h : p c = true) (t : List Int) : many p (c :: t) = many p t + 1 := by
 unfold many; rw [List.takeWhile_cons_of_pos h, List.length_cons]
theorem many_stop {p : Int → Bool} {c : Int} (h : p c = false) (t : List Int) : many p (c :: t) = 0 := by
 unfold many; rw [List.takeWhile_cons_of_neg (by rw [h]; decide)]; rfl
/-- Where the run ends. -/
theorem many_at {p : Int → Bool} {l : List Int} {k : Nat} (h1 : ∀ j x, j < k → l[j]? = some x → p x = true) (hk : k ≤ l.length) (h2 : ∀ x, l[k]? = some x → p x = false) : many p l = k := by
 induction l generalizing k with
 | nil => simp at hk; subst hk; rfl
 | cons c t ih =>
  cases k with
  | zero => exact many_stop (h2 c rfl) t
  | succ k =>
   rw [many_cons (h1 0 c (by omega) rfl), ih (k := k) (fun j x hj hx => h1 (j + 1) x (by omega) (by simpa using hx)) (by simpa using hk) (fun x hx => h2 x (by simpa using hx))]
theorem many_all {p : Int → Bool} {l : List Int} {j : Nat} {x : Int} (hj : j < many p l) (hx : l[j]? = some x) : p x = true := by
 have h1 : (l.takeWhile p)[j]? = some x := by rw [← take_many, List.getElem?_take, if_pos hj]; exact hx
 have h3 := List.all_takeWhile (l := l) (p := p)
 exact List.all_eq_true.1 h3 x (List.mem_of_getElem? h1)
theorem many_end {p : Int → Bool} {l : List Int} {x : Int} (hx : l[many p l]? = some x) : p x = false := by
 induction l with
 | nil => simp at hx
 | cons c t ih =>
  cases h : p c with
  | true => rw [many_cons h] at hx; exact ih (by simpa using hx)
  | false => rw [many_stop h] at hx; simp at hx; subst hx; exact h
theorem num_pos {l : List Int} (h : (numB l).2.2 = 0) : 1 ≤ (numB l).2.1 := by
 unfold numB at h ⊢
 split at h
 ·cases h
 ·rename_i h1
  split at h
  ·cases h
  ·rename_i h2
   rw [if_neg h1, if_neg h2]
   show 1 ≤ (if 0 < partN l then _ else _)
   split <;> omega
/-- Bytes of characters: a kind of plain ones is met in both alike. -/
theorem enc_small {c : Int} (h : okb c = true) (hc : c < 128) : encB c = [c] := by
 rcases E.enc_kinds h with ⟨_, _, h3⟩ | ⟨h1, _⟩ | ⟨h1, _⟩ | ⟨h1, _⟩
 ·exact h3
 ·omega
 ·omega
 ·omega
theorem enc_great {c : Int} (h : okb c = true) (hc : 128 ≤ c) : ∃ x t, encB c = x :: t ∧ 128 ≤ x ∧ ∀ y ∈ t, 128 ≤ y := by
 rcases E.enc_kinds h with ⟨_, h2, _⟩ | ⟨h1, h2, h3⟩ | ⟨h1, h2, _, h3⟩ | ⟨h1, h2, h3⟩
 ·omega
 all_goals
  rw [h3]
  refine ⟨_, _, rfl, by omega, ?_⟩
  intro y hy
  simp at hy
  omega
theorem flat_cons (c : Int) (l : List Int) : flat (c :: l) = encB c ++ flat l := by simp [flat]
/-- A kind of characters below 128. -/
def Low (p : Int → Bool) : Prop := ∀ c, p c = true → c < 128
theorem flat_head {l : List Int} (h : l.all okb = true) {x : Int} (hx : x < 128) : (flat l)[0]? = some x ↔ l[0]? = some x := by
 cases l with
 | nil => rfl
 | cons c t =>
  rw [List.all_cons, Bool.and_eq_true] at h
  rw [flat_cons]
  by_cases h128 : c < 128
  ·rw [enc_small h.1 h128]; rfl
  ·obtain ⟨y, u, e, hy, _⟩ := enc_great h.1 (by omega)
   rw [e]
   simp
   constructor
   ·intro h'; omega
   ·intro h'; omega
theorem low_nm : Low nmB := fun c h => by
 unfold nmB at h; rw [Bool.or_eq_true, Q.plain_iff, decide_eq_true_eq] at h; omega
theorem flat_len {l : List Int} (h : l.all okb = true) : l.length ≤ (flat l).length := E.flat_ge fun c hc => List.all_eq_true.1 h c hc
end W
end Go.Proofs.YtmohefgdpddldaaGreatDoor
namespace Go.Proofs.YtmohefgdpddldaaGreatDoor
namespace K
open Y (Nd It noName zeroN sizeL)

/-- A text's bytes as numbers. -/
def numsOf (s : ByteArray) : List Int := s.data.toList.map fun b => (b.toNat : Int)
theorem numsOf_len (s : ByteArray) : (numsOf s).length = s.size := by unfold numsOf; rw [List.length_map]; rfl
theorem numsOf_byte (s : ByteArray) : ∀ x ∈ numsOf s, 0 ≤ x ∧ x < 256 := fun x hx => by
 simp [numsOf] at hx
 obtain ⟨b, _, rfl⟩ := hx
 have := b.toNat_lt
 omega
theorem strOf_numsOf (s : ByteArray) : strOfNums (numsOf s) = s := by
 apply ByteArray.ext
 apply Array.ext'
 rw [strOfNums_data, numsOf, List.map_map]
 conv => rhs; rw [← List.map_id s.data.toList]
 refine List.map_congr_left fun b _ => ?_
 simp
theorem numsOf_strOf {l : List Int} (h : ∀ x ∈ l, 0 ≤ x ∧ x < 256) : numsOf (strOfNums l) = l := by
 unfold numsOf
 rw [strOfNums_data, List.map_map]
 conv => rhs; rw [← List.map_id l]
 refine List.map_congr_left fun x hx => ?_
 have := h x hx
 simp
 omega
/-- Is a text a name? -/
def nameB : List Int → Bool
 | [] => false
 | c :: t => decide (t.length + 1 ≤ 16) && W.ltB c && (c :: t).all W.nmB
def twoB (k : Int) : Bool := decide (k = 6 ∨ k = 7)
def threeB (k : Int) : Bool := decide (k = 10 ∨ k = 11 ∨ k = 12)
/-- Nothing in it beside its parts. -/
def aloneB (s : ByteArray) (lo hi : Int) : Bool := decide (s.size = 0) && decide (lo = 0) && decide (hi = 0)
/-- The kind with which a part of a set ends. -/
def endK (a : Nd) : Int := if twoB a.kind = true then (match a.kids with | [_, c] => c.kind | _ => a.kind) else a.kind
def pairB (k : Int) : List Nd → Bool
 | [a, b] => !twoB b.kind && (decide (k = 6) || decide (endK a = 2) || decide (endK a = 4))
 | _ => false
mutual
/-- May it stand in a set, with all that is in it? -/
def inS : Nd → Bool
 | .mk k s lo hi l =>
  if k = 5 then decide (s.size = 0) && decide (l.length = 0) && decide (0 ≤ lo) && decide (lo ≤ hi) && decide (hi ≤ 1114111)
  else if k = 6 ∨ k = 7 then aloneB s lo hi && pairB k l && inSL l
  else if k = 2 then nameB (numsOf s) && decide (lo = 0) && decide (hi = 0) && decide (l.length = 0)
  else if k = 4 then decide (s.size = 0) && (decide (lo = 0) || decide (lo = 1)) && decide (hi = 0) && inSL l
  else false
def inSL : List Nd → Bool
 | [] => true
 | x :: t => inS x && inSL t
end
/-- A name, or a set. -/
def nosB (x : Nd) : Bool :=
 if x.kind = 2 then nameB (numsOf x.name) && decide (x.low = 0) && decide (x.high = 0) && decide (x.kids.length = 0)
 else if x.kind = 4 then decide (x.name.size = 0) && (decide (x.low = 0) || decide (x.low = 1)) && decide (x.high = 0) && inSL x.kids
 else false
mutual
/-- May it stand outside of sets? -/
def inF : Nd → Bool
 | .mk k s lo hi l =>
  if k = 1 ∨ k = 3 then aloneB s lo hi && decide (l.length = 0)
  else if k = 8 ∨ k = 9 then aloneB s lo hi && decide (2 ≤ l.length) && inFL l
  else if k = 10 ∨ k = 11 ∨ k = 12 then aloneB s lo hi && decide (l.length = 1) && inFL l
  else nosB (.mk k s lo hi l)
def inFL : List Nd → Bool
 | [] => true
 | x :: t => inF x && inFL t
end
mutual
/-- Is it at most so many deep? -/
def deepB : Nat → Nd → Bool
 | 0, _ => false
 | m + 1, .mk _ _ _ _ l => deepL m l
def deepL : Nat → List Nd → Bool
 | _, [] => true
 | m, x :: t => deepB m x && deepL m t
end
def rightB (x : Nd) : Bool := decide (x.size ≤ 500) && deepB 100 x && inF x
def noneB (x : Nd) : Bool := decide (x.kind = 0) && aloneB x.name x.low x.high && decide (x.kids.length = 0)
def numOk (n : Int) : Bool := decide (0 ≤ n) && decide (n ≤ 999999)
def mayB (x : It) : Bool :=
 if x.kind = 1 then nameB (numsOf x.name) && decide (x.number = 0) && !x.cut && rightB x.before && noneB x.after
 else if x.kind = 2 then decide (x.name.size = 0) && numOk x.number && rightB x.before && rightB x.after
 else if x.kind = 3 then W.lettersB (numsOf x.name) && (decide (x.number = -1) || numOk x.number) && !x.cut && noneB x.before && noneB x.after
 else false
/-- What stands behind the one, between several; whether one stands in brackets. -/
def behindT (k : Int) : List Int := if k = 10 then [42] else if k = 11 then [43] else if k = 12 then [63] else []
def betweenT (k : Int) : List Int := if k = 9 then [32, 124, 32] else if k = 6 then [38] else if k = 7 then [45] else [32]
def brkB (k kin : Int) : Bool := if k = 9 then true else if k = 8 then decide (kin ≠ 9) else threeB k && threeB kin
def rngT (lo hi : Int) : List Int := Q.textB lo ++ if hi = lo then [] else 45 :: Q.textB hi
mutual
/-- A form's text. -/
def txt : Nd → List Int
 | .mk k s lo hi l =>
  if k = 1 then [40, 41]
  else if k = 3 then [46]
  else if k = 2 then 36 :: numsOf s
  else if k = 4 then (if lo = 1 then [91, 94] else [91]) ++ kidsT 4 true l ++ [93]
  else if k = 5 then rngT lo hi
  else kidsT k true l ++ behindT k
def kidsT (k : Int) : Bool → List Nd → List Int
 | _, [] => []
 | f, x :: t => (if f = true then [] else betweenT k) ++ (if brkB x.kind k = true then [40] ++ txt x ++ [41] else txt x) ++ kidsT k false t
end
def partT (k : Int) (x : Nd) : List Int := if brkB x.kind k = true then [40] ++ txt x ++ [41] else txt x
theorem kidsT_cons (k : Int) (f : Bool) (x : Nd) (t : List Nd) : kidsT k f (x :: t) = (if f = true then [] else betweenT k) ++ partT k x ++ kidsT k false t := by rw [kidsT]; rfl
theorem kidsT_snoc (k : Int) (x : Nd) : ∀ (l : List Nd) (f : Bool), kidsT k f (l ++ [x]) = kidsT k f l ++ (if f = true ∧ l = [] then [] else betweenT k) ++ partT k x
 | [], f => by rw [List.nil_append, kidsT_cons, kidsT, kidsT]; cases f <;> simp
 | y :: t, f => by
  rw [List.cons_append, kidsT_cons, kidsT_snoc k x t false, kidsT_cons]
  simp
/-- A rule's number, in thousandths. -/
def decT (n : Int) : List Int := (Lib.itoa n).map fun b => (b.toNat : Int)
def fracL (n : Int) : List UInt8 := Lib.trimRightB ((Lib.itoa (1000 + n % 1000)).drop 1) 48
def numT (n : Int) : List Int := decT (n / 1000) ++ if fracL n = [] then [] else 46 :: (fracL n).map fun b => (b.toNat : Int)
def allowT : List Int := [35, 97, 108, 108, 111, 119, 32]
/-- An item's line. -/
def lineT (x : It) : List Int :=
 if x.kind = 1 then 36 :: numsOf x.name ++ [32, 61, 32] ++ txt x.before
 else if x.kind = 2 then numT x.number ++ [32] ++ txt x.before ++ (if x.cut = true then [32, 195, 183, 32] else [32, 195, 151, 32]) ++ txt x.after
 else allowT ++ numsOf x.name ++ if x.number = -1 then [] else 32 :: numT x.number
def itemsT (l : List It) : List Int := l.flatMap fun x => lineT x ++ [10]
theorem itemsT_app (l m : List It) : itemsT (l ++ m) = itemsT l ++ itemsT m := by simp [itemsT]
/-- What Form and Items answer. -/
def longR (t : List Int) : List Int × Int := if t.length ≤ 3000 then (t, 0) else ([], 2)
def formR (x : Nd) : List Int × Int := if rightB x = true then longR (txt x) else ([], 1)
def okL (l : List It) : Bool := decide (l.length ≤ 100) && l.all mayB
def itemsR (l : List It) : List Int × Int := if okL l = true then longR (itemsT l) else ([], 1)
theorem inSL_all (l : List Nd) : inSL l = l.all inS := by
 induction l with
 | nil => rw [inSL]; rfl
 | cons x t ih => rw [inSL, ih]; rfl
theorem inFL_all (l : List Nd) : inFL l = l.all inF := by
 induction l with
 | nil => rw [inFL]; rfl
 | cons x t ih => rw [inFL, ih]; rfl
theorem deepL_all (m : Nat) (l : List Nd) : deepL m l = l.all (deepB m) := by
 induction l with
 | nil => rw [deepL]; rfl
 | cons x t ih => rw [deepL, ih]; rfl
theorem inS_eq (x : Nd) : inS x = if x.kind = 5 then decide (x.name.size = 0) && decide (x.kids.length = 0) && decide (0 ≤ x.low) && decide (x.low ≤ x.high) && decide (x.high ≤ 1114111)
  else if x.kind = 6 ∨ x.kind = 7 then aloneB x.name x.low x.high && pairB x.kind x.kids && x.kids.all inS
  else nosB x := by
 cases x with
 | mk k s lo hi l =>
  rw [inS, inSL_all]
  simp only [nosB, Nd.kind, Nd.name, Nd.low, Nd.high, Nd.kids, inSL_all]
  rfl
theorem inF_eq (x : Nd) : inF x = if x.kind = 1 ∨ x.kind = 3 then aloneB x.name x.low x.high && decide (x.kids.length = 0)
  else if x.kind = 8 ∨ x.kind = 9 then aloneB x.name x.low x.high && decide (2 ≤ x.kids.length) && x.kids.all inF
  else if x.kind = 10 ∨ x.kind = 11 ∨ x.kind = 12 then aloneB x.name x.low x.high && decide (x.kids.length = 1) && x.kids.all inF
  else nosB x := by
 cases x with
 | mk k s lo hi l =>
  rw [inF, inFL_all]
  rfl
theorem deepB_eq (m : Nat) (x : Nd) : deepB (m + 1) x = x.kids.all (deepB m) := by
 cases x with
 | mk k s lo hi l => rw [deepB, deepL_all]; rfl
theorem txt_eq (x : Nd) : txt x = if x.kind = 1 then [40, 41]
  else if x.kind = 3 then [46]
  else if x.kind = 2 then 36 :: numsOf x.name
  else if x.kind = 4 then (if x.low = 1 then [91, 94] else [91]) ++ kidsT 4 true x.kids ++ [93]
  else if x.kind = 5 then rngT x.low x.high
  else kidsT x.kind true x.kids ++ behindT x.kind := by
 cases x with
 | mk k s lo hi l => rw [txt]; rfl
/-- No text is long, as long as its form may be written. -/
theorem text_len (c : Int) : (Q.textB c).length ≤ 10 := by
 unfold Q.textB
 split
 ·simp
 ·have := Q.hex_len 6 c
  simp
  omega
theorem behind_len (k : Int) : (behindT k).length ≤ 1 := by unfold behindT; split <;> (try split) <;> (try split) <;> simp
theorem between_len (k : Int) : (betweenT k).length ≤ 3 := by unfold betweenT; split <;> (try split) <;> (try split) <;> simp
theorem name_len {l : List Int} (h : nameB l = true) : l.length ≤ 16 := by
 cases l with
 | nil => simp
 | cons c t =>
  unfold nameB at h
  simp only [Bool.and_eq_true, decide_eq_true_eq] at h
  simp only [List.length_cons]
  exact h.1.1
theorem nos_len {x : Nd} (h : nosB x = true) : x.kind ≠ 2 ∨ x.name.size ≤ 16 := by
 by_cases hk : x.kind = 2
 ·right
  unfold nosB at h
  rw [if_pos hk] at h
  simp only [Bool.and_eq_true] at h
  have := name_len h.1.1.1
  rwa [numsOf_len] at this
 ·exact .inl hk
theorem all_mem {p : Nd → Bool} {l : List Nd} (h : l.all p = true) : ∀ x ∈ l, p x = true := List.all_eq_true.1 h
/-- What may be written, in a set or not, has parts that may, and no long name. -/
def anyB (x : Nd) : Bool := inF x || inS x
theorem any_kids {x : Nd} (h : anyB x = true) : (∀ y ∈ x.kids, anyB y = true) ∧ (x.kind = 2 → x.name.size ≤ 16) := by
 have hn : nosB x = true → (∀ y ∈ x.kids, anyB y = true) ∧ (x.kind = 2 → x.name.size ≤ 16) := fun h => by
  refine ⟨fun y hy => ?_, fun hk => (nos_len h).resolve_left (fun e => e hk)⟩
  unfold nosB at h
  split at h
  ·simp only [Bool.and_eq_true, decide_eq_true_eq] at h
   rw [List.eq_nil_of_length_eq_zero h.2] at hy; cases hy
  ·split at h
   ·simp only [Bool.and_eq_true] at h
    have := h.2
    rw [inSL_all] at this
    unfold anyB; rw [all_mem this y hy, Bool.or_true]
   ·cases h
 unfold anyB at h
 rw [Bool.or_eq_true] at h
 rcases h with h | h
 ·rw [inF_eq] at h
  split at h
  ·rename_i hk
   simp only [Bool.and_eq_true, decide_eq_true_eq] at h
   exact ⟨fun y hy => (by rw [List.eq_nil_of_length_eq_zero h.2] at hy; cases hy), fun e => by omega⟩
  ·split at h
   ·rename_i hk
    simp only [Bool.and_eq_true] at h
    exact ⟨fun y hy => (by unfold anyB; rw [all_mem h.2 y hy, Bool.true_or]), fun e => by omega⟩
   ·split at h
    ·rename_i hk
     simp only [Bool.and_eq_true] at h
     exact ⟨fun y hy => (by unfold anyB; rw [all_mem h.2 y hy, Bool.true_or]), fun e => by omega⟩
    ·exact hn h
 ·rw [inS_eq] at h
  split at h
  ·simp only [Bool.and_eq_true, decide_eq_true_eq] at h
   exact ⟨fun y hy => (by rw [List.eq_nil_of_length_eq_zero h.1.1.1.2] at hy; cases hy), fun e => by omega⟩
  ·split at h
   ·simp only [Bool.and_eq_true] at h
    exact ⟨fun y hy => (by unfold anyB; rw [all_mem h.2 y hy, Bool.or_true]), fun e => by omega⟩
   ·exact hn h
theorem kidsT_len (k : Int) : ∀ (l : List Nd) (f : Bool), (∀ y ∈ l, (txt y).length + 5 ≤ 30 * y.size) → (kidsT k f l).length ≤ 30 * sizeL l := by
 intro l
 induction l with
 | nil => intro f _; rw [kidsT]; simp
 | cons x t ih =>
  intro f h
  have h1 := h x (List.mem_cons_self ..)
  have h2 := ih false (fun y hy => h y (List.mem_cons_of_mem _ hy))
  have h3 := between_len k
  rw [kidsT_cons, sizeL]
  have h5 : (partT k x).length ≤ (txt x).length + 2 := by unfold partT; split <;> simp
  have h6 : (if f = true then ([] : List Int) else betweenT k).length ≤ 3 := by
   split
   ·simp
   ·exact h3
  simp only [List.length_append]
  omega
theorem size_eq (x : Nd) : x.size = sizeL x.kids + 1 := by cases x; rw [Nd.size]; rfl
theorem size_in {l : List Nd} {y : Nd} (h : y ∈ l) : y.size ≤ sizeL l := by
 induction l with
 | nil => cases h
 | cons z t ih =>
  rw [sizeL]
  rcases List.mem_cons.1 h with rfl | h
  ·omega
  ·have := ih h; omega
theorem txt_len : ∀ (n : Nat) (x : Nd), x.size ≤ n → anyB x = true → (txt x).length + 5 ≤ 30 * x.size := by
 intro n
 induction n with
 | zero => intro x h; have := x.size_pos; omega
 | succ n ih =>
  intro x hn h
  have hp := x.size_pos
  have hs := size_eq x
  obtain ⟨hk, hnm⟩ := any_kids h
  have hkids : ∀ k f, (kidsT k f x.kids).length ≤ 30 * sizeL x.kids := fun k f => kidsT_len k x.kids f fun y hy => ih y (by have := size_in hy; omega) (hk y hy)
  rw [txt_eq]
  by_cases h1 : x.kind = 1
  ·rw [if_pos h1]; simp; omega
  ·rw [if_neg h1]
   by_cases h3 : x.kind = 3
   ·rw [if_pos h3]; simp; omega
   ·rw [if_neg h3]
    by_cases h2 : x.kind = 2
    ·rw [if_pos h2, List.length_cons, numsOf_len]
     have := hnm h2
     omega
    ·rw [if_neg h2]
     by_cases h4 : x.kind = 4
     ·rw [if_pos h4]
      have := hkids 4 true
      have e : (if x.low = 1 then [91, 94] else [91] : List Int).length ≤ 2 := by split <;> simp
      simp only [List.length_append, List.length_cons, List.length_nil]
      omega
     ·rw [if_neg h4]
      by_cases h5 : x.kind = 5
      ·rw [if_pos h5]
       have e1 := text_len x.low
       have e2 := text_len x.high
       unfold rngT
       split
       ·simp; omega
       ·simp only [List.length_append, List.length_cons]; omega
      ·rw [if_neg h5]
       have := hkids x.kind true
       have := behind_len x.kind
       simp only [List.length_append]
       omega
theorem right_any {x : Nd} (h : rightB x = true) : x.size ≤ 500 ∧ anyB x = true ∧ (txt x).length ≤ 15000 := by
 unfold rightB at h
 simp only [Bool.and_eq_true, decide_eq_true_eq] at h
 have ha : anyB x = true := by unfold anyB; rw [h.2, Bool.true_or]
 exact ⟨h.1.1, ha, by have := txt_len x.size x (Nat.le_refl _) ha; omega⟩
end K
end Go.Proofs.YtmohefgdpddldaaGreatDoor
namespace Go.Proofs.YtmohefgdpddldaaGreatDoor
open Go.RowKit
open Y (Nd It)

theorem sret_bool {a b : Bool} (h : a = b) : Ending.returned (.bool a) = .returned (.bool b) := by rw [h]
noncomputable def eqN (x y : Nd) : Bool := @decide (x = y) (Classical.propDecidable _)
noncomputable def eqL (l m : List Nd) : Bool := @decide (l = m) (Classical.propDecidable _)
theorem eqN_iff {x y : Nd} : eqN x y = true ↔ x = y := by unfold eqN; exact @decide_eq_true_iff _ (Classical.propDecidable _)
theorem eqL_iff {l m : List Nd} : eqL l m = true ↔ l = m := by unfold eqL; exact @decide_eq_true_iff _ (Classical.propDecidable _)
theorem eqN_no {x y : Nd} (h : x ≠ y) : eqN x y = false := by rw [← Bool.not_eq_true, eqN_iff]; exact h
theorem eqL_no {l m : List Nd} (h : l ≠ m) : eqL l m = false := by rw [← Bool.not_eq_true, eqL_iff]; exact h
theorem eqN_yes (x : Nd) : eqN x x = true := eqN_iff.2 rfl
theorem eqN_kids {x y : Nd} (h1 : x.kind = y.kind) (h2 : x.name = y.name) (h3 : x.low = y.low) (h4 : x.high = y.high) : eqN x y = eqL x.kids y.kids := by
 rw [Bool.eq_iff_iff, eqN_iff, eqL_iff]
 refine ⟨fun h => by rw [h], fun h => ?_⟩
 cases x; cases y
 simp only [Nd.kind, Nd.name, Nd.low, Nd.high, Nd.kids] at h1 h2 h3 h4 h
 subst h1 h2 h3 h4 h
 rfl
theorem bs_eq (a b : ByteArray) : (a.toList == b.toList) = decide (a = b) := by
 rw [Lib.toList_data, Lib.toList_data, Bool.eq_iff_iff, beq_iff_eq, decide_eq_true_eq]
 exact ⟨fun h => ByteArray.ext (Array.ext' h), fun h => by rw [h]⟩
/-- Blocks that are there. -/
def Lt (w : World) (b : Nat) : Prop := b < w.heap.size
theorem RdN.on {w w' : World} {A : Option Addr} {n c : Nat} {l : List Nd} (h : RdN w (Lt w) A n c l) (hb : Below w.heap.size w w') : RdN w' (Lt w') A n c l :=
 h.keep (fun _ hi => Nat.lt_of_lt_of_le hi hb.size) (fun _ hp => hb.cell hp)
theorem size_mem {l : List Nd} {i : Nat} {x : Nd} (h : l[i]? = some x) : x.size ≤ Y.sizeL l := by
 induction l generalizing i with
 | nil => simp at h
 | cons y t ih =>
  rw [Y.sizeL]
  cases i with
  | zero => simp at h; subst h; omega
  | succ i => have := ih (i := i) (by simpa using h); omega
theorem size_kids (x : Nd) : Y.sizeL x.kids + 1 = x.size := by cases x; rw [Nd.size]; rfl
end Go.Proofs.YtmohefgdpddldaaGreatDoor
namespace Go.Proofs.YtmohefgdpddldaaGreatDoor
open Go.RowKit
open Y (Nd It)

theorem sret_i64 {a b : Int} (h : a = b) : Ending.returned (.int .i64 a) = .returned (.int .i64 b) := by rw [h]
theorem sizeL_take {l : List Nd} {i : Nat} {x : Nd} (h : l[i]? = some x) : Y.sizeL (l.take (i + 1)) = Y.sizeL (l.take i) + x.size := by
 rw [List.take_add_one, h, Y.sizeL_app]
 simp [Y.sizeL]
theorem sizeL_le (l : List Nd) (i : Nat) : Y.sizeL (l.take i) ≤ Y.sizeL l := by
 have h : l = l.take i ++ l.drop i := (List.take_append_drop i l).symm
 have := congrArg Y.sizeL h
 rw [Y.sizeL_app] at this
 omega
def CountK (k : Nat) : Prop := ∀ (x : Nd), x.size ≤ k → ∀ (most : Nat), 1 ≤ most → most ≤ 100000 → ∀ (w : World) (A : Option Addr) (n c : Nat), RdN w (Lt w) A n c x.kids →
 Calls Tryz.prog 75 #[.agg #[.int .i64 x.kind, .string x.name, .int .i64 x.low, .int .i64 x.high, .slice A n c], .int .i64 most] w (NumK w ((min x.size most : Nat) : Int))
set_option maxHeartbeats 4000000 in
theorem count_any : ∀ k : Nat, CountK k := by
 intro k
 induction k with
 | zero => intro x h; have := Nd.size_pos x; omega
 | succ k ih =>
  intro x hk most hm1 hm2 w A n c ha
  have hkids := size_kids x
  have hn := ha.len
  have hsm := ha.small
  have HP := Lib.hid (kbelow_push w (.cells #[.int .i64 x.kind, .string x.name, .int .i64 x.low, .int .i64 x.high, .slice A n c] 24))
  have HA := Lib.hid (ha.on HP.out)
  generalize hs : x.size = sz at *
  generalize hl : x.kids = l at *
  obtain ⟨M, hM⟩ : ∃ M : Int, M = (most : Int) := ⟨_, rfl⟩
  obtain ⟨R, hR⟩ : ∃ R : Int, R = ((min sz most : Nat) : Int) := ⟨_, rfl⟩
  rw [← hM, ← hR]
  have hMb : M ≤ 100000 := by omega
  have hMb0 : 1 ≤ M := by omega
  have HM := Lib.hid hM
  have HR := Lib.hid hR
  have HKS := Lib.hid hkids
  have HK := Lib.hid hk
  clear ha hs hl hM hR hkids hk
  go_enter Tryz.func75, Tryz.ntmps75
  go_wp2_with fail
  generalize hW1 : w.alloc (.cells #[.int .i64 x.kind, .string x.name, .int .i64 x.low, .int .i64 x.high, .slice A n c] 24) = W1 at *
  go_loopw [5, 11] (fun sv iv wx => ∃ (j : Nat) (S : Int), j ≤ n ∧ iv = .int .i64 j ∧ sv = .int .i64 S ∧ 1 ≤ S ∧ S ≤ 100000 ∧ Hid (S = ((min (Y.sizeL (l.take j) + 1) most : Nat) : Int)) ∧ Hid (Below W1.heap.size W1 wx)) (fun _ iv _ => n - (intOf iv).toNat)
  case atStart => exact ⟨0, 1, by omega, rfl, rfl, by omega, by omega, by show (1 : Int) = _; rw [List.take_zero]; show (1 : Int) = ((min (0 + 1) most : Nat) : Int); rw [Nat.min_eq_left (by omega)]; rfl, Below.refl _ _⟩
  case round =>
   obtain ⟨j, S, hj, rfl, rfl, hS0, hS1, HS, HB⟩ := hrel
   have HA2 := Lib.hid (HA.out.on HB.out)
   by_cases hlt : j < n
   ·obtain ⟨b1, o1, y, A1, n1, c1, rfl, hb1, hy, hr1, s0, s1, s2, s3, s4⟩ := HA2.out.got hlt
    have HY := Lib.hid hy
    have HR1 := Lib.hid hr1
    have hj0 : (0 : Int) ≤ (j : Int) := by omega
    have hj1 : (j : Int) < (n : Int) := by omega
    have hb1' : b1 < wr.heap.size := hb1
    clear hy hr1 hb1 HA2
    have HP2 := Lib.hid (kbelow_push wr (.cells #[.int .i64 y.kind, .string y.name, .int .i64 y.low, .int .i64 y.high, .slice A1 n1 c1] 24))
    by_cases hfull : S = M
    ·have HF : Hid (R = S) := by
      have h1 := HS.out; have h2 := HM.out; have h3 := HR.out; have h4 := HKS.out; have h5 := sizeL_le l j
      show _ = _
      omega
     have HB3 : Hid (Below w.heap.size w (wr.alloc (.cells #[.int .i64 y.kind, .string y.name, .int .i64 y.low, .int .i64 y.high, .slice A1 n1 c1] 24))) := HP.out.trans ((HB.out.trans (HP2.out.mono HB.out.size)).mono HP.out.size)
     have g1 : (S == M) = true := by simpa using hfull
     clear hfull HP2 HS HY HR1 hMb hMb0
     go_wp2_with fail
     go_ret
     exact ⟨sret_i64 HF.out.symm, HB3.out⟩
    ·have g1 : (S == M) = false := by rw [beq_eq_false_iff_ne]; exact hfull
     have hle := sizeL_le l j
     have hle2 := sizeL_le l (j + 1)
     have hst := sizeL_take HY.out
     have hypos := Nd.size_pos y
     have hSa : S = ((Y.sizeL (l.take j) + 1 : Nat) : Int) := by have h1 := HS.out; have h2 := HM.out; omega
     have hyk : y.size ≤ k := by have := size_mem HY.out; have h1 := HKS.out; have h2 := HK.out; omega
     have hcall := ih y hyk (most - (Y.sizeL (l.take j) + 1)) (by have h2 := HM.out; have h1 := HS.out; omega) (by omega) _ A1 n1 c1 (HR1.out.on HP2.out)
     obtain ⟨T, hT⟩ : ∃ T : Int, T = ((min y.size (most - (Y.sizeL (l.take j) + 1)) : Nat) : Int) := ⟨_, rfl⟩
     rw [← hT, show ((most - (Y.sizeL (l.take j) + 1) : Nat) : Int) = M - S by have h2 := HM.out; have h1 := HS.out; omega] at hcall
     have HC := Lib.hid hcall
     have HS2 : Hid (S + T = ((min (Y.sizeL (l.take (j + 1)) + 1) most : Nat) : Int)) := by
      have h2 := HM.out; have h1 := HS.out
      show _ = _
      rw [hst]
      omega
     have hT0 : 0 ≤ T := by omega
     have hT1 : S + T ≤ 100000 := by have h1 := HS2.out; omega
     clear hcall hT hSa hyk hle hle2 hst hypos hfull HS HY
     go_wp2_with fail
     generalize wr.alloc (.cells #[.int .i64 y.kind, .string y.name, .int .i64 y.low, .int .i64 y.high, .slice A1 n1 c1] 24) = W2 at *
     refine HC.out.mono ?_
     rintro en w3 ⟨rfl, hb3⟩
     have HB3 : Hid (Below W1.heap.size W1 w3) := HB.out.trans ((HP2.out.trans (hb3.mono HP2.out.size)).mono HB.out.size)
     clear hb3 HC HP2 HB HR1
     go_wp2_with fail
     go_roundw
     case rel => exact ⟨j + 1, S + T, by omega, by go_num, rfl, by omega, by omega, HS2.out, HB3.out⟩
     case measure => simp [intOf]; omega
   ·obtain rfl : j = n := by omega
    have HF : Hid (R = S) := by
     have h1 := HS.out; have h3 := HR.out; have h4 := HKS.out
     rw [List.take_of_length_le (by omega), h4] at h1
     show _ = _
     omega
    have HB3 : Hid (Below w.heap.size w wr) := HP.out.trans (HB.out.mono HP.out.size)
    clear HA2 HS
    go_wp2_with fail
    go_ret
    exact ⟨sret_i64 HF.out.symm, HB3.out⟩
theorem size_any {x : Nd} {w : World} {A : Option Addr} {n c : Nat} (ha : RdN w (Lt w) A n c x.kids) :
  Calls Tryz.prog 38 #[.agg #[.int .i64 x.kind, .string x.name, .int .i64 x.low, .int .i64 x.high, .slice A n c]] w (NumK w ((min x.size 100000 : Nat) : Int)) := by
 have HP := Lib.hid (kbelow_push w (.cells #[.int .i64 x.kind, .string x.name, .int .i64 x.low, .int .i64 x.high, .slice A n c] 24))
 have HC := Lib.hid (count_any x.size x (Nat.le_refl _) 100000 (by decide) (by decide) _ A n c (ha.on HP.out))
 obtain ⟨R, hR⟩ : ∃ R : Int, R = ((min x.size 100000 : Nat) : Int) := ⟨_, rfl⟩
 rw [← hR] at HC ⊢
 clear ha hR
 go_enter Tryz.func38, Tryz.ntmps38
 go_wp2_with fail
 refine HC.out.mono ?_
 rintro en w2 ⟨rfl, hb2⟩
 have HB2 := Lib.hid (HP.out.trans (hb2.mono HP.out.size))
 go_wp2_with fail
 go_ret
 exact ⟨rfl, HB2.out⟩
end Go.Proofs.YtmohefgdpddldaaGreatDoor
namespace Go.Proofs.YtmohefgdpddldaaGreatDoor
open Go.RowKit
open Q (isC plainB digV)

theorem ret_bool {a b : Bool} (h : a = b) : Ending.returned (.bool a) = .returned (.bool b) := by rw [h]
theorem ret_i64 {a b : Int} (h : a = b) : Ending.returned (.int .i64 a) = .returned (.int .i64 b) := by rw [h]
theorem plain_any (c : Int) (w : World) : Calls Tryz.prog 71 #[.int .i64 c] w fun e w' => e = .returned (.bool (plainB c)) ∧ w = w' := by
 go_enter Tryz.func71, Tryz.ntmps71
 go_wp2
 all_goals
  go_ret
  refine ⟨ret_bool ?_, rfl⟩
  rw [Bool.eq_iff_iff, Q.plain_iff]
  simp
  try omega
theorem isc_any (c : Int) (w : World) : Calls Tryz.prog 129 #[.int .i64 c] w fun e w' => e = .returned (.bool (isC c)) ∧ w = w' := by
 go_enter Tryz.func129, Tryz.ntmps129
 go_wp2
 all_goals
  go_ret
  refine ⟨ret_bool ?_, rfl⟩
  rw [Bool.eq_iff_iff, Q.isC_iff]
  simp
  try omega
end Go.Proofs.YtmohefgdpddldaaGreatDoor
namespace Go.Proofs.YtmohefgdpddldaaGreatDoor
open Go.RowKit
open Y (Nd It noName)

/-- A place that is there, or none. -/
def IdxP (w : World) (b : Bool) (e : Ending) (w' : World) : Prop := ∃ i : Int, e = .returned (.int .i64 i) ∧ decide (0 ≤ i) = b ∧ Below w.heap.size w w'
theorem any_yes {α : Type} {p : α → Bool} {l : List α} {k : Nat} {x : α} (hx : l[k]? = some x) (h : p x = true) : l.any p = true := List.any_eq_true.2 ⟨x, List.mem_of_getElem? hx, h⟩
theorem any_no {α : Type} {p : α → Bool} {l : List α} {n : Nat} (hn : l.length ≤ n) (h : ∀ j x, j < n → l[j]? = some x → p x = false) : l.any p = false := by
 rw [List.any_eq_false]
 intro x hx
 obtain ⟨j, hj⟩ := List.getElem?_of_mem hx
 rw [h j x (by have := (List.getElem?_eq_some_iff.1 hj).1; omega) hj]; simp
theorem all_any_not {α : Type} (p : α → Bool) (l : List α) : (!(l.any fun x => !p x)) = l.all p := by
 rw [Bool.eq_iff_iff]; simp
/-- What is asked of a test of forms. -/
def PredN (fn : Nat) (lb : Array Value) (p : Nd → Bool) (l : List Nd) (w : World) : Prop :=
 ∀ (W : World) (x : Nd) (A : Option Addr) (n c : Nat), x ∈ l → Below w.heap.size w W → RdN W (Lt W) A n c x.kids → Calls Tryz.prog fn (#[.agg #[.int .i64 x.kind, .string x.name, .int .i64 x.low, .int .i64 x.high, .slice A n c]] ++ lb) W (BooK W (p x))
set_option maxHeartbeats 1000000 in
theorem idxN_any {w : World} {A : Option Addr} {n c : Nat} {l : List Nd} (fn : Nat) (lb : Array Value) (p : Nd → Bool) (hg : RdN w (Lt w) A n c l) (eg : ∀ args w, (callFunc fn args).run Tryz.prog w = .ok (.enter fn args) w) (hp : PredN fn lb p l w) :
  Calls Tryz.prog 124 #[.slice A n c, .func (.func fn) #[] lb] w (IdxP w (l.any p)) := by
 have hn := hg.small
 have HG := Lib.hid hg
 have HP := Lib.hid hp
 have HL := Lib.hid hg.len
 clear hg hp
 go_enter Tryz.func124, Tryz.ntmps124
 go_wp2_with fail
 go_loopw [8] (fun i wr => ∃ k : Nat, k ≤ n ∧ i = .int .i64 k ∧ Hid (∀ j x, j < k → l[j]? = some x → p x = false) ∧ Hid (Below w.heap.size w wr)) (fun i _ => n - (intOf i).toNat)
 case atStart => exact ⟨0, Nat.zero_le _, rfl, fun j h hj => absurd hj (by omega), Below.refl _ _⟩
 case round =>
  obtain ⟨k, hk, rfl, HN, HB⟩ := hrel
  by_cases hlt : k < n
  ·obtain ⟨b1, o1, x, A1, n1, c1, rfl, hb1, hx, hr1, s0, s1, s2, s3, s4⟩ := (HG.out.on HB.out).got hlt
   have HX := Lib.hid hx
   have hcall := HP.out wr x A1 n1 c1 (List.mem_of_getElem? hx) HB.out hr1
   have hj0 : (0 : Int) ≤ (k : Int) := by omega
   have hj1 : (k : Int) < (n : Int) := by omega
   clear hx hr1 hb1
   cases hpx : p x
   ·rw [hpx] at hcall
    have HF : Hid (∀ j y, j < k + 1 → l[j]? = some y → p y = false) := fun j y hj hy => by
     by_cases e : j = k
     ·subst e; rw [HX.out] at hy; injection hy with hy; subst hy; exact hpx
     ·exact HN.out j y (by omega) hy
    have HC := Lib.hid hcall
    clear hpx hcall HN
    go_wp2_with fail
    refine HC.out.mono ?_
    rintro e w2 ⟨rfl, hb2⟩
    have HB2 := Lib.hid (HB.out.trans (hb2.mono HB.out.size))
    clear hb2
    go_wp2_with fail
    go_roundw
    case rel => exact ⟨k + 1, by omega, by go_num, HF.out, HB2.out⟩
    case measure => simp [intOf]; omega
   ·rw [hpx] at hcall
    have HF := Lib.hid (any_yes (p := p) HX.out hpx)
    have HC := Lib.hid hcall
    clear hpx hcall HN
    go_wp2_with fail
    refine HC.out.mono ?_
    rintro e w2 ⟨rfl, hb2⟩
    have HB2 := Lib.hid (HB.out.trans (hb2.mono HB.out.size))
    clear hb2
    go_wp2_with fail
    go_ret
    exact ⟨k, rfl, by rw [HF.out]; simp, HB2.out⟩
  ·have HF := Lib.hid (any_no (p := p) (n := k) (by have := HL.out; omega) HN.out)
   clear HN
   go_wp2_with fail
   go_ret
   exact ⟨-1, rfl, by rw [HF.out]; rfl, HB.out⟩
set_option maxHeartbeats 1000000 in
theorem conN_any {w : World} {A : Option Addr} {n c : Nat} {l : List Nd} (fn : Nat) (lb : Array Value) (p : Nd → Bool) (hg : RdN w (Lt w) A n c l) (eg : ∀ args w, (callFunc fn args).run Tryz.prog w = .ok (.enter fn args) w) (hp : PredN fn lb p l w) :
  Calls Tryz.prog 103 #[.slice A n c, .func (.func fn) #[] lb] w (BooK w (l.any p)) := by
 have HC := Lib.hid (idxN_any fn lb p hg eg hp)
 clear hg hp
 go_enter Tryz.func103, Tryz.ntmps103
 go_wp2_with fail
 refine HC.out.mono ?_
 rintro e w2 ⟨i, rfl, hi, hb⟩
 have HB := Lib.hid hb
 have HI := Lib.hid hi
 clear hb hi
 go_wp2_with fail
 go_ret
 exact ⟨ret_bool HI.out, HB.out⟩
/-- The test turned round, as all hands it on: it has the test in a cell of its own. -/
theorem notN_pred {w : World} (fn : Nat) (lb : Array Value) (p : Nd → Bool) (l : List Nd) (b : Nat) (hb : b < w.heap.size) (hc : w.cell? ⟨b, 0, none⟩ = some (.func (.func fn) #[] lb)) (eg : ∀ args w, (callFunc fn args).run Tryz.prog w = .ok (.enter fn args) w) (hp : PredN fn lb p l w) :
  PredN 104 #[.pointer (some ⟨b, 0, none⟩)] (fun x => !p x) l w := fun W x A n c hx hW hr => by
 have hc' : W.cell? ⟨b, 0, none⟩ = some (.func (.func fn) #[] lb) := (hW.cell (p := ⟨b, 0, none⟩) hb).trans hc
 have HP := Lib.hid (kbelow_push W (.cells #[.int .i64 x.kind, .string x.name, .int .i64 x.low, .int .i64 x.high, .slice A n c] 24))
 have HC := Lib.hid (hp _ x A n c hx (hW.trans (HP.out.mono hW.size)) (hr.on HP.out))
 have hb' : b < W.heap.size := Nat.lt_of_lt_of_le hb hW.size
 clear hr hW hc hp
 go_enter Tryz.func104, Tryz.ntmps104
 go_wp2_with fail
 refine HC.out.mono ?_
 rintro e w2 ⟨rfl, hb2⟩
 have HB := Lib.hid (HP.out.trans (hb2.mono HP.out.size))
 clear hb2
 go_wp2_with fail
 go_ret
 exact ⟨rfl, HB.out⟩
theorem allN_any {w : World} {A : Option Addr} {n c : Nat} {l : List Nd} (fn : Nat) (lb : Array Value) (p : Nd → Bool) (hg : RdN w (Lt w) A n c l) (eg : ∀ args w, (callFunc fn args).run Tryz.prog w = .ok (.enter fn args) w) (hp : PredN fn lb p l w) :
  Calls Tryz.prog 76 #[.slice A n c, .func (.func fn) #[] lb] w (BooK w (l.all p)) := by
 have HP := Lib.hid (kbelow_push w (.cells #[.func (.func fn) #[] lb] 36))
 have hp' : PredN fn lb p l (w.alloc (.cells #[.func (.func fn) #[] lb] 36)) := fun W x A n c hx hW hr => hp W x A n c hx (HP.out.trans (hW.mono HP.out.size)) hr
 have HC := Lib.hid (conN_any 104 #[.pointer (some ⟨w.heap.size, 0, none⟩)] (fun x => !p x) (hg.on HP.out) (enters_of Tryz.func104 (by kernel_rfl) rfl) (notN_pred fn lb p l w.heap.size (by simp) (by simp) eg hp'))
 have HF := Lib.hid (all_any_not p l)
 clear hg hp hp'
 generalize (l.any fun x => !p x) = q at *
 go_enter Tryz.func76, Tryz.ntmps76
 go_wp2_with fail
 refine HC.out.mono ?_
 rintro e w2 ⟨rfl, hb2⟩
 have HB := Lib.hid (HP.out.trans (hb2.mono HP.out.size))
 clear hb2
 go_wp2_with fail
 go_ret
 exact ⟨ret_bool HF.out, HB.out⟩
end Go.Proofs.YtmohefgdpddldaaGreatDoor
namespace Go.Proofs.YtmohefgdpddldaaGreatDoor
open Go.RowKit
open Y (Nd It Ps nextP takeP failP noTok noName)

section
variable {b : Nat} {w : World} {e : Int} {o : Nat} {s : Ps} {A : Option Addr} {n c : Nat}
end
end Go.Proofs.YtmohefgdpddldaaGreatDoor
namespace Go.Proofs.YtmohefgdpddldaaGreatDoor
open Go.RowKit
open Y (Nd It Ps nextP takeP failP noTok noName)

def Tok.v (t : Tok) : Value := .agg #[.int .i64 t.kind, .string (strOfNums t.text), .int .i64 t.low, .int .i64 t.high, .int .i64 t.pos]
/-- Five cells are stored. -/
def set5 (w : World) (N : Nat) (a0 a1 a2 a3 a4 : Value) : World := ((((w.setCell ⟨N, 0, none⟩ a0).setCell ⟨N, 1, none⟩ a1).setCell ⟨N, 2, none⟩ a2).setCell ⟨N, 3, none⟩ a3).setCell ⟨N, 4, none⟩ a4
theorem set5_row {w : World} {N : Nat} {x0 x1 x2 x3 x4 : Value} {t : TypeId} (h : w.heap[N]? = some (.cells #[x0, x1, x2, x3, x4] t (0, 0))) (a0 a1 a2 a3 a4 : Value) : (set5 w N a0 a1 a2 a3 a4).heap[N]? = some (.cells #[a0, a1, a2, a3, a4] t (0, 0)) :=
 heap_setCell_same _ _ _ _ _ _ (heap_setCell_same _ _ _ _ _ _ (heap_setCell_same _ _ _ _ _ _ (heap_setCell_same _ _ _ _ _ _ (heap_setCell_same _ _ _ _ _ _ h))))
theorem set5_size (w : World) (N : Nat) (a0 a1 a2 a3 a4 : Value) : (set5 w N a0 a1 a2 a3 a4).heap.size = w.heap.size := by simp [set5]
theorem set5_block (w : World) (N : Nat) (a0 a1 a2 a3 a4 : Value) {i : Nat} (hi : i ≠ N) : (set5 w N a0 a1 a2 a3 a4).heap[i]? = w.heap[i]? :=
 (Below.heap_setCell _ _ _ _ hi).trans ((Below.heap_setCell _ _ _ _ hi).trans ((Below.heap_setCell _ _ _ _ hi).trans ((Below.heap_setCell _ _ _ _ hi).trans (Below.heap_setCell _ _ _ _ hi))))
theorem Fe.set5 {b : Nat} {a c : World} (h : Fe b a c) {g : Nat} (hg : g = b ∨ a.heap.size ≤ g) (a0 a1 a2 a3 a4 : Value) : Fe b a (set5 c g a0 a1 a2 a3 a4) :=
 ((((h.set hg _ _).set hg _ _).set hg _ _).set hg _ _).set hg _ _
theorem cells5 {w : World} {N : Nat} {x0 x1 x2 x3 x4 : Value} {t : TypeId} (h : w.heap[N]? = some (.cells #[x0, x1, x2, x3, x4] t (0, 0))) :
  w.cell? ⟨N, 0, none⟩ = some x0 ∧ w.cell? ⟨N, 1, none⟩ = some x1 ∧ w.cell? ⟨N, 2, none⟩ = some x2 ∧ w.cell? ⟨N, 3, none⟩ = some x3 ∧ w.cell? ⟨N, 4, none⟩ = some x4 := by
 refine ⟨?_, ?_, ?_, ?_, ?_⟩ <;> (rw [cell_of_row _ _ _ _ _ _ h]; rfl)
theorem take_yes {e : Int} {ks : List Int} {t : Tok} {u : List Tok} (h : ks.contains t.kind = true) : takeP e ks (.live (t :: u)) = (t, .live u) := by rw [Y.take_cons, if_pos h]
theorem take_no {e : Int} {ks : List Int} {s : Ps} (h : nextP ks s = false) : takeP e ks s = (noTok, failP e 4 s) := by
 rcases s with (_ | ⟨t, u⟩) | ⟨a, y⟩
 ·rfl
 ·rw [Y.take_cons]; rw [Y.next_cons] at h; rw [if_neg (by rw [h]; decide)]; rfl
 ·rfl
section
variable {b : Nat} {w : World} {e : Int} {o : Nat} {s : Ps} {A : Option Addr} {n c : Nat}
end
end Go.Proofs.YtmohefgdpddldaaGreatDoor
namespace Go.Proofs.YtmohefgdpddldaaGreatDoor
open Go.RowKit
open Y (Nd It Ps nextP takeP failP noTok noName)

/-- A value's five cells. -/
theorem IsN.parts {w : World} {S : Nat → Prop} {v : Value} {x : Nd} (h : IsN w S v x) : ∃ A n c, v = .agg #[.int .i64 x.kind, .string x.name, .int .i64 x.low, .int .i64 x.high, .slice A n c] ∧ RdN w S A n c x.kids := h
end Go.Proofs.YtmohefgdpddldaaGreatDoor
namespace Go.Proofs.YtmohefgdpddldaaGreatDoor
open Go.RowKit
open Y (Nd It Ps nextP takeP failP noTok noName formP orsP joinP piecesP pieceP bareP setP partsP partP heldP memberP)

section
variable {b N : Nat} {t : TypeId} {w w' : World} {e : Int} {o : Nat} {s : Ps}
/-- A block that is new holds these cells. -/
def Box5 (w : World) (N : Nat) (t : TypeId) : Prop := ∃ x0 x1 x2 x3 x4 : Value, w.heap[N]? = some (.cells #[x0, x1, x2, x3, x4] t (0, 0))
theorem Box5.fe (h : Box5 w N t) (hf : Fe b w w') (hN : N ≠ b) (hs : N < w.heap.size) : Box5 w' N t := by
 obtain ⟨x0, x1, x2, x3, x4, h⟩ := h
 exact ⟨x0, x1, x2, x3, x4, (hf.block N hs hN).trans h⟩
theorem Box5.facts (h : Box5 w N t) : (∃ x0 x1 x2 x3 x4, w.cell? ⟨N, 0, none⟩ = some x0 ∧ w.cell? ⟨N, 1, none⟩ = some x1 ∧ w.cell? ⟨N, 2, none⟩ = some x2 ∧ w.cell? ⟨N, 3, none⟩ = some x3 ∧ w.cell? ⟨N, 4, none⟩ = some x4) ∧ ∀ j, w.frozen? ⟨N, j, none⟩ = false := by
 obtain ⟨x0, x1, x2, x3, x4, h⟩ := h
 exact ⟨⟨x0, x1, x2, x3, x4, cells5 h⟩, fun j => frozen_of_row _ _ _ _ _ h⟩
theorem Box5.set (h : Box5 w N t) (a0 a1 a2 a3 a4 : Value) : (set5 w N a0 a1 a2 a3 a4).heap[N]? = some (.cells #[a0, a1, a2, a3, a4] t (0, 0)) := by
 obtain ⟨x0, x1, x2, x3, x4, h⟩ := h
 exact set5_row h _ _ _ _ _
end
end Go.Proofs.YtmohefgdpddldaaGreatDoor
namespace Go.Proofs.YtmohefgdpddldaaGreatDoor
open Go.RowKit
open Y (Nd It Ps nextP takeP failP noTok noName formP orsP joinP piecesP pieceP bareP setP partsP partP heldP memberP)

/-- The world in which a function begins that hands back a form. -/
def begN (w : World) : World := w.alloc (.cells #[.int .i64 0, .string { data := #[] }, .int .i64 0, .int .i64 0, .slice none 0 0] 24)
theorem begN_box (w : World) : Box5 (begN w) w.heap.size 24 := ⟨_, _, _, _, _, heap_alloc_new w _⟩
theorem begN_below (w : World) : Below w.heap.size w (begN w) := kbelow_push w _
theorem begN_size (w : World) : (begN w).heap.size = w.heap.size + 1 := by simp [begN]
end Go.Proofs.YtmohefgdpddldaaGreatDoor
namespace Go.Proofs.YtmohefgdpddldaaGreatDoor
open Go.RowKit
open Y (Nd It Ps nextP takeP failP noTok noName formP orsP joinP piecesP pieceP bareP setP partsP partP heldP memberP)

theorem Fe.grown {b : Nat} {a c d : World} {row : Option Nat} (h : Fe b a c) (hg : c.grownBy d row) (hr : ∀ i, row = some i → a.heap.size ≤ i) : Fe b a d :=
 ⟨hg.os.trans h.os, hg.tape.trans h.tape, hg.output.trans h.output, Nat.le_trans h.size hg.size, fun i hi hn => (hg.block i (Nat.lt_of_lt_of_le hi h.size) (fun e => by have := hr i e.symm; omega)).trans (h.block i hi hn)⟩
theorem app_n {w : World} {ops : Array Oper} {rest : List Oper} {o : Oper} {a : Act} {Q : Exit → Act → World → Prop} (hgd : o.guard = none) (s x : Operand) 
  (ho : o.op = .call { callee := .builtin .append, args := #[s, x], argTypes := #[22, 22] })
  (base : Nat) (v : Value) (l : List Nd) (hs : a.eval s = v) (hown : OwnN w base v l) (N : Nat) (y : Nd) (x0 x1 x2 x3 x4 : Value)
  (hx : a.eval x = .slice (some ⟨N, 0, none⟩) 1 1) (hrow : w.heap[N]? = some (.cells #[x0, x1, x2, x3, x4] 24 (0, 0))) (hy : NdAt w (fun b => base ≤ b ∧ b < w.heap.size ∧ v.ownBlock ≠ some b) [x0, x1, x2, x3, x4] y)
  (h63 : l.length ≤ 1000000) (hbase : base ≤ w.heap.size)
  (h : ∀ v' w', OwnN w' base v' (l ++ [y]) → w.grownBy w' v.ownBlock → wpList Tryz.prog ops Q rest (a.put o.dst v') w') : wpList Tryz.prog ops Q (o :: rest) a w := by
 obtain ⟨i0, hi0, hz0, hz1, hz2⟩ := info_k info_nd
 obtain ⟨cs, hc, hk⟩ := hown
 have h1 : ∀ u ∈ [x0, x1, x2, x3, x4], u.oneCell' = true := by
  obtain ⟨A, n, c, e, _⟩ := hy.inv
  rw [e]
  intro u hu
  simp only [List.mem_cons, List.not_mem_nil, or_false] at hu
  rcases hu with rfl | rfl | rfl | rfl | rfl <;> rfl
 refine wpList_append_own_at w hgd s x 22 ho base 24 i0 _ 5 64 Tryz.underlying22 hi0 hz0 hz1 hz2 rfl (by decide) v l.length cs hs hc ⟨N, 0, none⟩ 1 1 [x0, x1, x2, x3, x4] hx rfl ?_ h1 (by unfold maxLen; omega) (by omega) hbase ?_
 ·intro j u hu
  rw [kadd_none, cell_of_row _ _ _ _ _ _ hrow, Nat.zero_add]
  simpa using hu
 ·intro v' w' h2 h3 _ h4
  exact h v' w' (OwnN.push hk hc.1 hy rfl h2 h3 h4) h3
/-- A form is written out as a list of one. -/
def litN (w : World) (x0 x1 x2 x3 x4 : Value) : World := w.alloc (.cells #[x0, x1, x2, x3, x4] 24)
theorem litN_below (w : World) (x0 x1 x2 x3 x4 : Value) : Below w.heap.size w (litN w x0 x1 x2 x3 x4) := kbelow_push w _
theorem litN_size (w : World) (x0 x1 x2 x3 x4 : Value) : (litN w x0 x1 x2 x3 x4).heap.size = w.heap.size + 1 := by simp [litN]
theorem litN_row (w : World) (x0 x1 x2 x3 x4 : Value) (N : Nat) (hN : N = w.heap.size) : (litN w x0 x1 x2 x3 x4).heap[N]? = some (.cells #[x0, x1, x2, x3, x4] 24 (0, 0)) := by subst hN; exact heap_alloc_new w _
section
variable {α : Type} {b : Nat} {w wr W2 w3 w5 : World} {e : Int} {o L m K m' : Nat} {f : Nat → Nat → List Nd → Ps → α × Ps} {r : α × Ps} {v v5 : Value} {l : List Nd} {s : Ps} {k : Nd × Ps} {A : Option Addr} {n c : Nat}
end
end Go.Proofs.YtmohefgdpddldaaGreatDoor
namespace Go.Proofs.YtmohefgdpddldaaGreatDoor
open Go.RowKit
open Y (Nd It Ps nextP takeP failP noTok noName formP orsP joinP piecesP pieceP bareP setP partsP partP heldP memberP)

end Go.Proofs.YtmohefgdpddldaaGreatDoor
namespace Go.Proofs.YtmohefgdpddldaaGreatDoor
open Go.RowKit
open Y (Nd It Ps nextP takeP failP noTok noName formP orsP joinP piecesP pieceP bareP setP partsP partP heldP memberP)

/-- A list of one that is written out is a row of one's own. -/
theorem OwnN.lit {w : World} {B : Nat} {x : Nd} {x0 x1 x2 x3 x4 : Value} (hB : B ≤ w.heap.size) (hx : NdAt w (In B w.heap.size) [x0, x1, x2, x3, x4] x) : OwnN (litN w x0 x1 x2 x3 x4) B (.slice (some ⟨w.heap.size, 0, none⟩) 1 1) [x] := by
 refine ⟨[x0, x1, x2, x3, x4], World.ownsRow_lit w #[x0, x1, x2, x3, x4] 1 hB (by unfold maxLen; omega) rfl, fun i y hy => ?_⟩
 have hi : i = 0 := by
  have := (List.getElem?_eq_some_iff.1 hy).1; simp at this; omega
 subst hi
 simp at hy
 subst hy
 refine hx.keep (fun i hi => ⟨hi.1, by rw [litN_size]; have := hi.2; omega, fun e => ?_⟩) fun p hp => (litN_below w x0 x1 x2 x3 x4).cell hp.2
 have h2 : i < w.heap.size := hi.2
 have h3 : w.heap.size = i := Option.some.inj e
 omega
theorem nd_eta (x : Nd) : Nd.mk x.kind x.name x.low x.high x.kids = x := by cases x; rfl
end Go.Proofs.YtmohefgdpddldaaGreatDoor
namespace Go.Proofs.YtmohefgdpddldaaGreatDoor
open Go.RowKit
open Y (Nd It Ps nextP takeP failP noTok noName deepP formP orsP joinP piecesP pieceP bareP setP partsP partP heldP memberP)


end Go.Proofs.YtmohefgdpddldaaGreatDoor
namespace Go.Proofs.YtmohefgdpddldaaGreatDoor
open Go.RowKit
open Y (Nd It Ps nextP takeP failP noTok noName deepP formP orsP joinP piecesP pieceP bareP setP partsP partP heldP memberP)

section
variable {b : Nat} {w w10 : World} {e : Int} {o : Nat} {s2 : Ps} {A : Option Addr} {n c : Nat} {x : Nd} {t : Tok} {tx : ByteArray}
end

end Go.Proofs.YtmohefgdpddldaaGreatDoor
namespace Go.Proofs.YtmohefgdpddldaaGreatDoor
open Go.RowKit
open Y (Nd It Ps nextP takeP failP noTok noName deepP formP orsP joinP piecesP pieceP bareP setP partsP partP heldP memberP)

end Go.Proofs.YtmohefgdpddldaaGreatDoor
namespace Go.Proofs.YtmohefgdpddldaaGreatDoor
open Go.RowKit
open Y (Nd It Ps nextP takeP failP noTok noName deepP formP orsP joinP piecesP pieceP bareP setP partsP partP heldP memberP)

end Go.Proofs.YtmohefgdpddldaaGreatDoor
