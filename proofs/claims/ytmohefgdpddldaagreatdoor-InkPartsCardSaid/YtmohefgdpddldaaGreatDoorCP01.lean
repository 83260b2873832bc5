/- Words for slices of whole numbers of one kind in memory: when a slice value reads as a list of numbers, how that is kept from world to world, and rows of one's own. Tokens in memory. -/
import Derived.Test.YtmohefgdpddldaaGreatDoorRows
import Derived.WalkKit
import Derived.WalkSpells
import Derived.WalkLawsBesides
import Derived.Below
import Derived.Laws.OwnMore
import Derived.Laws.BytesArg
import Derived.Deep.AppendLies
import Derived.Deep.Draws
import Derived.Deep.QuietTactic
import Derived.BigQuiet
import Derived.RegionTactic
import Derived.Deep.DeepCutAuto
import Derived.Deep.RegionLaw
import Derived.Maps.AppendAt
import Derived.Lib.Hide
import Derived.Lib.Strings
import Derived.Laws.Rows
namespace Go.Proofs.YtmohefgdpddldaaGreatDoor
open Go.RowKit

theorem kbelow_drewN {B : Nat} {a w : World} (h : Below B a w) (q : Nat) : Below B a (w.drewN q) := ⟨h.os, h.tape, h.output, h.size, h.block⟩
theorem kbelow_push (w : World) (o : Obj) : Below w.heap.size w (w.alloc o) := (Below.refl _ _).alloc (Nat.le_refl _) o
theorem kadd_none (b off j : Nat) : (⟨b, off, none⟩ : Addr).add j = ⟨b, off + j, none⟩ := by
 unfold Addr.add; by_cases h : j = 0 <;> simp [h]
theorem klt_of_cell {w : World} {a : Addr} {v : Value} (h : w.cell? a = some v) : a.block < w.heap.size := by
 rcases Nat.lt_or_ge a.block w.heap.size with hlt | hge
 ·exact hlt
 ·unfold World.cell? at h; rw [Array.getElem?_eq_none hge] at h; cases h
theorem kdrewN_two (w : World) (p q : Nat) : (w.drewN p).drewN q = w.drewN (p + q) := by simp [World.drewN, Nat.add_assoc]

structure RdK (k : IntKind) (w : World) (B : Nat) (A : Option Addr) (n c : Nat) (L : List Int) : Prop where
 len : L.length = n
 cap : n ≤ c
 capm : c ≤ maxLen
 at_ : 0 < n → ∃ b off, A = some ⟨b, off, none⟩ ∧ b < B ∧ ∀ (j : Nat) (x : Int), L[j]? = some x → w.cell? ⟨b, off + j, none⟩ = some (.int k x)
section
variable {k : IntKind} {w w' : World} {B B' n c : Nat} {A : Option Addr} {L : List Int}
theorem RdK.keep (h : RdK k w B A n c L) (hk : ∀ p : Addr, p.block < B → w'.cell? p = w.cell? p) : RdK k w' B A n c L :=
 ⟨h.len, h.cap, h.capm, fun hn => by
  obtain ⟨b, off, e, hb, hc⟩ := h.at_ hn
  exact ⟨b, off, e, hb, fun j x hx => (hk _ hb).trans (hc j x hx)⟩⟩
theorem RdK.more (h : RdK k w B A n c L) (hB : B ≤ B') : RdK k w B' A n c L :=
 ⟨h.len, h.cap, h.capm, fun hn => by
  obtain ⟨b, off, e, hb, hc⟩ := h.at_ hn
  exact ⟨b, off, e, by omega, hc⟩⟩
theorem RdK.on (h : RdK k w w.heap.size A n c L) (hb : Below w.heap.size w w') : RdK k w' w'.heap.size A n c L := (h.keep fun _ hp => hb.cell hp).more hb.size
theorem RdK.drewN (h : RdK k w B A n c L) (q : Nat) : RdK k (w.drewN q) B A n c L := ⟨h.len, h.cap, h.capm, h.at_⟩
theorem RdK.push (h : RdK k w w.heap.size A n c L) (o : Obj) : RdK k (w.alloc o) (w.alloc o).heap.size A n c L := h.on (kbelow_push w o)
theorem RdK.nil (k : IntKind) (w : World) (B : Nat) : RdK k w B none 0 0 [] := ⟨rfl, Nat.le_refl _, by simp [maxLen], fun h => absurd h (by omega)⟩
theorem RdK.small (h : RdK k w B A n c L) : n ≤ 9223372036854775807 := by have h1 := h.cap; have h2 := h.capm; unfold maxLen at h2; omega
theorem RdK.got (h : RdK k w B A n c L) {j : Nat} (hj : j < n) : ∃ (b off : Nat) (x : Int), A = some ⟨b, off, none⟩ ∧ b < B ∧ L[j]? = some x ∧ w.cell? ⟨b, off + j, none⟩ = some (.int k x) := by
 have hl : j < L.length := by have := h.len; omega
 obtain ⟨b, off, e, hb, hc⟩ := h.at_ (by omega)
 exact ⟨b, off, _, e, hb, List.getElem?_eq_getElem hl, hc _ _ (List.getElem?_eq_getElem hl)⟩
theorem RdK.take (h : RdK k w B A n c L) {m : Nat} (hm : m ≤ n) : RdK k w B A m c (L.take m) :=
 ⟨by rw [List.length_take, h.len]; omega, Nat.le_trans hm h.cap, h.capm, fun h0 => by
  obtain ⟨b, off, e, hb, hc⟩ := h.at_ (by omega)
  exact ⟨b, off, e, hb, fun j x hx => hc j x (by
   have hj : j < m := by have := (List.getElem?_eq_some_iff.1 hx).1; rw [List.length_take] at this; omega
   rwa [List.getElem?_take_of_lt hj] at hx)⟩⟩
theorem RdK.drop {b off : Nat} (h : RdK k w B (some ⟨b, off, none⟩) n c L) {m : Nat} (hm : m < n) : RdK k w B (some ⟨b, off + m, none⟩) (n - m) (c - m) (L.drop m) :=
 ⟨by rw [List.length_drop, h.len], by have := h.cap; omega, by have := h.capm; omega, fun _ => by
  obtain ⟨b', off', e, hb, hc⟩ := h.at_ (by omega)
  injection e with e; injection e with e1 e2 _; subst e1 e2
  exact ⟨b, off + m, rfl, hb, fun j x hx => by rw [Nat.add_assoc]; exact hc _ x (by rwa [List.getElem?_drop] at hx)⟩⟩
def OwnK (k : IntKind) (w : World) (B : Nat) (e : TypeId) (v : Value) (n : Nat) (L : List Int) : Prop := w.ownsRow B e 1 v n (L.map (Value.int k))
theorem OwnK.len {e : TypeId} {v : Value} (h : OwnK k w B e v n L) : L.length = n := by have := h.1; simpa using this
theorem OwnK.rd {e : TypeId} {v : Value} (h : OwnK k w B e v n L) : ∃ A c, v = .slice A n c ∧ RdK k w w.heap.size A n c L := by
 have hl := h.len
 rcases h.2 with ⟨h1, h2⟩ | ⟨g, cap, cur, h1, _, hg, h3, h4, _, _⟩
 ·subst h1 h2; obtain rfl : L = [] := List.eq_nil_of_length_eq_zero hl; exact ⟨none, 0, rfl, RdK.nil _ _ _⟩
 ·subst h1
  have hlt : g < w.heap.size := by
   rcases Nat.lt_or_ge g w.heap.size with hlt | hge
   ·exact hlt
   ·rw [Array.getElem?_eq_none hge] at hg; cases hg
  exact ⟨_, cap, rfl, hl, h3, h4, fun _ => ⟨g, 0, rfl, hlt, fun j x hx => by rw [← kadd_none]; exact World.ownsRow.cells h (g := g) rfl j _ (by simp [hx])⟩⟩
theorem OwnK.nil (k : IntKind) (w : World) (B : Nat) (e : TypeId) : OwnK k w B e (.slice none 0 0) 0 [] := World.ownsRow_nil w B e 1
theorem OwnK.block {e : TypeId} {v : Value} (h : OwnK k w B e v n L) : ∀ i, v.ownBlock = some i → B ≤ i ∧ i < w.heap.size := World.ownsRow.lt h
theorem OwnK.below {e : TypeId} {v : Value} (h : OwnK k w B e v n L) (hb : Below w.heap.size w w') : OwnK k w' B e v n L := by
 refine ⟨h.1, ?_⟩
 rcases h.2 with h2 | ⟨g, cap, cur, h1, hB, hg, h3⟩
 ·exact .inl h2
 ·have hlt : g < w.heap.size := by
   rcases Nat.lt_or_ge g w.heap.size with hlt | hge
   ·exact hlt
   ·rw [Array.getElem?_eq_none hge] at hg; cases hg
  exact .inr ⟨g, cap, cur, h1, hB, (hb.block g hlt).trans hg, h3⟩
theorem OwnK.alloc {e : TypeId} {v : Value} (h : OwnK k w B e v n L) (o : Obj) : OwnK k (w.alloc o) B e v n L := World.ownsRow.alloc h o
theorem OwnK.drewN {e : TypeId} {v : Value} (h : OwnK k w B e v n L) (q : Nat) : OwnK k (w.drewN q) B e v n L := h
theorem OwnK.kept {e : TypeId} {v : Value} {row : Option Nat} (h : OwnK k w B e v n L) (hg : w.grownBy w' row) (hne : v.ownBlock = none ∨ v.ownBlock ≠ row) : OwnK k w' B e v n L := World.ownsRow.kept h hg hne
end
def Apt (v u : Value) : Prop := v.ownBlock = none ∨ v.ownBlock ≠ u.ownBlock
theorem apt_nil (u : Value) : Apt (.slice none 0 0) u := Or.inl rfl
theorem below_grown {w0 w w' : World} {row : Option Nat} (h : Below w0.heap.size w0 w) (hg : w.grownBy w' row) (hr : ∀ i, row = some i → w0.heap.size ≤ i) : Below w0.heap.size w0 w' :=
 ⟨hg.os.trans h.os, hg.tape.trans h.tape, hg.output.trans h.output, Nat.le_trans h.size hg.size, fun i hi => by
  have h1 := h.size
  exact (hg.block i (by omega) (fun e => by have := hr i e.symm; omega)).trans (h.block i hi)⟩
theorem info_k {P : Program} {e : TypeId} {z : Value} {s b : Nat} (h : (P.info? e).map (fun i => (i.zero, i.size, i.bytes)) = some (some z, s, b)) : ∃ i, P.info? e = some i ∧ i.zero = some z ∧ i.size = s ∧ i.bytes = b := by
 cases hi : P.info? e with
 | none => rw [hi] at h; cases h
 | some i => rw [hi] at h; simp at h; exact ⟨i, rfl, h.1, h.2.1, h.2.2⟩
theorem one_k (k : IntKind) (L : List Int) : ∀ u ∈ L.map (Value.int k), u.oneCell' = true := fun u hu => by
 simp at hu; obtain ⟨x, _, rfl⟩ := hu; rfl
theorem app_k {P : Program} {w : World} {ops : Array Oper} {rest : List Oper} {o : Oper} {a : Act} {Q : Exit → Act → World → Prop} (k : IntKind) (hgd : o.guard = none) (s x : Operand) (t : TypeId)
  (ho : o.op = .call { callee := .builtin .append, args := #[s, x], argTypes := #[t, t] })
  (base : Nat) (e : TypeId) (bytes : Nat) (ht : P.underlying t = some (.slice e)) (hi : (P.info? e).map (fun i => (i.zero, i.size, i.bytes)) = some (some (.int k 0), 1, bytes)) (hby : bytes ≤ 8)
  (v : Value) (n : Nat) (L : List Int) (hs : a.eval s = v) (hown : OwnK k w base e v n L)
  (ad : Addr) (m c : Nat) (news : List Int) (hx : a.eval x = .slice (some ad) m c) (hl : news.length = m) (hnews : ∀ j u, news[j]? = some u → w.cell? (ad.add j) = some (.int k u))
  (h63 : n + m ≤ 1099511627776) (hbase : base ≤ w.heap.size)
  (h : ∀ v' w', OwnK k w' base e v' (n + m) (L ++ news) → w.grownBy w' v.ownBlock → (v'.ownBlock = v.ownBlock ∨ v'.ownBlock = some w.heap.size) → wpList P ops Q rest (a.put o.dst v') w') : wpList P ops Q (o :: rest) a w := by
 obtain ⟨i0, hi0, hz0, hz1, hz2⟩ := info_k hi
 refine wpList_append_own_at w hgd s x t ho base e i0 (.int k 0) 1 bytes ht hi0 hz0 hz1 hz2 rfl (by decide) v n _ hs hown ad m c (news.map (Value.int k)) hx (by simp [hl]) ?_ (one_k k news) (by unfold maxLen; omega) ?_ hbase ?_
 ·intro j u hu
  simp at hu
  obtain ⟨y, hy, rfl⟩ := hu
  exact hnews j y hy
 ·have := Nat.mul_le_mul (Nat.le_refl (n + m)) hby
  omega
 ·intro v' w' h1 h2 _ h4
  exact h v' w' (by unfold OwnK; rw [List.map_append]; exact h1) h2 h4
theorem lit_k (w : World) (N : Nat) (hN : N = w.heap.size) (k : IntKind) (L : List Int) (t : TypeId) (cs : Array Value) (hc : cs.toList = L.map (Value.int k)) : ∀ j u, L[j]? = some u → (w.alloc (.cells cs t)).cell? ((⟨N, 0, none⟩ : Addr).add j) = some (.int k u) := by
 subst hN
 intro j u hu
 rw [kadd_none, cell_of_row (w.alloc (.cells cs t)) w.heap.size (0 + j) cs t (0, 0) (heap_alloc_new w _), Nat.zero_add]
 have : cs.toList[j]? = some (.int k u) := by rw [hc]; simp [hu]
 simpa using this
theorem rd_lit_k (w : World) (N : Nat) (hN : N = w.heap.size) (k : IntKind) (L : List Int) (t : TypeId) (cs : Array Value) (hc : cs.toList = L.map (Value.int k)) (hm : L.length ≤ 1099511627776) :
  RdK k (w.alloc (.cells cs t)) (w.alloc (.cells cs t)).heap.size (some ⟨N, 0, none⟩) L.length L.length L :=
 ⟨rfl, Nat.le_refl _, by unfold maxLen; omega, fun _ => ⟨N, 0, rfl, by subst hN; simp, fun j u hu => by have := lit_k w N hN k L t cs hc j u hu; rwa [kadd_none] at this⟩⟩
theorem conv_k {P : Program} {w : World} {B : Nat} {A : Option Addr} {n c : Nat} {L : List Int} (h : RdK .u8 w B A n c L) (src e dst : TypeId) (hs : P.underlying src = some (.slice e)) (he : P.underlying e = some (.int .u8)) (hd : P.underlying dst = some .string) :
  (hn : 0 < n) → (convert src dst (.slice A n c)).run P w = .ok (.string (strOfNums L)) w := by
 intro hn
 obtain ⟨b, off, rfl, _, hc⟩ := h.at_ hn
 refine run_convert_bytes_arg w src e hs he b off n c L h.len (fun i hi => ?_) dst hd
 have hl : i < L.length := by rw [h.len]; exact hi
 rw [hc i L[i] (List.getElem?_eq_getElem hl)]
 simp [List.getD, List.getElem?_eq_getElem hl]
theorem conv_any {P : Program} {w : World} {B : Nat} {A : Option Addr} {n c : Nat} {L : List Int} (h : RdK .u8 w B A n c L) (src e dst : TypeId) (hs : P.underlying src = some (.slice e)) (he : P.underlying e = some (.int .u8)) (hd : P.underlying dst = some .string) :
  (convert src dst (.slice A n c)).run P w = .ok (.string (strOfNums L)) w := by
 rcases Nat.eq_zero_or_pos n with h0 | h0
 ·subst h0
  obtain rfl : L = [] := List.eq_nil_of_length_eq_zero h.len
  cases A with
  | none => exact run_convert_bytes_nil w src e hs he 0 c dst hd
  | some a =>
   have hl : (loadCells a 0).run P w = .ok (([] : List Int).map (Value.int .u8)).toArray w := run_loadCells_list (P := P) w a [] (fun j v hj => by simp at hj)
   rw [run_convert_bytes_string w src dst e _ 0 c hs he hd, run_bytesToString w _ 0 c [] hl, foldl_push_bytes]
   rfl
 ·exact conv_k h src e dst hs he hd h0
theorem str_inj {a b : List Int} (ha : ∀ x ∈ a, 0 ≤ x ∧ x < 256) (hb : ∀ x ∈ b, 0 ≤ x ∧ x < 256) : strOfNums a = strOfNums b ↔ a = b := by
 refine ⟨fun h => ?_, fun h => by rw [h]⟩
 have h1 : (strOfNums a).data.toList = (strOfNums b).data.toList := by rw [h]
 rw [strOfNums_data, strOfNums_data] at h1
 clear h
 induction a generalizing b with
 | nil => cases b with
  | nil => rfl
  | cons y t => simp at h1
 | cons x s ih => cases b with
  | nil => simp at h1
  | cons y t =>
   simp only [List.map_cons, List.cons.injEq] at h1
   have e1 := congrArg UInt8.toNat h1.1
   have hx := ha x (by simp); have hy := hb y (by simp)
   simp only [UInt8.toNat_ofNat'] at e1
   have e2 : x = y := by omega
   rw [e2, ih (fun z hz => ha z (by simp [hz])) (fun z hz => hb z (by simp [hz])) h1.2]
theorem str_eqB {a b : List Int} (ha : ∀ x ∈ a, 0 ≤ x ∧ x < 256) (hb : ∀ x ∈ b, 0 ≤ x ∧ x < 256) : ((strOfNums a).toList == (strOfNums b).toList) = decide (a = b) := by
 rw [Lib.toList_data, Lib.toList_data, Bool.eq_iff_iff, beq_iff_eq, decide_eq_true_eq, ← str_inj ha hb]
 refine ⟨fun h => ?_, fun h => by rw [h]⟩
 exact ByteArray.ext (Array.ext' h)
def NumK (w : World) (x : Int) (e : Ending) (w' : World) : Prop := e = .returned (.int .i64 x) ∧ Below w.heap.size w w'
def BooK (w : World) (x : Bool) (e : Ending) (w' : World) : Prop := e = .returned (.bool x) ∧ Below w.heap.size w w'
end Go.Proofs.YtmohefgdpddldaaGreatDoor
namespace Go.Proofs.YtmohefgdpddldaaGreatDoor
open Go.RowKit

structure Tok where
 kind : Int
 text : List Int
 low : Int
 high : Int
 pos : Int
deriving DecidableEq
def Tok.cells (t : Tok) : List Value := [.int .i64 t.kind, .string (strOfNums t.text), .int .i64 t.low, .int .i64 t.high, .int .i64 t.pos]
def cellsP (l : List Tok) : List Value := l.flatMap Tok.cells
theorem cellsP_app (l m : List Tok) : cellsP (l ++ m) = cellsP l ++ cellsP m := by simp [cellsP]
theorem cellsP_one (l : List Tok) : ∀ u ∈ cellsP l, u.oneCell' = true := fun u hu => by
 simp only [cellsP, List.mem_flatMap] at hu
 obtain ⟨t, _, hu⟩ := hu
 simp only [Tok.cells, List.mem_cons, List.not_mem_nil, or_false] at hu
 rcases hu with rfl | rfl | rfl | rfl | rfl <;> rfl
theorem cellsP_at {l : List Tok} {i : Nat} {t : Tok} (h : l[i]? = some t) {j : Nat} (hj : j < 5) : (cellsP l)[i * 5 + j]? = t.cells[j]? := by
 induction l generalizing i with
 | nil => simp at h
 | cons x u ih =>
  rw [show cellsP (x :: u) = x.cells ++ cellsP u by simp [cellsP]]
  have hx : x.cells.length = 5 := rfl
  cases i with
  | zero => simp at h; subst h; rw [Nat.zero_mul, Nat.zero_add, List.getElem?_append_left (by omega)]
  | succ i =>
   rw [List.getElem?_append_right (by omega), hx, show (i + 1) * 5 + j - 5 = i * 5 + j by omega]
   exact ih (by simpa using h)
structure RdT (w : World) (B : Nat) (A : Option Addr) (n c : Nat) (l : List Tok) : Prop where
 len : l.length = n
 cap : n ≤ c
 capm : c ≤ maxLen
 at_ : 0 < n → ∃ b off, A = some ⟨b, off, none⟩ ∧ b < B ∧ ∀ (j : Nat) (u : Value), (cellsP l)[j]? = some u → w.cell? ⟨b, off + j, none⟩ = some u
def OwnT (w : World) (B : Nat) (v : Value) (l : List Tok) : Prop := w.ownsRow B 94 5 v l.length (cellsP l)
section
variable {w w' : World} {B n c : Nat} {A : Option Addr} {l : List Tok} {v : Value}
theorem RdT.keep (h : RdT w B A n c l) (hk : ∀ p : Addr, p.block < B → w'.cell? p = w.cell? p) : RdT w' B A n c l :=
 ⟨h.len, h.cap, h.capm, fun hn => by
  obtain ⟨b, off, e, hb, hc⟩ := h.at_ hn
  exact ⟨b, off, e, hb, fun j x hx => (hk _ hb).trans (hc j x hx)⟩⟩
theorem RdT.more {B' : Nat} (h : RdT w B A n c l) (hB : B ≤ B') : RdT w B' A n c l :=
 ⟨h.len, h.cap, h.capm, fun hn => by
  obtain ⟨b, off, e, hb, hc⟩ := h.at_ hn
  exact ⟨b, off, e, by omega, hc⟩⟩
theorem RdT.on (h : RdT w w.heap.size A n c l) (hb : Below w.heap.size w w') : RdT w' w'.heap.size A n c l := (h.keep fun _ hp => hb.cell hp).more hb.size
theorem RdT.drewN (h : RdT w B A n c l) (q : Nat) : RdT (w.drewN q) B A n c l := ⟨h.len, h.cap, h.capm, h.at_⟩
theorem RdT.nil (w : World) (B : Nat) : RdT w B none 0 0 [] := ⟨rfl, Nat.le_refl _, by simp [maxLen], fun h => absurd h (by omega)⟩
theorem OwnT.nil (w : World) (B : Nat) : OwnT w B (.slice none 0 0) [] := World.ownsRow_nil w B _ 5
theorem OwnT.rd (h : OwnT w B v l) : ∃ A c, v = .slice A l.length c ∧ RdT w w.heap.size A l.length c l := by
 rcases h.2 with ⟨h1, h2⟩ | ⟨g, cap, cur, h1, _, hg, h3, h4, _, _⟩
 ·subst h1
  have : l = [] := List.eq_nil_of_length_eq_zero h2
  subst this
  exact ⟨none, 0, rfl, RdT.nil _ _⟩
 ·subst h1
  have hlt : g < w.heap.size := by
   rcases Nat.lt_or_ge g w.heap.size with hlt | hge
   ·exact hlt
   ·rw [Array.getElem?_eq_none hge] at hg; cases hg
  exact ⟨_, cap, rfl, rfl, h3, h4, fun _ => ⟨g, 0, rfl, hlt, fun j x hx => by rw [← kadd_none]; exact World.ownsRow.cells h (g := g) rfl j _ hx⟩⟩
theorem OwnT.below (h : OwnT w B v l) (hb : Below w.heap.size w w') : OwnT w' B v l := by
 refine ⟨h.1, ?_⟩
 rcases h.2 with h2 | ⟨g, cap, cur, h1, hB, hg, h3⟩
 ·exact .inl h2
 ·have hlt : g < w.heap.size := by
   rcases Nat.lt_or_ge g w.heap.size with hlt | hge
   ·exact hlt
   ·rw [Array.getElem?_eq_none hge] at hg; cases hg
  exact .inr ⟨g, cap, cur, h1, hB, (hb.block g hlt).trans hg, h3⟩
theorem OwnT.set (h : OwnT w B v l) {b o : Nat} (hb : b < B) (x : Value) : OwnT (w.setCell ⟨b, o, none⟩ x) B v l := by
 refine ⟨h.1, ?_⟩
 rcases h.2 with h2 | ⟨g, cap, cur, h1, hB, hg, h3⟩
 ·exact .inl h2
 ·exact .inr ⟨g, cap, cur, h1, hB, (Below.heap_setCell _ _ _ _ (by show g ≠ b; omega)).trans hg, h3⟩
theorem OwnT.drewN (h : OwnT w B v l) (q : Nat) : OwnT (w.drewN q) B v l := h
theorem OwnT.block (h : OwnT w B v l) : ∀ i, v.ownBlock = some i → B ≤ i ∧ i < w.heap.size := World.ownsRow.lt h
end
end Go.Proofs.YtmohefgdpddldaaGreatDoor
