/- Words for slices of whole numbers of one kind in memory: when a slice value reads as a list of numbers, how that is kept from world to world, and rows of one's own. Patterns as trees, and when cells of memory read as one; rows of patterns of one's own. What a form whose signs are told matches: a stack of forms, and the ways from a place to another one. Rows of values of several cells, whatever they read as: slices of them, rows of one's own, what an append leaves; readers of patterns, sets, texts, names, rules. Rows of one's own of values of several cells, whose content lies in blocks that are told. Tells as ghosts: what they are, what stands in memory of them, and what a step leaves. What stays of tells where memory turns: boxes, told places, insides. Tells: a place is told; an inside is laid; what is met is noted. Tells: what is met is noted, and where the last one was told. Tells: new ones. The walk's smaller functions: once, part, behind, one. The walk's smaller functions: is a number among some, behind, meets, one. The walk's smaller functions: what is late told of; set, one. An append of a slice onto a row of one's own, whatever its values read as. -/
import Derived.Test.YtpllgfhocedgmaaRows
import Derived.WalkKit
import Derived.WalkSpells
import Derived.WalkLawsBesides
import Derived.Below
import Derived.Laws.OwnMore
import Derived.Laws.BytesArg
import Derived.Deep.AppendLies
import Derived.Deep.Draws
import Derived.Deep.QuietTactic
import Derived.BigQuiet
import Derived.RegionTactic
import Derived.Deep.DeepCutAuto
import Derived.Deep.RegionLaw
import Derived.Maps.AppendAt
import Derived.Lib.Hide
import Derived.Lib.Strings
import Derived.IntWalk
namespace Go.Proofs.Ytpllgfhocedgmaa
open Go.RowKit

theorem kbelow_drewN {B : Nat} {a w : World} (h : Below B a w) (q : Nat) : Below B a (w.drewN q) := ⟨h.os, h.tape, h.output, h.size, h.block⟩
theorem kbelow_push (w : World) (o : Obj) : Below w.heap.size w (w.alloc o) := (Below.refl _ _).alloc (Nat.le_refl _) o
theorem kadd_none (b off j : Nat) : (⟨b, off, none⟩ : Addr).add j = ⟨b, off + j, none⟩ := by
 unfold Addr.add; by_cases h : j = 0 <;> simp [h]
theorem klt_of_cell {w : World} {a : Addr} {v : Value} (h : w.cell? a = some v) : a.block < w.heap.size := by
 rcases Nat.lt_or_ge a.block w.heap.size with hlt | hge
 ·exact hlt
 ·unfold World.cell? at h; rw [Array.getElem?_eq_none hge] at h; cases h
theorem kdrewN_two (w : World) (p q : Nat) : (w.drewN p).drewN q = w.drewN (p + q) := by simp [World.drewN, Nat.add_assoc]

structure RdK (k : IntKind) (w : World) (B : Nat) (A : Option Addr) (n c : Nat) (L : List Int) : Prop where
 len : L.length = n
 cap : n ≤ c
 capm : c ≤ maxLen
 at_ : 0 < n → ∃ b off, A = some ⟨b, off, none⟩ ∧ b < B ∧ ∀ (j : Nat) (x : Int), L[j]? = some x → w.cell? ⟨b, off + j, none⟩ = some (.int k x)
section
variable {k : IntKind} {w w' : World} {B B' n c : Nat} {A : Option Addr} {L : List Int}
theorem RdK.keep (h : RdK k w B A n c L) (hk : ∀ p : Addr, p.block < B → w'.cell? p = w.cell? p) : RdK k w' B A n c L :=
 ⟨h.len, h.cap, h.capm, fun hn => by
  obtain ⟨b, off, e, hb, hc⟩ := h.at_ hn
  exact ⟨b, off, e, hb, fun j x hx => (hk _ hb).trans (hc j x hx)⟩⟩
theorem RdK.more (h : RdK k w B A n c L) (hB : B ≤ B') : RdK k w B' A n c L :=
 ⟨h.len, h.cap, h.capm, fun hn => by
  obtain ⟨b, off, e, hb, hc⟩ := h.at_ hn
  exact ⟨b, off, e, by omega, hc⟩⟩
theorem RdK.on (h : RdK k w w.heap.size A n c L) (hb : Below w.heap.size w w') : RdK k w' w'.heap.size A n c L := (h.keep fun _ hp => hb.cell hp).more hb.size
theorem RdK.drewN (h : RdK k w B A n c L) (q : Nat) : RdK k (w.drewN q) B A n c L := ⟨h.len, h.cap, h.capm, h.at_⟩
theorem RdK.push (h : RdK k w w.heap.size A n c L) (o : Obj) : RdK k (w.alloc o) (w.alloc o).heap.size A n c L := h.on (kbelow_push w o)
theorem RdK.nil (k : IntKind) (w : World) (B : Nat) : RdK k w B none 0 0 [] := ⟨rfl, Nat.le_refl _, by simp [maxLen], fun h => absurd h (by omega)⟩
theorem RdK.small (h : RdK k w B A n c L) : n ≤ 9223372036854775807 := by have h1 := h.cap; have h2 := h.capm; unfold maxLen at h2; omega
theorem RdK.got (h : RdK k w B A n c L) {j : Nat} (hj : j < n) : ∃ (b off : Nat) (x : Int), A = some ⟨b, off, none⟩ ∧ b < B ∧ L[j]? = some x ∧ w.cell? ⟨b, off + j, none⟩ = some (.int k x) := by
 have hl : j < L.length := by have := h.len; omega
 obtain ⟨b, off, e, hb, hc⟩ := h.at_ (by omega)
 exact ⟨b, off, _, e, hb, List.getElem?_eq_getElem hl, hc _ _ (List.getElem?_eq_getElem hl)⟩
theorem RdK.take (h : RdK k w B A n c L) {m : Nat} (hm : m ≤ n) : RdK k w B A m c (L.take m) :=
 ⟨by rw [List.length_take, h.len]; omega, Nat.le_trans hm h.cap, h.capm, fun h0 => by
  obtain ⟨b, off, e, hb, hc⟩ := h.at_ (by omega)
  exact ⟨b, off, e, hb, fun j x hx => hc j x (by
   have hj : j < m := by have := (List.getElem?_eq_some_iff.1 hx).1; rw [List.length_take] at this; omega
   rwa [List.getElem?_take_of_lt hj] at hx)⟩⟩
theorem RdK.drop {b off : Nat} (h : RdK k w B (some ⟨b, off, none⟩) n c L) {m : Nat} (hm : m < n) : RdK k w B (some ⟨b, off + m, none⟩) (n - m) (c - m) (L.drop m) :=
 ⟨by rw [List.length_drop, h.len], by have := h.cap; omega, by have := h.capm; omega, fun _ => by
  obtain ⟨b', off', e, hb, hc⟩ := h.at_ (by omega)
  injection e with e; injection e with e1 e2 _; subst e1 e2
  exact ⟨b, off + m, rfl, hb, fun j x hx => by rw [Nat.add_assoc]; exact hc _ x (by rwa [List.getElem?_drop] at hx)⟩⟩
def OwnK (k : IntKind) (w : World) (B : Nat) (e : TypeId) (v : Value) (n : Nat) (L : List Int) : Prop := w.ownsRow B e 1 v n (L.map (Value.int k))
theorem OwnK.len {e : TypeId} {v : Value} (h : OwnK k w B e v n L) : L.length = n := by have := h.1; simpa using this
theorem OwnK.rd {e : TypeId} {v : Value} (h : OwnK k w B e v n L) : ∃ A c, v = .slice A n c ∧ RdK k w w.heap.size A n c L := by
 have hl := h.len
 rcases h.2 with ⟨h1, h2⟩ | ⟨g, cap, cur, h1, _, hg, h3, h4, _, _⟩
 ·subst h1 h2; obtain rfl : L = [] := List.eq_nil_of_length_eq_zero hl; exact ⟨none, 0, rfl, RdK.nil _ _ _⟩
 ·subst h1
  have hlt : g < w.heap.size := by
   rcases Nat.lt_or_ge g w.heap.size with hlt | hge
   ·exact hlt
   ·rw [Array.getElem?_eq_none hge] at hg; cases hg
  exact ⟨_, cap, rfl, hl, h3, h4, fun _ => ⟨g, 0, rfl, hlt, fun j x hx => by rw [← kadd_none]; exact World.ownsRow.cells h (g := g) rfl j _ (by simp [hx])⟩⟩
theorem OwnK.nil (k : IntKind) (w : World) (B : Nat) (e : TypeId) : OwnK k w B e (.slice none 0 0) 0 [] := World.ownsRow_nil w B e 1
theorem OwnK.block {e : TypeId} {v : Value} (h : OwnK k w B e v n L) : ∀ i, v.ownBlock = some i → B ≤ i ∧ i < w.heap.size := World.ownsRow.lt h
theorem OwnK.below {e : TypeId} {v : Value} (h : OwnK k w B e v n L) (hb : Below w.heap.size w w') : OwnK k w' B e v n L := by
 refine ⟨h.1, ?_⟩
 rcases h.2 with h2 | ⟨g, cap, cur, h1, hB, hg, h3⟩
 ·exact .inl h2
 ·have hlt : g < w.heap.size := by
   rcases Nat.lt_or_ge g w.heap.size with hlt | hge
   ·exact hlt
   ·rw [Array.getElem?_eq_none hge] at hg; cases hg
  exact .inr ⟨g, cap, cur, h1, hB, (hb.block g hlt).trans hg, h3⟩
theorem OwnK.alloc {e : TypeId} {v : Value} (h : OwnK k w B e v n L) (o : Obj) : OwnK k (w.alloc o) B e v n L := World.ownsRow.alloc h o
theorem OwnK.drewN {e : TypeId} {v : Value} (h : OwnK k w B e v n L) (q : Nat) : OwnK k (w.drewN q) B e v n L := h
theorem OwnK.kept {e : TypeId} {v : Value} {row : Option Nat} (h : OwnK k w B e v n L) (hg : w.grownBy w' row) (hne : v.ownBlock = none ∨ v.ownBlock ≠ row) : OwnK k w' B e v n L := World.ownsRow.kept h hg hne
end
theorem below_grown {w0 w w' : World} {row : Option Nat} (h : Below w0.heap.size w0 w) (hg : w.grownBy w' row) (hr : ∀ i, row = some i → w0.heap.size ≤ i) : Below w0.heap.size w0 w' :=
 ⟨hg.os.trans h.os, hg.tape.trans h.tape, hg.output.trans h.output, Nat.le_trans h.size hg.size, fun i hi => by
  have h1 := h.size
  exact (hg.block i (by omega) (fun e => by have := hr i e.symm; omega)).trans (h.block i hi)⟩
theorem info_k {P : Program} {e : TypeId} {z : Value} {s b : Nat} (h : (P.info? e).map (fun i => (i.zero, i.size, i.bytes)) = some (some z, s, b)) : ∃ i, P.info? e = some i ∧ i.zero = some z ∧ i.size = s ∧ i.bytes = b := by
 cases hi : P.info? e with
 | none => rw [hi] at h; cases h
 | some i => rw [hi] at h; simp at h; exact ⟨i, rfl, h.1, h.2.1, h.2.2⟩
theorem one_k (k : IntKind) (L : List Int) : ∀ u ∈ L.map (Value.int k), u.oneCell' = true := fun u hu => by
 simp at hu; obtain ⟨x, _, rfl⟩ := hu; rfl
theorem app_k {P : Program} {w : World} {ops : Array Oper} {rest : List Oper} {o : Oper} {a : Act} {Q : Exit → Act → World → Prop} (k : IntKind) (hgd : o.guard = none) (s x : Operand) (t : TypeId)
  (ho : o.op = .call { callee := .builtin .append, args := #[s, x], argTypes := #[t, t] })
  (base : Nat) (e : TypeId) (bytes : Nat) (ht : P.underlying t = some (.slice e)) (hi : (P.info? e).map (fun i => (i.zero, i.size, i.bytes)) = some (some (.int k 0), 1, bytes)) (hby : bytes ≤ 8)
  (v : Value) (n : Nat) (L : List Int) (hs : a.eval s = v) (hown : OwnK k w base e v n L)
  (ad : Addr) (m c : Nat) (news : List Int) (hx : a.eval x = .slice (some ad) m c) (hl : news.length = m) (hnews : ∀ j u, news[j]? = some u → w.cell? (ad.add j) = some (.int k u))
  (h63 : n + m ≤ 1099511627776) (hbase : base ≤ w.heap.size)
  (h : ∀ v' w', OwnK k w' base e v' (n + m) (L ++ news) → w.grownBy w' v.ownBlock → (v'.ownBlock = v.ownBlock ∨ v'.ownBlock = some w.heap.size) → wpList P ops Q rest (a.put o.dst v') w') : wpList P ops Q (o :: rest) a w := by
 obtain ⟨i0, hi0, hz0, hz1, hz2⟩ := info_k hi
 refine wpList_append_own_at w hgd s x t ho base e i0 (.int k 0) 1 bytes ht hi0 hz0 hz1 hz2 rfl (by decide) v n _ hs hown ad m c (news.map (Value.int k)) hx (by simp [hl]) ?_ (one_k k news) (by unfold maxLen; omega) ?_ hbase ?_
 ·intro j u hu
  simp at hu
  obtain ⟨y, hy, rfl⟩ := hu
  exact hnews j y hy
 ·have := Nat.mul_le_mul (Nat.le_refl (n + m)) hby
  omega
 ·intro v' w' h1 h2 _ h4
  exact h v' w' (by unfold OwnK; rw [List.map_append]; exact h1) h2 h4
theorem grown_refl (w : World) (row : Option Nat) : w.grownBy w row := ⟨rfl, rfl, rfl, Nat.le_refl _, fun _ _ _ => rfl⟩
theorem run_app_rd {P : Program} {w : World} (k : IntKind) (t ty : TypeId) (base : Nat) (e : TypeId) (bytes : Nat) (ht : P.underlying t = some (.slice e)) (hi : (P.info? e).map (fun i => (i.zero, i.size, i.bytes)) = some (some (.int k 0), 1, bytes)) (hby : bytes ≤ 8)
  (v : Value) (n : Nat) (L : List Int) (hown : OwnK k w base e v n L) (B : Nat) (A : Option Addr) (m c : Nat) (news : List Int) (hr : RdK k w B A m c news) (h63 : n + m ≤ 1099511627776) (hbase : base ≤ w.heap.size) :
  ∃ v' w', (Builtin.append_ #[t, t] ty #[v, .slice A m c]).run P w = .ok v' w' ∧ OwnK k w' base e v' (n + m) (L ++ news) ∧ w.grownBy w' v.ownBlock ∧ (v'.ownBlock = v.ownBlock ∨ v'.ownBlock = some w.heap.size) := by
 obtain ⟨i0, hi0, hz0, hz1, hz2⟩ := info_k hi
 cases A with
 | none =>
  have hm : m = 0 := by
   rcases Nat.eq_zero_or_pos m with h0 | h0
   ·exact h0
   ·obtain ⟨_, _, h, _⟩ := hr.at_ h0; cases h
  subst hm
  obtain rfl : news = [] := List.eq_nil_of_length_eq_zero hr.len
  refine ⟨v, w, ?_, by simpa using hown, grown_refl w _, Or.inl rfl⟩
  rcases hown.2 with ⟨rfl, rfl⟩ | ⟨g, cap, cur, rfl, _, _, hnc, _⟩
  ·simp [Builtin.append_, run_underlying ht, sizeOf, typeInfo, hi0, Builtin.lenOf, Builtin.firstCells]
  ·simp [Builtin.append_, run_underlying ht, sizeOf, typeInfo, hi0, Builtin.lenOf, Builtin.firstCells, hnc, storeCells]
 | some ad =>
  have hc : ∀ j u, (news.map (Value.int k))[j]? = some u → w.cell? (ad.add j) = some u := by
   intro j u hu
   simp at hu
   obtain ⟨y, hy, rfl⟩ := hu
   have hm : 0 < m := by have h1 := (List.getElem?_eq_some_iff.1 hy).1; have h2 := hr.len; omega
   obtain ⟨b, off, h, _, hcc⟩ := hr.at_ hm
   injection h with h
   subst h
   rw [kadd_none]; exact hcc j y hy
  obtain ⟨v', w', hrun, h2, h3, _, h5⟩ := run_append_own_at (P := P) w base t ty e i0 (.int k 0) 1 bytes ht hi0 hz0 hz1 hz2 rfl (by decide) v n _ hown ad m c (news.map (Value.int k)) (by simp [hr.len]) hc (one_k k news) (by unfold maxLen; omega) (by have := Nat.mul_le_mul (Nat.le_refl (n + m)) hby; omega) hbase
  exact ⟨v', w', hrun, by unfold OwnK; rw [List.map_append]; exact h2, h3, h5⟩
theorem wp_app_rd {P : Program} {w : World} {o : Oper} {a : Act} {K : Act → World → Prop} {Q : Exit → Act → World → Prop} (k : IntKind) (s x : Operand) (t : TypeId)
  (ho : o.op = .call { callee := .builtin .append, args := #[s, x], argTypes := #[t, t] })
  (base : Nat) (e : TypeId) (bytes : Nat) (ht : P.underlying t = some (.slice e)) (hi : (P.info? e).map (fun i => (i.zero, i.size, i.bytes)) = some (some (.int k 0), 1, bytes)) (hby : bytes ≤ 8)
  (v : Value) (n : Nat) (L : List Int) (hs : a.eval s = v) (hown : OwnK k w base e v n L) (B : Nat) (A : Option Addr) (m c : Nat) (news : List Int) (hx : a.eval x = .slice A m c) (hr : RdK k w B A m c news) (h63 : n + m ≤ 1099511627776) (hbase : base ≤ w.heap.size)
  (h : ∀ v' w', OwnK k w' base e v' (n + m) (L ++ news) → w.grownBy w' v.ownBlock → (v'.ownBlock = v.ownBlock ∨ v'.ownBlock = some w.heap.size) → K (a.put o.dst v') w') : o.wp P a w K Q := by
 obtain ⟨v', w', hrun, h2, h3, h4⟩ := run_app_rd (P := P) k t o.type base e bytes ht hi hby v n L hown B A m c news hr h63 hbase
 unfold Oper.wp execOp
 simp only [ho, resolve, invoke, builtin, Sem.run_bind, Sem.run_pure, Result.andThen_ok, List.map_toArray, List.map_cons, List.map_nil, hs, hx, hrun]
 exact h v' w' h2 h3 h4
theorem app_rd {P : Program} {w : World} {ops : Array Oper} {rest : List Oper} {o : Oper} {a : Act} {Q : Exit → Act → World → Prop} (k : IntKind) (hgd : o.guard = none) (s x : Operand) (t : TypeId)
  (ho : o.op = .call { callee := .builtin .append, args := #[s, x], argTypes := #[t, t] })
  (base : Nat) (e : TypeId) (bytes : Nat) (ht : P.underlying t = some (.slice e)) (hi : (P.info? e).map (fun i => (i.zero, i.size, i.bytes)) = some (some (.int k 0), 1, bytes)) (hby : bytes ≤ 8)
  (v : Value) (n : Nat) (L : List Int) (hs : a.eval s = v) (hown : OwnK k w base e v n L) (B : Nat) (A : Option Addr) (m c : Nat) (news : List Int) (hx : a.eval x = .slice A m c) (hr : RdK k w B A m c news) (h63 : n + m ≤ 1099511627776) (hbase : base ≤ w.heap.size)
  (h : ∀ v' w', OwnK k w' base e v' (n + m) (L ++ news) → w.grownBy w' v.ownBlock → (v'.ownBlock = v.ownBlock ∨ v'.ownBlock = some w.heap.size) → wpList P ops Q rest (a.put o.dst v') w') : wpList P ops Q (o :: rest) a w :=
 wpList_plain hgd fun _ hK => wp_app_rd k s x t ho base e bytes ht hi hby v n L hs hown B A m c news hx hr h63 hbase fun v' w' h2 h3 h4 => hK _ _ (h v' w' h2 h3 h4)
theorem own_lit0 (k : IntKind) (w : World) (B : Nat) (e : TypeId) (hB : B ≤ w.heap.size) : OwnK k (w.alloc (.cells #[] e)) B e (.slice (some ⟨w.heap.size, 0, none⟩) 0 0) 0 [] :=
 World.ownsRow_lit w #[] 0 hB (by unfold maxLen; omega) rfl
theorem lit_k (w : World) (N : Nat) (hN : N = w.heap.size) (k : IntKind) (L : List Int) (t : TypeId) (cs : Array Value) (hc : cs.toList = L.map (Value.int k)) : ∀ j u, L[j]? = some u → (w.alloc (.cells cs t)).cell? ((⟨N, 0, none⟩ : Addr).add j) = some (.int k u) := by
 subst hN
 intro j u hu
 rw [kadd_none, cell_of_row (w.alloc (.cells cs t)) w.heap.size (0 + j) cs t (0, 0) (heap_alloc_new w _), Nat.zero_add]
 have : cs.toList[j]? = some (.int k u) := by rw [hc]; simp [hu]
 simpa using this
def BooK (w : World) (x : Bool) (e : Ending) (w' : World) : Prop := e = .returned (.bool x) ∧ Below w.heap.size w w'
end Go.Proofs.Ytpllgfhocedgmaa
set_option maxRecDepth 100000
namespace Go.Proofs.Ytpllgfhocedgmaa
open Go.RowKit

inductive Pt where
 | mk (kind : Int) (set : List (Int × Int)) (signs : List Int) (kids : List Pt)
def Pt.kind : Pt → Int | .mk k _ _ _ => k
def Pt.set : Pt → List (Int × Int) | .mk _ s _ _ => s
def Pt.signs : Pt → List Int | .mk _ _ g _ => g
def Pt.kids : Pt → List Pt | .mk _ _ _ l => l
def zeroP : Pt := .mk 0 [] [] []
mutual
def Pt.size : Pt → Nat
 | .mk _ _ _ l => ptsSize l + 1
def ptsSize : List Pt → Nat
 | [] => 0
 | x :: t => x.size + ptsSize t
end
theorem Pt.size_pos (x : Pt) : 1 ≤ x.size := by cases x; rw [Pt.size]; omega
theorem Pt.size_kids (x : Pt) : ptsSize x.kids + 1 = x.size := by cases x; rw [Pt.size]; rfl
theorem ptsSize_app (l m : List Pt) : ptsSize (l ++ m) = ptsSize l + ptsSize m := by
 induction l with
 | nil => simp [ptsSize]
 | cons x t ih => simp [ptsSize, ih]; omega
theorem ptsSize_take {l : List Pt} {i : Nat} {x : Pt} (h : l[i]? = some x) : ptsSize (l.take (i + 1)) = ptsSize (l.take i) + x.size := by
 rw [List.take_add_one, h, ptsSize_app]
 simp [ptsSize]
theorem ptsSize_le (l : List Pt) (i : Nat) : ptsSize (l.take i) ≤ ptsSize l := by
 have h : l = l.take i ++ l.drop i := (List.take_append_drop i l).symm
 have := congrArg ptsSize h
 rw [ptsSize_app] at this
 omega
theorem ptsSize_mem {l : List Pt} {i : Nat} {x : Pt} (h : l[i]? = some x) : x.size ≤ ptsSize l := by
 have h1 := ptsSize_take h
 have h2 := ptsSize_le l (i + 1)
 omega
mutual
def Pt.small : Pt → Prop
 | .mk _ s g l => s.length ≤ 140737488355328 ∧ g.length ≤ 140737488355328 ∧ ptsSmall l
def ptsSmall : List Pt → Prop
 | [] => True
 | x :: t => x.small ∧ ptsSmall t
end
theorem Pt.small_kids {x : Pt} (h : x.small) : x.set.length ≤ 140737488355328 ∧ x.signs.length ≤ 140737488355328 ∧ ptsSmall x.kids := by
 cases x with
 | mk k s g l => rw [Pt.small] at h; exact h
theorem ptsSmall_mem {l : List Pt} (h : ptsSmall l) {i : Nat} {y : Pt} (hy : l[i]? = some y) : y.small := by
 induction l generalizing i with
 | nil => simp at hy
 | cons z t ih =>
  rw [ptsSmall] at h
  cases i with
  | zero => simp at hy; subst hy; exact h.1
  | succ i => exact ih h.2 (by simpa using hy)
theorem ptsSmall_of {l : List Pt} (h : ∀ x ∈ l, x.small) : ptsSmall l := by
 induction l with
 | nil => rw [ptsSmall]; trivial
 | cons x t ih => rw [ptsSmall]; exact ⟨h x (by simp), ih fun y hy => h y (by simp [hy])⟩

structure RgAt (w : World) (S : Nat → Prop) (A : Option Addr) (n c : Nat) (L : List (Int × Int)) : Prop where
 len : L.length = n
 cap : n ≤ c
 capm : c ≤ maxLen
 at_ : 0 < n → ∃ b off, A = some ⟨b, off, none⟩ ∧ S b ∧ ∀ (j : Nat) (r : Int × Int), L[j]? = some r → w.cell? ⟨b, off + j * 2, none⟩ = some (.int .i64 r.1) ∧ w.cell? ⟨b, off + j * 2 + 1, none⟩ = some (.int .i64 r.2)
structure InAt (w : World) (S : Nat → Prop) (A : Option Addr) (n c : Nat) (L : List Int) : Prop where
 len : L.length = n
 cap : n ≤ c
 capm : c ≤ maxLen
 at_ : 0 < n → ∃ b off, A = some ⟨b, off, none⟩ ∧ S b ∧ ∀ (j : Nat) (x : Int), L[j]? = some x → w.cell? ⟨b, off + j, none⟩ = some (.int .i64 x)
section
variable {w w' : World} {S S' : Nat → Prop} {A : Option Addr} {n c : Nat}
theorem RgAt.keep {L : List (Int × Int)} (h : RgAt w S A n c L) (hS : ∀ b, S b → S' b) (hk : ∀ p : Addr, S p.block → w'.cell? p = w.cell? p) : RgAt w' S' A n c L :=
 ⟨h.len, h.cap, h.capm, fun hn => by
  obtain ⟨b, off, e, hb, hc⟩ := h.at_ hn
  exact ⟨b, off, e, hS b hb, fun j r hr => ⟨(hk ⟨b, _, none⟩ hb).trans (hc j r hr).1, (hk ⟨b, _, none⟩ hb).trans (hc j r hr).2⟩⟩⟩
theorem InAt.keep {L : List Int} (h : InAt w S A n c L) (hS : ∀ b, S b → S' b) (hk : ∀ p : Addr, S p.block → w'.cell? p = w.cell? p) : InAt w' S' A n c L :=
 ⟨h.len, h.cap, h.capm, fun hn => by
  obtain ⟨b, off, e, hb, hc⟩ := h.at_ hn
  exact ⟨b, off, e, hS b hb, fun j r hr => (hk ⟨b, _, none⟩ hb).trans (hc j r hr)⟩⟩
theorem RgAt.nil (w : World) (S : Nat → Prop) : RgAt w S none 0 0 [] := ⟨rfl, Nat.le_refl _, by simp [maxLen], fun h => absurd h (by omega)⟩
theorem InAt.nil (w : World) (S : Nat → Prop) : InAt w S none 0 0 [] := ⟨rfl, Nat.le_refl _, by simp [maxLen], fun h => absurd h (by omega)⟩
theorem RgAt.small {L : List (Int × Int)} (h : RgAt w S A n c L) : n ≤ 9223372036854775807 := by have h1 := h.cap; have h2 := h.capm; unfold maxLen at h2; omega
theorem InAt.small {L : List Int} (h : InAt w S A n c L) : n ≤ 9223372036854775807 := by have h1 := h.cap; have h2 := h.capm; unfold maxLen at h2; omega
theorem RgAt.got {L : List (Int × Int)} (h : RgAt w S A n c L) {k : Nat} (hk : k < n) : ∃ (b off : Nat) (lo hi : Int), A = some ⟨b, off, none⟩ ∧ S b ∧ L[k]? = some (lo, hi) ∧ w.cell? ⟨b, off + k * 2, none⟩ = some (.int .i64 lo) ∧ w.cell? ⟨b, off + k * 2 + 1, none⟩ = some (.int .i64 hi) := by
 have hl : k < L.length := by have := h.len; omega
 obtain ⟨b, off, e, hb, hc⟩ := h.at_ (by omega)
 obtain ⟨h1, h2⟩ := hc k _ (List.getElem?_eq_getElem hl)
 exact ⟨b, off, _, _, e, hb, List.getElem?_eq_getElem hl, h1, h2⟩
theorem InAt.got {L : List Int} (h : InAt w S A n c L) {k : Nat} (hk : k < n) : ∃ (b off : Nat) (x : Int), A = some ⟨b, off, none⟩ ∧ S b ∧ L[k]? = some x ∧ w.cell? ⟨b, off + k, none⟩ = some (.int .i64 x) := by
 have hl : k < L.length := by have := h.len; omega
 obtain ⟨b, off, e, hb, hc⟩ := h.at_ (by omega)
 exact ⟨b, off, _, e, hb, List.getElem?_eq_getElem hl, hc k _ (List.getElem?_eq_getElem hl)⟩
end
def Bl (w : World) (b : Nat) : Prop := b < w.heap.size
theorem RgAt.on {w w' : World} {A : Option Addr} {n c : Nat} {L : List (Int × Int)} (h : RgAt w (Bl w) A n c L) (hb : Below w.heap.size w w') : RgAt w' (Bl w') A n c L :=
 h.keep (fun _ hi => Nat.lt_of_lt_of_le hi hb.size) (fun _ hp => hb.cell hp)
theorem InAt.on {w w' : World} {A : Option Addr} {n c : Nat} {L : List Int} (h : InAt w (Bl w) A n c L) (hb : Below w.heap.size w w') : InAt w' (Bl w') A n c L :=
 h.keep (fun _ hi => Nat.lt_of_lt_of_le hi hb.size) (fun _ hp => hb.cell hp)
theorem InAt.rdk {w : World} {A : Option Addr} {n c : Nat} {L : List Int} (h : InAt w (Bl w) A n c L) : RdK .i64 w w.heap.size A n c L :=
 ⟨h.len, h.cap, h.capm, fun hn => by
  obtain ⟨b, off, e, hb, hc⟩ := h.at_ hn
  exact ⟨b, off, e, hb, hc⟩⟩
theorem RdK.inAt {w : World} {A : Option Addr} {n c : Nat} {L : List Int} (h : RdK .i64 w w.heap.size A n c L) : InAt w (Bl w) A n c L :=
 ⟨h.len, h.cap, h.capm, fun hn => by
  obtain ⟨b, off, e, hb, hc⟩ := h.at_ hn
  exact ⟨b, off, e, hb, hc⟩⟩

inductive PtAt (w : World) (S : Nat → Prop) : List Value → Pt → Prop
 | mk (k : Int) (sA : Option Addr) (sn sc : Nat) (L : List (Int × Int)) (gA : Option Addr) (gn gc : Nat) (G : List Int) (A : Option Addr) (n c : Nat) (kids : List Pt) (cs : Nat → List Value)
   (hs : RgAt w S sA sn sc L) (hg : InAt w S gA gn gc G) (hl : kids.length = n) (hc : n ≤ c) (hm : c ≤ maxLen)
   (hA : 0 < n → ∃ b off, A = some ⟨b, off, none⟩ ∧ S b ∧ ∀ i, i < n → ∀ j u, (cs i)[j]? = some u → w.cell? ⟨b, off + (i * 4 + j), none⟩ = some u)
   (hk : ∀ i x, kids[i]? = some x → PtAt w S (cs i) x) : PtAt w S [.int .i64 k, .slice sA sn sc, .slice gA gn gc, .slice A n c] (.mk k L G kids)
structure RdP (w : World) (S : Nat → Prop) (A : Option Addr) (n c : Nat) (l : List Pt) : Prop where
 len : l.length = n
 cap : n ≤ c
 capm : c ≤ maxLen
 at_ : ∃ cs : Nat → List Value, (0 < n → ∃ b off, A = some ⟨b, off, none⟩ ∧ S b ∧ ∀ i, i < n → ∀ j u, (cs i)[j]? = some u → w.cell? ⟨b, off + (i * 4 + j), none⟩ = some u) ∧ ∀ i x, l[i]? = some x → PtAt w S (cs i) x
structure PtIn (w : World) (S : Nat → Prop) (sA : Option Addr) (sn sc : Nat) (gA : Option Addr) (gn gc : Nat) (A : Option Addr) (n c : Nat) (x : Pt) : Prop where
 set : RgAt w S sA sn sc x.set
 signs : InAt w S gA gn gc x.signs
 kids : RdP w S A n c x.kids
theorem PtAt.of {w : World} {S : Nat → Prop} {sA gA A : Option Addr} {sn sc gn gc n c : Nat} {x : Pt} (h : PtIn w S sA sn sc gA gn gc A n c x) : PtAt w S [.int .i64 x.kind, .slice sA sn sc, .slice gA gn gc, .slice A n c] x := by
 obtain ⟨h1, h2, h3, h4, h5, cs, h6, h7⟩ := h
 cases x with
 | mk k L G l => exact .mk k sA sn sc L gA gn gc G A n c l cs h1 h2 h3 h4 h5 h6 h7
theorem PtAt.inv {w : World} {S : Nat → Prop} {cs : List Value} {x : Pt} (h : PtAt w S cs x) : ∃ (sA : Option Addr) (sn sc : Nat) (gA : Option Addr) (gn gc : Nat) (A : Option Addr) (n c : Nat), cs = [.int .i64 x.kind, .slice sA sn sc, .slice gA gn gc, .slice A n c] ∧ PtIn w S sA sn sc gA gn gc A n c x := by
 cases h with
 | mk k sA sn sc L gA gn gc G A n c kids cs hs hg hl hc hm hA hk => exact ⟨sA, sn, sc, gA, gn, gc, A, n, c, rfl, hs, hg, hl, hc, hm, cs, hA, hk⟩
theorem PtAt.keep {w w' : World} {S S' : Nat → Prop} {cs : List Value} {x : Pt} (h : PtAt w S cs x) (hS : ∀ b, S b → S' b) (hk : ∀ p : Addr, S p.block → w'.cell? p = w.cell? p) : PtAt w' S' cs x := by
 induction h with
 | mk k sA sn sc L gA gn gc G A n c kids cs hs hg hl hc hm hA _ ih =>
  refine .mk k sA sn sc L gA gn gc G A n c kids cs (hs.keep hS hk) (hg.keep hS hk) hl hc hm (fun hn => ?_) ih
  obtain ⟨b, off, e, hb, hcc⟩ := hA hn
  exact ⟨b, off, e, hS b hb, fun i hi j u hu => (hk ⟨b, _, none⟩ hb).trans (hcc i hi j u hu)⟩
section
variable {w w' : World} {S S' : Nat → Prop} {sA gA A : Option Addr} {sn sc gn gc n c : Nat} {l : List Pt} {x : Pt}
theorem RdP.keep (h : RdP w S A n c l) (hS : ∀ b, S b → S' b) (hk : ∀ p : Addr, S p.block → w'.cell? p = w.cell? p) : RdP w' S' A n c l := by
 obtain ⟨h1, h2, h3, cs, h4, h5⟩ := h
 refine ⟨h1, h2, h3, cs, fun hn => ?_, fun i x hx => (h5 i x hx).keep hS hk⟩
 obtain ⟨b, off, e, hb, hcc⟩ := h4 hn
 exact ⟨b, off, e, hS b hb, fun i hi j u hu => (hk ⟨b, _, none⟩ hb).trans (hcc i hi j u hu)⟩
theorem PtIn.keep (h : PtIn w S sA sn sc gA gn gc A n c x) (hS : ∀ b, S b → S' b) (hk : ∀ p : Addr, S p.block → w'.cell? p = w.cell? p) : PtIn w' S' sA sn sc gA gn gc A n c x :=
 ⟨h.set.keep hS hk, h.signs.keep hS hk, h.kids.keep hS hk⟩
theorem PtIn.on (h : PtIn w (Bl w) sA sn sc gA gn gc A n c x) (hb : Below w.heap.size w w') : PtIn w' (Bl w') sA sn sc gA gn gc A n c x :=
 h.keep (fun _ hi => Nat.lt_of_lt_of_le hi hb.size) (fun _ hp => hb.cell hp)
theorem RdP.on (h : RdP w (Bl w) A n c l) (hb : Below w.heap.size w w') : RdP w' (Bl w') A n c l :=
 h.keep (fun _ hi => Nat.lt_of_lt_of_le hi hb.size) (fun _ hp => hb.cell hp)
theorem RdP.nil (w : World) (S : Nat → Prop) : RdP w S none 0 0 [] := ⟨rfl, Nat.le_refl _, by simp [maxLen], fun _ => [], fun h => absurd h (by omega), fun i x hx => by simp at hx⟩
theorem RdP.small (h : RdP w S A n c l) : n ≤ 9223372036854775807 := by have h1 := h.cap; have h2 := h.capm; unfold maxLen at h2; omega
theorem RdP.got (h : RdP w S A n c l) {i : Nat} (hi : i < n) : ∃ (b off : Nat) (x : Pt) (sA' : Option Addr) (sn' sc' : Nat) (gA' : Option Addr) (gn' gc' : Nat) (A' : Option Addr) (n' c' : Nat), A = some ⟨b, off, none⟩ ∧ S b ∧ l[i]? = some x ∧ PtIn w S sA' sn' sc' gA' gn' gc' A' n' c' x ∧
  w.cell? ⟨b, off + i * 4, none⟩ = some (.int .i64 x.kind) ∧ w.cell? ⟨b, off + i * 4 + 1, none⟩ = some (.slice sA' sn' sc') ∧ w.cell? ⟨b, off + i * 4 + 2, none⟩ = some (.slice gA' gn' gc') ∧ w.cell? ⟨b, off + i * 4 + 3, none⟩ = some (.slice A' n' c') := by
 obtain ⟨h1, h2, h3, cs, h4, h5⟩ := h
 obtain ⟨b, off, e, hb, hcc⟩ := h4 (by omega)
 have hx := List.getElem?_eq_getElem (l := l) (i := i) (by omega)
 obtain ⟨sA', sn', sc', gA', gn', gc', A', n', c', e5, hr⟩ := (h5 i _ hx).inv
 have hc := hcc i hi
 rw [e5] at hc
 refine ⟨b, off, l[i]'(by omega), sA', sn', sc', gA', gn', gc', A', n', c', e, hb, hx, hr, ?_, ?_, ?_, ?_⟩
 ·exact hc 0 _ rfl
 ·have := hc 1 _ rfl; rwa [← Nat.add_assoc] at this
 ·have := hc 2 _ rfl; rwa [← Nat.add_assoc] at this
 ·have := hc 3 _ rfl; rwa [← Nat.add_assoc] at this
end
def OwnP (w : World) (B : Nat) (v : Value) (l : List Pt) : Prop := ∃ cs, w.ownsRow B 26 4 v l.length cs ∧ ∀ i x, l[i]? = some x → PtAt w (fun b => b < w.heap.size ∧ v.ownBlock ≠ some b) ((cs.drop (i * 4)).take 4) x
section
variable {w w' : World} {B : Nat} {v : Value} {l : List Pt}
theorem OwnP.nil (w : World) (B : Nat) : OwnP w B (.slice none 0 0) [] := ⟨[], World.ownsRow_nil w B _ 4, fun i x hx => by simp at hx⟩
theorem OwnP.rd (h : OwnP w B v l) : ∃ A c, v = .slice A l.length c ∧ RdP w (Bl w) A l.length c l := by
 obtain ⟨cs, ho, hk⟩ := h
 have hs : ∀ i x, l[i]? = some x → PtAt w (Bl w) ((cs.drop (i * 4)).take 4) x := fun i x hx => (hk i x hx).keep (fun b hb => hb.1) (fun _ _ => rfl)
 rcases ho.2 with ⟨h1, h2⟩ | ⟨g, cap, cur, h1, hB, hg, h3, h4, _, _⟩
 ·subst h1
  have : l = [] := List.eq_nil_of_length_eq_zero h2
  subst this
  exact ⟨none, 0, rfl, RdP.nil _ _⟩
 ·subst h1
  have hlt : g < w.heap.size := by
   rcases Nat.lt_or_ge g w.heap.size with hlt | hge
   ·exact hlt
   ·rw [Array.getElem?_eq_none hge] at hg; cases hg
  refine ⟨_, cap, rfl, rfl, h3, h4, fun i => (cs.drop (i * 4)).take 4, fun _ => ⟨g, 0, rfl, hlt, fun i hi j u hu => ?_⟩, hs⟩
  rw [← kadd_none]
  have hj : j < 4 := by
   have := (List.getElem?_eq_some_iff.1 hu).1; rw [List.length_take] at this; omega
  rw [List.getElem?_take_of_lt hj, List.getElem?_drop] at hu
  exact World.ownsRow.cells ho (g := g) rfl _ _ hu
theorem OwnP.block (h : OwnP w B v l) : ∀ i, v.ownBlock = some i → B ≤ i ∧ i < w.heap.size := by
 obtain ⟨cs, ho, _⟩ := h
 exact World.ownsRow.lt ho
theorem prow_keep {e : TypeId} {k m : Nat} {cs : List Value} (h : w.ownsRow B e k v m cs) (hb : ∀ i, B ≤ i → i < w.heap.size → v.ownBlock = some i → w'.heap[i]? = w.heap[i]?) : w'.ownsRow B e k v m cs := by
 refine ⟨h.1, ?_⟩
 rcases h.2 with h2 | ⟨g, cap, cur, h1, hB, hg, h3⟩
 ·exact .inl h2
 ·have hlt : g < w.heap.size := by
   rcases Nat.lt_or_ge g w.heap.size with hlt | hge
   ·exact hlt
   ·rw [Array.getElem?_eq_none hge] at hg; cases hg
  exact .inr ⟨g, cap, cur, h1, hB, (hb g hB hlt (by subst h1; rfl)).trans hg, h3⟩
theorem OwnP.on (h : OwnP w B v l) (hb : Below w.heap.size w w') : OwnP w' B v l := by
 obtain ⟨cs, ho, hk⟩ := h
 exact ⟨cs, prow_keep ho fun i _ h2 _ => hb.block i h2, fun i x hx => (hk i x hx).keep (fun b hb2 => ⟨Nat.lt_of_lt_of_le hb2.1 hb.size, hb2.2⟩) (fun p hp => hb.cell hp.1)⟩
theorem OwnP.push {v' : Value} {ns cs : List Value} {x : Pt} (hk : ∀ i x, l[i]? = some x → PtAt w (fun b => b < w.heap.size ∧ v.ownBlock ≠ some b) ((cs.drop (i * 4)).take 4) x) (hcl : cs.length = l.length * 4)
  (hx : PtAt w (fun b => b < w.heap.size ∧ v.ownBlock ≠ some b) ns x) (hn : ns.length = 4) (ho : w'.ownsRow B 26 4 v' (l.length + 1) (cs ++ ns)) (hg : w.grownBy w' v.ownBlock) (hat : v'.ownBlock = v.ownBlock ∨ v'.ownBlock = some w.heap.size) : OwnP w' B v' (l ++ [x]) := by
 have hS : ∀ b, (b < w.heap.size ∧ v.ownBlock ≠ some b) → b < w'.heap.size ∧ v'.ownBlock ≠ some b := fun b ⟨h2, h3⟩ => ⟨Nat.lt_of_lt_of_le h2 hg.size, by
  rcases hat with e | e
  ·rw [e]; exact h3
  ·rw [e]; intro e2; injection e2 with e2; omega⟩
 have hc : ∀ p : Addr, (p.block < w.heap.size ∧ v.ownBlock ≠ some p.block) → w'.cell? p = w.cell? p := fun p ⟨h2, h3⟩ => World.cell?_of_block (hg.block p.block h2 (fun e => h3 e.symm))
 refine ⟨cs ++ ns, by simpa using ho, fun i y hy => ?_⟩
 rcases Nat.lt_or_ge i l.length with hi | hi
 ·rw [List.getElem?_append_left hi] at hy
  have := (hk i y hy).keep hS hc
  rw [List.drop_append_of_le_length (by omega), List.take_append_of_le_length (by rw [List.length_drop]; omega)]
  exact this
 ·have hil : i = l.length := by
   have := (List.getElem?_eq_some_iff.1 hy).1; simp at this; omega
  subst hil
  rw [List.getElem?_append_right (Nat.le_refl _), Nat.sub_self] at hy
  simp at hy
  subst hy
  rw [List.drop_append, List.drop_eq_nil_of_le (by omega), List.nil_append, hcl, Nat.sub_self, List.drop_zero, List.take_of_length_le (by omega)]
  exact hx.keep hS hc
end
end Go.Proofs.Ytpllgfhocedgmaa
namespace Go.Proofs.Ytpllgfhocedgmaa
open Go.RowKit

def manyT (y : Pt) : Pt := .mk 5 [] [] [y]
inductive Sq (st : Nat → Int → Nat → Prop) (rw : List Pt → List Pt) : List Pt → Nat → Nat → Prop
 | nil (a : Nat) : Sq st rw [] a a
 | emp {x : Pt} {κ : List Pt} {a b : Nat} (hk : x.kind = 1) (h : Sq st rw κ a b) : Sq st rw (x :: κ) a b
 | set {x : Pt} {κ : List Pt} {a c b : Nat} {s : Int} (hk : x.kind = 2) (hs : s ∈ x.signs) (ha : st a s c) (h : Sq st rw κ c b) : Sq st rw (x :: κ) a b
 | join {x : Pt} {κ : List Pt} {a b : Nat} (hk : x.kind = 3) (h : Sq st rw (rw x.kids ++ κ) a b) : Sq st rw (x :: κ) a b
 | or {x y : Pt} {κ : List Pt} {a b : Nat} (hk : x.kind = 4) (hy : y ∈ x.kids) (h : Sq st rw (y :: κ) a b) : Sq st rw (x :: κ) a b
 | starN {x y : Pt} {κ : List Pt} {a b : Nat} (hk : x.kind = 5) (hy : x.kids = [y]) (h : Sq st rw κ a b) : Sq st rw (x :: κ) a b
 | starY {x y : Pt} {κ : List Pt} {a b : Nat} (hk : x.kind = 5) (hy : x.kids = [y]) (h : Sq st rw (y :: manyT y :: κ) a b) : Sq st rw (x :: κ) a b
 | plus {x y : Pt} {κ : List Pt} {a b : Nat} (hk : x.kind = 6) (hy : x.kids = [y]) (h : Sq st rw (y :: manyT y :: κ) a b) : Sq st rw (x :: κ) a b
 | mayN {x y : Pt} {κ : List Pt} {a b : Nat} (hk : x.kind = 7) (hy : x.kids = [y]) (h : Sq st rw κ a b) : Sq st rw (x :: κ) a b
 | mayY {x y : Pt} {κ : List Pt} {a b : Nat} (hk : x.kind = 7) (hy : x.kids = [y]) (h : Sq st rw (y :: κ) a b) : Sq st rw (x :: κ) a b
section
variable {st : Nat → Int → Nat → Prop} {rw : List Pt → List Pt}
theorem Sq.nil_iff {a b : Nat} : Sq st rw [] a b ↔ a = b := ⟨fun h => by cases h; rfl, fun h => h ▸ .nil a⟩
theorem Sq.app {κ κ' : List Pt} {a m b : Nat} (h : Sq st rw κ a m) (h' : Sq st rw κ' m b) : Sq st rw (κ ++ κ') a b := by
 induction h with
 | nil a => exact h'
 | emp hk _ ih => exact .emp hk (ih h')
 | set hk hs ha _ ih => exact .set hk hs ha (ih h')
 | join hk _ ih =>
  have := ih h'
  rw [List.append_assoc] at this
  exact .join hk this
 | or hk hy _ ih => exact .or hk hy (ih h')
 | starN hk hy _ ih => exact .starN hk hy (ih h')
 | starY hk hy _ ih => exact .starY hk hy (ih h')
 | plus hk hy _ ih => exact .plus hk hy (ih h')
 | mayN hk hy _ ih => exact .mayN hk hy (ih h')
 | mayY hk hy _ ih => exact .mayY hk hy (ih h')
theorem Sq.parts {κ : List Pt} {a b : Nat} (h : Sq st rw κ a b) : ∀ {κ1 κ2 : List Pt}, κ = κ1 ++ κ2 → ∃ m, Sq st rw κ1 a m ∧ Sq st rw κ2 m b := by
 induction h with
 | nil a =>
  intro κ1 κ2 e
  obtain ⟨rfl, rfl⟩ := List.append_eq_nil_iff.1 e.symm
  exact ⟨a, .nil a, .nil a⟩
 | @emp x κ a b hk h ih =>
  intro κ1 κ2 e
  cases κ1 with
  | nil => exact ⟨a, .nil a, by rw [List.nil_append] at e; rw [← e]; exact .emp hk h⟩
  | cons z t =>
   obtain ⟨rfl, e2⟩ := List.cons.inj e
   obtain ⟨m, h1, h2⟩ := ih (κ1 := t) (κ2 := κ2) e2
   exact ⟨m, .emp hk h1, h2⟩
 | @set x κ a c b s hk hs ha h ih =>
  intro κ1 κ2 e
  cases κ1 with
  | nil => exact ⟨a, .nil a, by rw [List.nil_append] at e; rw [← e]; exact .set hk hs ha h⟩
  | cons z t =>
   obtain ⟨rfl, e2⟩ := List.cons.inj e
   obtain ⟨m, h1, h2⟩ := ih (κ1 := t) (κ2 := κ2) e2
   exact ⟨m, .set hk hs ha h1, h2⟩
 | @join x κ a b hk h ih =>
  intro κ1 κ2 e
  cases κ1 with
  | nil => exact ⟨a, .nil a, by rw [List.nil_append] at e; rw [← e]; exact .join hk h⟩
  | cons z t =>
   obtain ⟨rfl, e2⟩ := List.cons.inj e
   replace e2 : κ = t ++ κ2 := e2
   obtain ⟨m, h1, h2⟩ := ih (κ1 := rw x.kids ++ t) (κ2 := κ2) (by rw [e2, List.append_assoc])
   exact ⟨m, .join hk h1, h2⟩
 | @or x y κ a b hk hy h ih =>
  intro κ1 κ2 e
  cases κ1 with
  | nil => exact ⟨a, .nil a, by rw [List.nil_append] at e; rw [← e]; exact .or hk hy h⟩
  | cons z t =>
   obtain ⟨rfl, e2⟩ := List.cons.inj e
   replace e2 : κ = t ++ κ2 := e2
   obtain ⟨m, h1, h2⟩ := ih (κ1 := y :: t) (κ2 := κ2) (by rw [e2]; rfl)
   exact ⟨m, .or hk hy h1, h2⟩
 | @starN x y κ a b hk hy h ih =>
  intro κ1 κ2 e
  cases κ1 with
  | nil => exact ⟨a, .nil a, by rw [List.nil_append] at e; rw [← e]; exact .starN hk hy h⟩
  | cons z t =>
   obtain ⟨rfl, e2⟩ := List.cons.inj e
   obtain ⟨m, h1, h2⟩ := ih (κ1 := t) (κ2 := κ2) e2
   exact ⟨m, .starN hk hy h1, h2⟩
 | @starY x y κ a b hk hy h ih =>
  intro κ1 κ2 e
  cases κ1 with
  | nil => exact ⟨a, .nil a, by rw [List.nil_append] at e; rw [← e]; exact .starY hk hy h⟩
  | cons z t =>
   obtain ⟨rfl, e2⟩ := List.cons.inj e
   replace e2 : κ = t ++ κ2 := e2
   obtain ⟨m, h1, h2⟩ := ih (κ1 := y :: manyT y :: t) (κ2 := κ2) (by rw [e2]; rfl)
   exact ⟨m, .starY hk hy h1, h2⟩
 | @plus x y κ a b hk hy h ih =>
  intro κ1 κ2 e
  cases κ1 with
  | nil => exact ⟨a, .nil a, by rw [List.nil_append] at e; rw [← e]; exact .plus hk hy h⟩
  | cons z t =>
   obtain ⟨rfl, e2⟩ := List.cons.inj e
   replace e2 : κ = t ++ κ2 := e2
   obtain ⟨m, h1, h2⟩ := ih (κ1 := y :: manyT y :: t) (κ2 := κ2) (by rw [e2]; rfl)
   exact ⟨m, .plus hk hy h1, h2⟩
 | @mayN x y κ a b hk hy h ih =>
  intro κ1 κ2 e
  cases κ1 with
  | nil => exact ⟨a, .nil a, by rw [List.nil_append] at e; rw [← e]; exact .mayN hk hy h⟩
  | cons z t =>
   obtain ⟨rfl, e2⟩ := List.cons.inj e
   obtain ⟨m, h1, h2⟩ := ih (κ1 := t) (κ2 := κ2) e2
   exact ⟨m, .mayN hk hy h1, h2⟩
 | @mayY x y κ a b hk hy h ih =>
  intro κ1 κ2 e
  cases κ1 with
  | nil => exact ⟨a, .nil a, by rw [List.nil_append] at e; rw [← e]; exact .mayY hk hy h⟩
  | cons z t =>
   obtain ⟨rfl, e2⟩ := List.cons.inj e
   replace e2 : κ = t ++ κ2 := e2
   obtain ⟨m, h1, h2⟩ := ih (κ1 := y :: t) (κ2 := κ2) (by rw [e2]; rfl)
   exact ⟨m, .mayY hk hy h1, h2⟩
theorem Sq.two {x y : Pt} {a b : Nat} : Sq st rw [x, y] a b ↔ ∃ m, Sq st rw [x] a m ∧ Sq st rw [y] m b :=
 ⟨fun h => h.parts (κ1 := [x]) (κ2 := [y]) rfl, fun ⟨_, h1, h2⟩ => h1.app h2⟩
theorem Sq.turn {st' : Nat → Int → Nat → Prop} {rw' : List Pt → List Pt} {f : Pt → Pt} {g : Nat → Nat} {I : Nat → Prop} {κ : List Pt} {a b : Nat}
  (h : Sq st rw κ a b) (fk : ∀ x, (f x).kind = x.kind) (fs : ∀ x, (f x).signs = x.signs) (fl : ∀ x, x.kind ≠ 3 → (f x).kids = x.kids.map f) (fj : ∀ x, x.kind = 3 → rw' (f x).kids = (rw x.kids).map f) (fm : ∀ y, f (manyT y) = manyT (f y))
  (hI : ∀ a s c, I a → st a s c → I c) (hst : ∀ a s c, I a → st a s c → st' (g a) s (g c)) (ha : I a) : Sq st' rw' (κ.map f) (g a) (g b) ∧ I b := by
 induction h with
 | nil a => exact ⟨.nil _, ha⟩
 | emp hk _ ih => exact ⟨.emp ((fk _).trans hk) (ih ha).1, (ih ha).2⟩
 | set hk hs h1 _ ih => exact ⟨.set ((fk _).trans hk) (by rw [fs]; exact hs) (hst _ _ _ ha h1) (ih (hI _ _ _ ha h1)).1, (ih (hI _ _ _ ha h1)).2⟩
 | @join x κ a b hk _ ih =>
  have := (ih ha).1
  rw [List.map_append, ← fj x hk] at this
  exact ⟨.join ((fk _).trans hk) this, (ih ha).2⟩
 | @or x y κ a b hk hy _ ih => exact ⟨.or ((fk _).trans hk) (by rw [fl x (by omega)]; exact List.mem_map_of_mem hy) (ih ha).1, (ih ha).2⟩
 | @starN x y κ a b hk hy _ ih => exact ⟨.starN (y := f y) ((fk _).trans hk) (by rw [fl x (by omega), hy]; rfl) (ih ha).1, (ih ha).2⟩
 | @starY x y κ a b hk hy _ ih =>
  have := (ih ha).1
  rw [List.map_cons, List.map_cons, fm] at this
  exact ⟨.starY (y := f y) ((fk _).trans hk) (by rw [fl x (by omega), hy]; rfl) this, (ih ha).2⟩
 | @plus x y κ a b hk hy _ ih =>
  have := (ih ha).1
  rw [List.map_cons, List.map_cons, fm] at this
  exact ⟨.plus (y := f y) ((fk _).trans hk) (by rw [fl x (by omega), hy]; rfl) this, (ih ha).2⟩
 | @mayN x y κ a b hk hy _ ih => exact ⟨.mayN (y := f y) ((fk _).trans hk) (by rw [fl x (by omega), hy]; rfl) (ih ha).1, (ih ha).2⟩
 | @mayY x y κ a b hk hy _ ih => exact ⟨.mayY (y := f y) ((fk _).trans hk) (by rw [fl x (by omega), hy]; rfl) (ih ha).1, (ih ha).2⟩
end
def fwd (l : List Int) (a : Nat) (s : Int) (c : Nat) : Prop := l[a]? = some s ∧ c = a + 1
def bwd (l : List Int) (a : Nat) (s : Int) (c : Nat) : Prop := a = c + 1 ∧ l[c]? = some s
def stp (back : Bool) (l : List Int) : Nat → Int → Nat → Prop := if back then bwd l else fwd l
def rwd (back : Bool) (ks : List Pt) : List Pt := if back then ks.reverse else ks
def Mt (l : List Int) (x : Pt) (a b : Nat) : Prop := Sq (fwd l) id [x] a b
theorem Sq.up {l : List Int} {κ : List Pt} {a b : Nat} (h : Sq (fwd l) id κ a b) : a ≤ b ∧ (b = a ∨ b ≤ l.length) := by
 induction h with
 | nil a => omega
 | set hk hs ha _ ih =>
  obtain ⟨h1, rfl⟩ := ha
  have := (List.getElem?_eq_some_iff.1 h1).1
  omega
 | _ => assumption
theorem Sq.take {l : List Int} {κ : List Pt} {a b n : Nat} (h : Sq (fwd l) id κ a b) (hb : b ≤ n) : Sq (fwd (l.take n)) id κ a b := by
 induction h with
 | nil a => exact .nil a
 | emp hk _ ih => exact .emp hk (ih hb)
 | @set x κ a c b s hk hs ha h ih =>
  obtain ⟨h1, rfl⟩ := ha
  have hu := h.up.1
  have hl : a < n := by omega
  exact .set hk hs ⟨by rw [List.getElem?_take, if_pos hl]; exact h1, rfl⟩ (ih hb)
 | join hk _ ih => exact .join hk (ih hb)
 | or hk hy _ ih => exact .or hk hy (ih hb)
 | starN hk hy _ ih => exact .starN hk hy (ih hb)
 | starY hk hy _ ih => exact .starY hk hy (ih hb)
 | plus hk hy _ ih => exact .plus hk hy (ih hb)
 | mayN hk hy _ ih => exact .mayN hk hy (ih hb)
 | mayY hk hy _ ih => exact .mayY hk hy (ih hb)
theorem map_idf (l : List Pt) : l.map (fun x => x) = l := by simp
theorem Sq.same {st st' : Nat → Int → Nat → Prop} {rw : List Pt → List Pt} {g : Nat → Nat} {I : Nat → Prop} {κ : List Pt} {a b : Nat} (h : Sq st rw κ a b) (hI : ∀ a s c, I a → st a s c → I c) (hst : ∀ a s c, I a → st a s c → st' (g a) s (g c)) (ha : I a) : Sq st' rw κ (g a) (g b) := by
 have := (h.turn (f := fun x => x) (rw' := rw) (g := g) (st' := st') (fun _ => rfl) (fun _ => rfl) (fun _ _ => (map_idf _).symm) (fun _ _ => (map_idf _).symm) (fun _ => rfl) hI hst ha).1
 rwa [map_idf] at this
theorem Sq.untake {l : List Int} {κ : List Pt} {a b n : Nat} (h : Sq (fwd (l.take n)) id κ a b) : Sq (fwd l) id κ a b :=
 h.same (g := id) (I := fun _ => True) (fun _ _ _ _ _ => trivial) (fun a s c _ h => ⟨by have h1 := h.1; rw [List.getElem?_take] at h1; split at h1 <;> simp_all, h.2⟩) trivial
theorem Mt.take_iff {l : List Int} {x : Pt} {a b n : Nat} (hb : b ≤ n) : Mt (l.take n) x a b ↔ Mt l x a b := ⟨Sq.untake, fun h => Sq.take h hb⟩
theorem Mt.plus {l : List Int} {x : Pt} {s : List (Int × Int)} {g : List Int} {a b : Nat} : Mt l (.mk 6 s g [x]) a b ↔ Sq (fwd l) id [x, manyT x] a b := by
 constructor
 ·intro h
  cases h with
  | plus hk hy h =>
   obtain rfl : x = _ := (List.cons.inj hy).1
   exact h
  | emp hk h | set hk _ _ h | join hk h | or hk _ h | starN hk _ h | starY hk _ h | mayN hk _ h | mayY hk _ h => cases hk
 ·intro h
  exact Sq.plus (y := x) rfl rfl h
theorem Mt.star {l : List Int} {x : Pt} {s : List (Int × Int)} {g : List Int} {a b : Nat} : Mt l (.mk 5 s g [x]) a b ↔ a = b ∨ Sq (fwd l) id [x, manyT x] a b := by
 constructor
 ·intro h
  cases h with
  | starN hk hy h => exact .inl (Sq.nil_iff.1 h)
  | starY hk hy h =>
   obtain rfl : x = _ := (List.cons.inj hy).1
   exact .inr h
  | emp hk h | set hk _ _ h | join hk h | or hk _ h | plus hk _ h | mayN hk _ h | mayY hk _ h => cases hk
 ·rintro (rfl | h)
  ·exact Sq.starN (y := x) rfl rfl (.nil _)
  ·exact Sq.starY (y := x) rfl rfl h
def Pt.turn : Pt → Pt
 | .mk k s g l => .mk k s g (if k = 3 then (turnAll l).reverse else turnAll l)
where turnAll : List Pt → List Pt
 | [] => []
 | x :: t => x.turn :: turnAll t
theorem turnAll_map (l : List Pt) : Pt.turn.turnAll l = l.map Pt.turn := by
 induction l with
 | nil => rfl
 | cons x t ih => rw [Pt.turn.turnAll, ih]; rfl
theorem Pt.turn_eq (x : Pt) : x.turn = .mk x.kind x.set x.signs (if x.kind = 3 then (x.kids.map Pt.turn).reverse else x.kids.map Pt.turn) := by
 cases x with
 | mk k s g l => rw [Pt.turn, turnAll_map]; rfl
theorem Pt.turn_kind (x : Pt) : x.turn.kind = x.kind := by rw [Pt.turn_eq]; rfl
theorem Pt.turn_signs (x : Pt) : x.turn.signs = x.signs := by rw [Pt.turn_eq]; rfl
theorem Pt.turn_set (x : Pt) : x.turn.set = x.set := by rw [Pt.turn_eq]; rfl
theorem Pt.turn_kids (x : Pt) : x.turn.kids = if x.kind = 3 then (x.kids.map Pt.turn).reverse else x.kids.map Pt.turn := by rw [Pt.turn_eq]; rfl
theorem Pt.eta (x : Pt) : Pt.mk x.kind x.set x.signs x.kids = x := by cases x; rfl
theorem Pt.turn_turn : ∀ (n : Nat) (x : Pt), x.size ≤ n → x.turn.turn = x := by
 intro n
 induction n with
 | zero => intro x h; have := x.size_pos; omega
 | succ n ih =>
  intro x h
  have hm : ∀ y ∈ x.kids, y.turn.turn = y := fun y hy => by
   obtain ⟨i, hi⟩ := List.getElem?_of_mem hy
   have h1 := ptsSize_mem hi
   have h2 := x.size_kids
   exact ih y (by omega)
  have he : (x.kids.map Pt.turn).map Pt.turn = x.kids := by
   rw [List.map_map]
   conv => rhs; rw [← List.map_id x.kids]
   exact List.map_congr_left fun y hy => hm y hy
  rw [Pt.turn_eq x.turn, Pt.turn_kind, Pt.turn_set, Pt.turn_signs, Pt.turn_kids]
  by_cases hk : x.kind = 3
  ·rw [if_pos hk, if_pos hk, List.map_reverse, List.reverse_reverse, he, Pt.eta]
  ·rw [if_neg hk, if_neg hk, he, Pt.eta]
theorem turn_many (y : Pt) : (manyT y).turn = manyT y.turn := by rw [Pt.turn_eq]; rfl
theorem Sq.back {l : List Int} {x : Pt} {a b : Nat} (ha : a ≤ l.length) (h : Mt l x a b) : Sq (bwd l.reverse) List.reverse [x.turn] (l.length - a) (l.length - b) := by
 have h1 := (Sq.turn (st' := bwd l.reverse) (rw' := List.reverse) (f := Pt.turn) (g := fun i => l.length - i) (I := fun i => i ≤ l.length) h Pt.turn_kind Pt.turn_signs (fun x hk => by rw [Pt.turn_kids, if_neg hk]) (fun x hk => by rw [Pt.turn_kids, if_pos hk, List.reverse_reverse]; rfl) turn_many
  (fun a s c hi h => by have h1 := h.1; have := (List.getElem?_eq_some_iff.1 h1).1; have := h.2; omega)
  (fun a s c hi h => by
   obtain ⟨h1, rfl⟩ := h
   have h2 := (List.getElem?_eq_some_iff.1 h1).1
   refine ⟨by omega, ?_⟩
   rw [List.getElem?_reverse (by omega), show l.length - 1 - (l.length - (a + 1)) = a by omega]
   exact h1) ha).1
 exact h1
theorem Sq.down {l : List Int} {κ : List Pt} {rw : List Pt → List Pt} {a b : Nat} (h : Sq (bwd l) rw κ a b) : b ≤ a := by
 induction h with
 | nil a => omega
 | set hk hs ha _ ih =>
  obtain ⟨rfl, h1⟩ := ha
  omega
 | _ => assumption
theorem Sq.unback {l : List Int} {x : Pt} {a b : Nat} (ha : a ≤ l.length) (h : Sq (bwd l.reverse) List.reverse [x.turn] a b) : Mt l x (l.length - a) (l.length - b) := by
 have h1 := (Sq.turn (st' := fwd l) (rw' := id) (f := Pt.turn) (g := fun i => l.length - i) (I := fun i => i ≤ l.length) h Pt.turn_kind Pt.turn_signs (fun x hk => by rw [Pt.turn_kids, if_neg hk]) (fun x hk => by rw [Pt.turn_kids, if_pos hk, List.map_reverse]; rfl) turn_many
  (fun a s c hi h => by obtain ⟨rfl, h1⟩ := h; omega)
  (fun a s c hi h => by
   obtain ⟨rfl, h1⟩ := h
   have h2 := (List.getElem?_eq_some_iff.1 h1).1
   rw [List.length_reverse] at h2
   refine ⟨?_, by omega⟩
   rw [List.getElem?_reverse h2] at h1
   rw [show l.length - (c + 1) = l.length - 1 - c by omega]
   exact h1) ha).1
 rw [List.map_singleton, Pt.turn_turn _ _ (Nat.le_refl _)] at h1
 exact h1
end Go.Proofs.Ytpllgfhocedgmaa
namespace Go.Proofs.Ytpllgfhocedgmaa
open Go.RowKit

structure Rdr (α : Type) where
 k : Nat
 at_ : World → (Nat → Prop) → List Value → α → Prop
 len : ∀ {w S cs x}, at_ w S cs x → cs.length = k
 one : ∀ {w S cs x}, at_ w S cs x → ∀ u ∈ cs, u.oneCell' = true
 keep : ∀ {w w' : World} {S S' : Nat → Prop} {cs x}, at_ w S cs x → (∀ b, S b → S' b) → (∀ p : Addr, S p.block → w'.cell? p = w.cell? p) → at_ w' S' cs x
structure RdG {α : Type} (D : Rdr α) (w : World) (S : Nat → Prop) (A : Option Addr) (n c : Nat) (l : List α) : Prop where
 len : l.length = n
 cap : n ≤ c
 capm : c ≤ maxLen
 at_ : ∃ cs : Nat → List Value, (0 < n → ∃ b off, A = some ⟨b, off, none⟩ ∧ S b ∧ ∀ i, i < n → ∀ j u, (cs i)[j]? = some u → w.cell? ⟨b, off + (i * D.k + j), none⟩ = some u) ∧ ∀ i x, l[i]? = some x → D.at_ w S (cs i) x
def OwnG {α : Type} (D : Rdr α) (e : TypeId) (w : World) (B : Nat) (v : Value) (l : List α) : Prop := ∃ cs, w.ownsRow B e D.k v l.length cs ∧ ∀ i x, l[i]? = some x → D.at_ w (fun b => b < w.heap.size ∧ v.ownBlock ≠ some b) ((cs.drop (i * D.k)).take D.k) x
section
variable {α : Type} {D : Rdr α} {w w' : World} {S S' : Nat → Prop} {A : Option Addr} {n c : Nat} {l : List α} {B : Nat} {v : Value} {e : TypeId}
theorem RdG.keep (h : RdG D w S A n c l) (hS : ∀ b, S b → S' b) (hk : ∀ p : Addr, S p.block → w'.cell? p = w.cell? p) : RdG D w' S' A n c l := by
 obtain ⟨h1, h2, h3, cs, h4, h5⟩ := h
 refine ⟨h1, h2, h3, cs, fun hn => ?_, fun i x hx => D.keep (h5 i x hx) hS hk⟩
 obtain ⟨b, off, e, hb, hcc⟩ := h4 hn
 exact ⟨b, off, e, hS b hb, fun i hi j u hu => (hk ⟨b, _, none⟩ hb).trans (hcc i hi j u hu)⟩
theorem RdG.on (h : RdG D w (Bl w) A n c l) (hb : Below w.heap.size w w') : RdG D w' (Bl w') A n c l :=
 h.keep (fun _ hi => Nat.lt_of_lt_of_le hi hb.size) (fun _ hp => hb.cell hp)
theorem RdG.nil (D : Rdr α) (w : World) (S : Nat → Prop) : RdG D w S none 0 0 [] := ⟨rfl, Nat.le_refl _, by simp [maxLen], fun _ => [], fun h => absurd h (by omega), fun i x hx => by simp at hx⟩
theorem RdG.small (h : RdG D w S A n c l) : n ≤ 9223372036854775807 := by have h1 := h.cap; have h2 := h.capm; unfold maxLen at h2; omega
theorem RdG.got (h : RdG D w S A n c l) {i : Nat} (hi : i < n) : ∃ (b off : Nat) (x : α) (cs : List Value), A = some ⟨b, off, none⟩ ∧ S b ∧ l[i]? = some x ∧ D.at_ w S cs x ∧ ∀ j u, cs[j]? = some u → w.cell? ⟨b, off + i * D.k + j, none⟩ = some u := by
 obtain ⟨h1, h2, h3, cs, h4, h5⟩ := h
 obtain ⟨b, off, e, hb, hcc⟩ := h4 (by omega)
 have hx := List.getElem?_eq_getElem (l := l) (i := i) (by omega)
 exact ⟨b, off, l[i]'(by omega), cs i, e, hb, hx, h5 i _ hx, fun j u hu => by rw [Nat.add_assoc]; exact hcc i hi j u hu⟩
theorem RdG.take (h : RdG D w S A n c l) {m : Nat} (hm : m ≤ n) : RdG D w S A m c (l.take m) := by
 obtain ⟨h1, h2, h3, cs, h4, h5⟩ := h
 refine ⟨by rw [List.length_take]; omega, by omega, h3, cs, fun hm0 => ?_, fun i x hx => h5 i x ?_⟩
 ·obtain ⟨b, off, e, hb, hcc⟩ := h4 (by omega)
  exact ⟨b, off, e, hb, fun i hi => hcc i (by omega)⟩
 ·have hi : i < m := by have := (List.getElem?_eq_some_iff.1 hx).1; rw [List.length_take] at this; omega
  rwa [List.getElem?_take_of_lt hi] at hx
theorem OwnG.nil (D : Rdr α) (e : TypeId) (w : World) (B : Nat) : OwnG D e w B (.slice none 0 0) [] := ⟨[], World.ownsRow_nil w B e D.k, fun i x hx => by simp at hx⟩
theorem OwnG.rd (h : OwnG D e w B v l) : ∃ A c, v = .slice A l.length c ∧ RdG D w (Bl w) A l.length c l := by
 obtain ⟨cs, ho, hk⟩ := h
 have hs : ∀ i x, l[i]? = some x → D.at_ w (Bl w) ((cs.drop (i * D.k)).take D.k) x := fun i x hx => D.keep (hk i x hx) (fun b hb => hb.1) (fun _ _ => rfl)
 rcases ho.2 with ⟨h1, h2⟩ | ⟨g, cap, cur, h1, hB, hg, h3, h4, _, _⟩
 ·subst h1
  have : l = [] := List.eq_nil_of_length_eq_zero h2
  subst this
  exact ⟨none, 0, rfl, RdG.nil _ _ _⟩
 ·subst h1
  have hlt : g < w.heap.size := by
   rcases Nat.lt_or_ge g w.heap.size with hlt | hge
   ·exact hlt
   ·rw [Array.getElem?_eq_none hge] at hg; cases hg
  refine ⟨_, cap, rfl, rfl, h3, h4, fun i => (cs.drop (i * D.k)).take D.k, fun _ => ⟨g, 0, rfl, hlt, fun i hi j u hu => ?_⟩, hs⟩
  rw [← kadd_none]
  have hj : j < D.k := by
   have := (List.getElem?_eq_some_iff.1 hu).1; rw [List.length_take] at this; omega
  rw [List.getElem?_take_of_lt hj, List.getElem?_drop] at hu
  exact World.ownsRow.cells ho (g := g) rfl _ _ hu
theorem OwnG.block (h : OwnG D e w B v l) : ∀ i, v.ownBlock = some i → B ≤ i ∧ i < w.heap.size := by
 obtain ⟨cs, ho, _⟩ := h
 exact World.ownsRow.lt ho
theorem OwnG.on (h : OwnG D e w B v l) (hb : Below w.heap.size w w') : OwnG D e w' B v l := by
 obtain ⟨cs, ho, hk⟩ := h
 exact ⟨cs, prow_keep ho fun i _ h2 _ => hb.block i h2, fun i x hx => D.keep (hk i x hx) (fun b hb2 => ⟨Nat.lt_of_lt_of_le hb2.1 hb.size, hb2.2⟩) (fun p hp => hb.cell hp.1)⟩
theorem OwnG.push {v' : Value} {ns cs : List Value} {x : α} (hk : ∀ i x, l[i]? = some x → D.at_ w (fun b => b < w.heap.size ∧ v.ownBlock ≠ some b) ((cs.drop (i * D.k)).take D.k) x) (hcl : cs.length = l.length * D.k)
  (hx : D.at_ w (fun b => b < w.heap.size ∧ v.ownBlock ≠ some b) ns x) (ho : w'.ownsRow B e D.k v' (l.length + 1) (cs ++ ns)) (hg : w.grownBy w' v.ownBlock) (hat : v'.ownBlock = v.ownBlock ∨ v'.ownBlock = some w.heap.size) : OwnG D e w' B v' (l ++ [x]) := by
 have hn := D.len hx
 have hS : ∀ b, (b < w.heap.size ∧ v.ownBlock ≠ some b) → b < w'.heap.size ∧ v'.ownBlock ≠ some b := fun b ⟨h2, h3⟩ => ⟨Nat.lt_of_lt_of_le h2 hg.size, by
  rcases hat with e | e
  ·rw [e]; exact h3
  ·rw [e]; intro e2; injection e2 with e2; omega⟩
 have hc : ∀ p : Addr, (p.block < w.heap.size ∧ v.ownBlock ≠ some p.block) → w'.cell? p = w.cell? p := fun p ⟨h2, h3⟩ => World.cell?_of_block (hg.block p.block h2 (fun e => h3 e.symm))
 refine ⟨cs ++ ns, by simpa using ho, fun i y hy => ?_⟩
 rcases Nat.lt_or_ge i l.length with hi | hi
 ·rw [List.getElem?_append_left hi] at hy
  have := D.keep (hk i y hy) hS hc
  have hle : i * D.k + D.k ≤ cs.length := by rw [hcl, ← Nat.succ_mul]; exact Nat.mul_le_mul_right _ hi
  rw [List.drop_append_of_le_length (by omega), List.take_append_of_le_length (by rw [List.length_drop]; omega)]
  exact this
 ·have hil : i = l.length := by
   have := (List.getElem?_eq_some_iff.1 hy).1; simp at this; omega
  subst hil
  rw [List.getElem?_append_right (Nat.le_refl _), Nat.sub_self] at hy
  simp at hy
  subst hy
  rw [List.drop_append, List.drop_eq_nil_of_le (by omega), List.nil_append, hcl, Nat.sub_self, List.drop_zero, List.take_of_length_le (by omega)]
  exact D.keep hx hS hc
end
theorem PtAt.len {w : World} {S : Nat → Prop} {cs : List Value} {x : Pt} (h : PtAt w S cs x) : cs.length = 4 := by
 obtain ⟨_, _, _, _, _, _, _, _, _, rfl, _⟩ := h.inv; rfl
theorem PtAt.one {w : World} {S : Nat → Prop} {cs : List Value} {x : Pt} (h : PtAt w S cs x) : ∀ u ∈ cs, u.oneCell' = true := by
 obtain ⟨_, _, _, _, _, _, _, _, _, rfl, _⟩ := h.inv
 intro u hu
 simp only [List.mem_cons, List.not_mem_nil, or_false] at hu
 rcases hu with rfl | rfl | rfl | rfl <;> rfl
def ptD : Rdr Pt := ⟨4, PtAt, PtAt.len, PtAt.one, PtAt.keep⟩
theorem RdP.g {w : World} {S : Nat → Prop} {A : Option Addr} {n c : Nat} {l : List Pt} (h : RdP w S A n c l) : RdG ptD w S A n c l := ⟨h.len, h.cap, h.capm, h.at_⟩
theorem RdG.p {w : World} {S : Nat → Prop} {A : Option Addr} {n c : Nat} {l : List Pt} (h : RdG ptD w S A n c l) : RdP w S A n c l := ⟨h.len, h.cap, h.capm, h.at_⟩
end Go.Proofs.Ytpllgfhocedgmaa
namespace Go.Proofs.Ytpllgfhocedgmaa
open Go.RowKit

def OwnX {α : Type} (D : Rdr α) (X : Nat → Prop) (e : TypeId) (w : World) (B : Nat) (v : Value) (l : List α) : Prop := ∃ cs, w.ownsRow B e D.k v l.length cs ∧ ∀ i x, l[i]? = some x → D.at_ w (fun b => b < w.heap.size ∧ X b ∧ v.ownBlock ≠ some b) ((cs.drop (i * D.k)).take D.k) x
section
variable {α : Type} {D : Rdr α} {X : Nat → Prop} {w w' : World} {S S' : Nat → Prop} {A : Option Addr} {n c : Nat} {l : List α} {B : Nat} {v : Value} {e : TypeId}
theorem OwnX.nil (D : Rdr α) (X : Nat → Prop) (e : TypeId) (w : World) (B : Nat) : OwnX D X e w B (.slice none 0 0) [] := ⟨[], World.ownsRow_nil w B e D.k, fun i x hx => by simp at hx⟩
theorem OwnX.rd (h : OwnX D X e w B v l) : ∃ A c, v = .slice A l.length c ∧ RdG D w (fun b => b < w.heap.size ∧ (X b ∨ B ≤ b)) A l.length c l := by
 obtain ⟨cs, ho, hk⟩ := h
 have hs : ∀ i x, l[i]? = some x → D.at_ w (fun b => b < w.heap.size ∧ (X b ∨ B ≤ b)) ((cs.drop (i * D.k)).take D.k) x := fun i x hx => D.keep (hk i x hx) (fun b hb => ⟨hb.1, .inl hb.2.1⟩) (fun _ _ => rfl)
 rcases ho.2 with ⟨h1, h2⟩ | ⟨g, cap, cur, h1, hB, hg, h3, h4, _, _⟩
 ·subst h1
  have : l = [] := List.eq_nil_of_length_eq_zero h2
  subst this
  exact ⟨none, 0, rfl, RdG.nil _ _ _⟩
 ·subst h1
  have hlt : g < w.heap.size := by
   rcases Nat.lt_or_ge g w.heap.size with hlt | hge
   ·exact hlt
   ·rw [Array.getElem?_eq_none hge] at hg; cases hg
  refine ⟨_, cap, rfl, rfl, h3, h4, fun i => (cs.drop (i * D.k)).take D.k, fun _ => ⟨g, 0, rfl, ⟨hlt, .inr hB⟩, fun i hi j u hu => ?_⟩, hs⟩
  rw [← kadd_none]
  have hj : j < D.k := by
   have := (List.getElem?_eq_some_iff.1 hu).1; rw [List.length_take] at this; omega
  rw [List.getElem?_take_of_lt hj, List.getElem?_drop] at hu
  exact World.ownsRow.cells ho (g := g) rfl _ _ hu
theorem OwnX.block (h : OwnX D X e w B v l) : ∀ i, v.ownBlock = some i → B ≤ i ∧ i < w.heap.size := by
 obtain ⟨cs, ho, _⟩ := h
 exact World.ownsRow.lt ho
theorem OwnX.on (h : OwnX D X e w B v l) (hb : Below w.heap.size w w') : OwnX D X e w' B v l := by
 obtain ⟨cs, ho, hk⟩ := h
 exact ⟨cs, prow_keep ho fun i _ h2 _ => hb.block i h2, fun i x hx => D.keep (hk i x hx) (fun b hb2 => ⟨Nat.lt_of_lt_of_le hb2.1 hb.size, hb2.2⟩) (fun p hp => hb.cell hp.1)⟩
theorem OwnX.push {v' : Value} {ns cs : List Value} {x : α} (hk : ∀ i x, l[i]? = some x → D.at_ w (fun b => b < w.heap.size ∧ X b ∧ v.ownBlock ≠ some b) ((cs.drop (i * D.k)).take D.k) x) (hcl : cs.length = l.length * D.k)
  (hx : D.at_ w (fun b => b < w.heap.size ∧ X b ∧ v.ownBlock ≠ some b) ns x) (ho : w'.ownsRow B e D.k v' (l.length + 1) (cs ++ ns)) (hg : w.grownBy w' v.ownBlock) (hat : v'.ownBlock = v.ownBlock ∨ v'.ownBlock = some w.heap.size) : OwnX D X e w' B v' (l ++ [x]) := by
 have hn := D.len hx
 have hS : ∀ b, (b < w.heap.size ∧ X b ∧ v.ownBlock ≠ some b) → b < w'.heap.size ∧ X b ∧ v'.ownBlock ≠ some b := fun b ⟨h2, hx2, h3⟩ => ⟨Nat.lt_of_lt_of_le h2 hg.size, hx2, by
  rcases hat with e | e
  ·rw [e]; exact h3
  ·rw [e]; intro e2; injection e2 with e2; omega⟩
 have hc : ∀ p : Addr, (p.block < w.heap.size ∧ X p.block ∧ v.ownBlock ≠ some p.block) → w'.cell? p = w.cell? p := fun p ⟨h2, _, h3⟩ => World.cell?_of_block (hg.block p.block h2 (fun e => h3 e.symm))
 refine ⟨cs ++ ns, by simpa using ho, fun i y hy => ?_⟩
 rcases Nat.lt_or_ge i l.length with hi | hi
 ·rw [List.getElem?_append_left hi] at hy
  have := D.keep (hk i y hy) hS hc
  have hle : i * D.k + D.k ≤ cs.length := by rw [hcl, ← Nat.succ_mul]; exact Nat.mul_le_mul_right _ hi
  rw [List.drop_append_of_le_length (by omega), List.take_append_of_le_length (by rw [List.length_drop]; omega)]
  exact this
 ·have hil : i = l.length := by
   have := (List.getElem?_eq_some_iff.1 hy).1; simp at this; omega
  subst hil
  rw [List.getElem?_append_right (Nat.le_refl _), Nat.sub_self] at hy
  simp at hy
  subst hy
  rw [List.drop_append, List.drop_eq_nil_of_le (by omega), List.nil_append, hcl, Nat.sub_self, List.drop_zero, List.take_of_length_le (by omega)]
  exact D.keep hx hS hc
theorem OwnX.setCell (h : OwnX D X e w B v l) {N : Nat} (hN : N < B) (hX : ¬ X N) (o : Nat) (u : Value) : OwnX D X e (w.setCell ⟨N, o, none⟩ u) B v l := by
 obtain ⟨cs, ho, hk⟩ := h
 have hh : ∀ i, i ≠ N → (w.setCell ⟨N, o, none⟩ u).heap[i]? = w.heap[i]? := fun i hi => Below.heap_setCell _ _ _ _ hi
 refine ⟨cs, prow_keep ho fun i h1 _ _ => hh i (by omega), fun i x hx => D.keep (hk i x hx) (fun b hb => ⟨by simpa using hb.1, hb.2⟩) (fun p hp => World.cell?_of_block (hh p.block (fun e => hX (e ▸ hp.2.1))))⟩
theorem OwnX.more {X' : Nat → Prop} (h : OwnX D X e w B v l) (hX : ∀ b, X b → X' b) : OwnX D X' e w B v l := by
 obtain ⟨cs, ho, hk⟩ := h
 exact ⟨cs, ho, fun i x hx => D.keep (hk i x hx) (fun b hb => ⟨hb.1, hX b hb.2.1, hb.2.2⟩) (fun _ _ => rfl)⟩
end
end Go.Proofs.Ytpllgfhocedgmaa
namespace Go.Proofs.Ytpllgfhocedgmaa
open Go.RowKit

def pb (n : Nat) : Value := .pointer (some ⟨n, 0, none⟩)
inductive Tl where
 | top
 | part (n : Nat) (x : Pt) (t : Tl)
 | more (e : Nat) (y : Pt) (t : Tl)
def Tl.kid (e : Nat) (y : Pt) (t : Tl) : Tl := .part (e + 3) y (.more e y t)
def Tl.stk : Tl → List Pt
 | .top => []
 | .part _ x t => x :: t.stk
 | .more _ y t => manyT y :: t.stk
def onceV (T L : Nat) : Value := .func (.func 74) #[] #[pb L, pb T]
def partV (n : Nat) : Value := .func (.func 72) #[] #[pb n, pb (n + 3), pb (n + 1), pb (n + 2)]
def Tl.val (c : Nat) : Tl → Value
 | .top => onceV c (c + 1)
 | .part n _ _ => onceV (n + 4) (n + 5)
 | .more e _ _ => .func (.func 107) #[] #[pb (e + 1), pb (e + 2)]
inductive Inn where
 | tl (t : Tl)
 | set (m : Nat)
 | or (m : Nat) (ts : List Tl)
 | may (a b : Nat) (k : Tl)
 | no
def Inn.val (c : Nat) : Inn → Value
 | .tl t => t.val c
 | .set m => .func (.func 103) #[] #[pb m, pb (m + 1), pb (m + 2)]
 | .or m _ => .func (.func 105) #[] #[pb m]
 | .may a b _ => .func (.func 106) #[] #[pb a, pb b]
 | .no => .func (.func 90) #[] #[]
def innV (c : Nat) : Option Inn → Value
 | none => .nilFunc
 | some u => u.val c
theorem Inn.val_func (c : Nat) (u : Inn) : ∃ f cap, u.val c = .func f #[] cap := by
 cases u with
 | tl t => cases t <;> exact ⟨_, _, rfl⟩
 | _ => exact ⟨_, _, rfl⟩
theorem Tl.val_func (c : Nat) (t : Tl) : ∃ f cap, t.val c = .func f #[] cap := by cases t <;> exact ⟨_, _, rfl⟩
structure Ctx where
 base : Nat
 W : Nat
 P : Nat
 c : Nat
 back : Bool
 l : List Int
 lA : Option Addr
 ln : Nat
 lc : Nat
 Rs : Nat → Prop
structure Gh where
 ps : List Tl
 inn : Nat → Option Inn
 U : Nat → Prop
 R : Nat → Prop
def Ex (G : Gh) (t : Tl) : Prop := t = .top ∨ t ∈ G.ps
def LB (w : World) (b : Nat) (z : Int) : Prop := w.heap[b]? = some (.cells #[.int .i64 z] 3 (0, 0))
def TB (w : World) (b : Nat) (v : Value) : Prop := w.heap[b]? = some (.cells #[v] 111 (0, 0))
def PatB (C : Ctx) (w : World) (b : Nat) (x : Pt) : Prop := ∃ sA sn sc gA gn gc A k c, w.heap[b]? = some (.cells #[.int .i64 x.kind, .slice sA sn sc, .slice gA gn gc, .slice A k c] 26 (0, 0)) ∧ PtIn w (fun b => b < C.base) sA sn sc gA gn gc A k c x
inductive InnOk (C : Ctx) (w : World) (G : Gh) (x : Pt) (t : Tl) : Inn → Prop
 | emp (hk : x.kind = 1) : InnOk C w G x t (.tl t)
 | set (m : Nat) (hk : x.kind = 2) (hu : G.U m ∧ G.U (m + 1) ∧ G.U (m + 2)) (h0 : w.cell? ⟨m, 0, none⟩ = some (pb C.W)) (h1 : ∃ A n c, w.cell? ⟨m + 1, 0, none⟩ = some (.slice A n c) ∧ InAt w (fun b => b < C.base) A n c x.signs) (h2 : w.cell? ⟨m + 2, 0, none⟩ = some (t.val C.c)) : InnOk C w G x t (.set m)
 | join (u : Tl) (hk : x.kind = 3) (he : Ex G u) (hs : u.stk = rwd C.back x.kids ++ t.stk) : InnOk C w G x t (.tl u)
 | or (m : Nat) (ts : List Tl) (A : Option Addr) (n c : Nat) (hk : x.kind = 4) (hu : G.U m) (h0 : w.cell? ⟨m, 0, none⟩ = some (.slice A n c)) (hn : ts.length = n) (hc : n ≤ c) (hm : c ≤ maxLen) (hA : 0 < n → ∃ b, A = some ⟨b, 0, none⟩ ∧ G.U b ∧ ∀ i u, ts[i]? = some u → w.cell? ⟨b, i, none⟩ = some (u.val C.c)) (he : ∀ u ∈ ts, Ex G u) (hs : ts.map Tl.stk = x.kids.map (fun y => y :: t.stk)) : InnOk C w G x t (.or m ts)
 | star (e : Nat) (y : Pt) (hk : x.kind = 5) (hy : x.kids = [y]) (he : Ex G (.more e y t)) : InnOk C w G x t (.tl (.more e y t))
 | plus (e : Nat) (y : Pt) (hk : x.kind = 6) (hy : x.kids = [y]) (he : Ex G (.more e y t)) : InnOk C w G x t (.tl (.kid e y t))
 | may (a b : Nat) (k : Tl) (y : Pt) (hk : x.kind = 7) (hy : x.kids = [y]) (hu : G.U a ∧ G.U b) (h0 : w.cell? ⟨a, 0, none⟩ = some (t.val C.c)) (h1 : w.cell? ⟨b, 0, none⟩ = some (k.val C.c)) (he : Ex G k) (hs : k.stk = y :: t.stk) : InnOk C w G x t (.may a b k)
 | no (hk : ¬ ((1 ≤ x.kind ∧ x.kind ≤ 4) ∨ ((5 ≤ x.kind ∧ x.kind ≤ 7) ∧ x.kids.length = 1))) : InnOk C w G x t .no
structure PartOk (C : Ctx) (w : World) (G : Gh) (n : Nat) (x : Pt) (t : Tl) : Prop where
 ex : Ex G t
 u : G.U n ∧ G.U (n + 1) ∧ G.U (n + 2) ∧ G.U (n + 4)
 r : G.R (n + 3) ∧ G.R (n + 5)
 nu : ¬ G.U (n + 3) ∧ ¬ G.U (n + 5)
 lo : C.c + 1 < n
 w0 : w.cell? ⟨n, 0, none⟩ = some (pb C.W)
 p : PatB C w (n + 1) x
 h : w.cell? ⟨n + 2, 0, none⟩ = some (t.val C.c)
 i : TB w (n + 3) (innV C.c (G.inn n))
 o : w.cell? ⟨n + 4, 0, none⟩ = some (partV n)
 l : ∃ z, LB w (n + 5) z
 inn : ∀ u, G.inn n = some u → InnOk C w G x t u
structure MoreOk (C : Ctx) (w : World) (G : Gh) (e : Nat) (y : Pt) (t : Tl) : Prop where
 ex : Ex G t
 kid : .kid e y t ∈ G.ps
 u : G.U (e + 1) ∧ G.U (e + 2)
 h : w.cell? ⟨e + 1, 0, none⟩ = some (t.val C.c)
 k : w.cell? ⟨e + 2, 0, none⟩ = some ((Tl.kid e y t).val C.c)
structure Good (C : Ctx) (w : World) (G : Gh) : Prop where
 part : ∀ n x t, .part n x t ∈ G.ps → PartOk C w G n x t
 more : ∀ e y t, .more e y t ∈ G.ps → MoreOk C w G e y t
 sep : ∀ n x t n' x' t', .part n x t ∈ G.ps → .part n' x' t' ∈ G.ps → (n = n' ∧ x = x' ∧ t = t') ∨ n + 6 ≤ n' ∨ n' + 6 ≤ n
 nd : G.ps.Nodup
 topT : w.cell? ⟨C.c, 0, none⟩ = some (.func (.func 62) #[] #[pb C.P])
 topL : ∃ z, LB w (C.c + 1) z
 ur : ∀ b, G.U b → G.R b
 rlt : ∀ b, G.R b → b < w.heap.size ∧ C.base ≤ b
 um : ¬ G.U C.W ∧ ¬ G.U C.P ∧ ¬ G.U (C.c + 1) ∧ G.U C.c
 rm : G.R C.W ∧ G.R C.P ∧ G.R (C.c + 1)
 ord : C.base ≤ C.W ∧ C.W < C.P ∧ C.P < C.c
 inn0 : ∀ n u, G.inn n = some u → ∃ x t, .part n x t ∈ G.ps
def cnt1 : Tl → Nat
 | .top => 0
 | .part _ _ _ => 1
 | .more _ _ _ => 0
def cntP (l : List Tl) : Nat := (l.map cnt1).sum
structure St (C : Ctx) (w : World) (G : Gh) (nv pv : Value) (nx : List Tl) (pl : List Int) (mn : Nat) : Prop where
 wk : w.heap[C.W]? = some (.cells #[.slice C.lA C.ln C.lc, .bool C.back, nv, .int .i64 mn] 66 (0, 0))
 l : InAt w (fun b => b < C.base) C.lA C.ln C.lc C.l
 nr : w.ownsRow C.base 111 1 nv nx.length (nx.map (Tl.val C.c))
 nn : ∀ b, nv.ownBlock = some b → ¬ G.R b
 p0 : w.heap[C.P]? = some (.cells #[pv] 23 (0, 0))
 pr : OwnK .i64 w C.base 3 pv pl.length pl
 pn : ∀ b, pv.ownBlock = some b → ¬ G.R b
 np : ∀ b, pv.ownBlock = some b → nv.ownBlock ≠ some b
 nxe : ∀ t ∈ nx, Ex G t
 cn : cntP G.ps ≤ mn
structure Sta where
 w : World
 G : Gh
 nv : Value
 pv : Value
 nx : List Tl
 pl : List Int
 mn : Nat
structure Inv (C : Ctx) (s : Sta) : Prop where
 g : Good C s.w s.G
 st : St C s.w s.G s.nv s.pv s.nx s.pl s.mn
def Cov (C : Ctx) (w : World) (a : Nat) : Tl → Prop
 | .top => LB w (C.c + 1) a
 | .part n _ _ => LB w (n + 5) a
 | .more e _ t => Cov C w a t ∧ LB w (e + 8) a
def CovI (C : Ctx) (w : World) (nx : List Tl) (a : Nat) (x : Pt) (t : Tl) : Inn → Prop
 | .tl u => Cov C w a u
 | .set _ => ∀ s c, s ∈ x.signs → stp C.back C.l a s c → t ∈ nx
 | .or _ ts => ∀ u ∈ ts, Cov C w a u
 | .may _ _ k => Cov C w a t ∧ Cov C w a k
 | .no => True
def Comp (C : Ctx) (w : World) (G : Gh) (nx : List Tl) (a n : Nat) (x : Pt) (t : Tl) : Prop := ∃ u, G.inn n = some u ∧ CovI C w nx a x t u
def Qs (C : Ctx) (κ : List Pt) (a : Nat) : Prop := ∀ b, Sq (stp C.back C.l) (rwd C.back) κ a b → C.Rs b
def unb1 (I : Nat → Option Inn) : Tl → Nat
 | .top => 0
 | .part n x _ => if (I n).isNone then x.size - 1 else 0
 | .more _ _ _ => 0
def unb (I : Nat → Option Inn) (l : List Tl) : Nat := (l.map (unb1 I)).sum
open Classical in
noncomputable def unt1 (w : World) (a : Nat) : Tl → Nat
 | .top => 0
 | .part n _ _ => if LB w (n + 5) a then 0 else 1
 | .more _ _ _ => 0
theorem unt1_pos {w : World} {a n : Nat} {x : Pt} {t : Tl} (h : LB w (n + 5) a) : unt1 w a (.part n x t) = 0 := if_pos h
theorem unt1_neg {w : World} {a n : Nat} {x : Pt} {t : Tl} (h : ¬ LB w (n + 5) a) : unt1 w a (.part n x t) = 1 := if_neg h
noncomputable def unt (w : World) (a : Nat) (l : List Tl) : Nat := (l.map (unt1 w a)).sum
structure Step (C : Ctx) (a k : Nat) (s s' : Sta) : Prop where
 ps : ∀ t ∈ s.G.ps, t ∈ s'.G.ps
 inn : ∀ n u, s.G.inn n = some u → s'.G.inn n = some u
 rr : ∀ b, s.G.R b → s'.G.R b
 fr : ∀ b, s'.G.R b → s.G.R b ∨ s.w.heap.size ≤ b
 told : ∀ t, Ex s.G t → Cov C s.w a t → Cov C s'.w a t
 new : ∀ n x t, .part n x t ∈ s'.G.ps → LB s'.w (n + 5) a → (.part n x t ∈ s.G.ps ∧ LB s.w (n + 5) a) ∨ Comp C s'.w s'.G s'.nx a n x t
 nx : ∀ t ∈ s.nx, t ∈ s'.nx
 nq : ∀ t ∈ s'.nx, t ∈ s.nx ∨ ∃ x c, stp C.back C.l a x c ∧ Qs C t.stk c
 pl : s'.pl = s.pl ∨ (s'.pl = s.pl ++ [(a : Int)] ∧ ¬ LB s.w (C.c + 1) a ∧ LB s'.w (C.c + 1) a ∧ C.Rs a)
 tp : LB s'.w (C.c + 1) a → LB s.w (C.c + 1) a ∨ (a : Int) ∈ s'.pl
 bud : s'.mn + unb s'.G.inn s'.G.ps ≤ s.mn + unb s.G.inn s.G.ps + k
 mu : unt s'.w a s'.G.ps + unb s'.G.inn s'.G.ps ≤ unt s.w a s.G.ps + unb s.G.inn s.G.ps + k
 keep : ∀ b, b < s.w.heap.size → ¬ s.G.R b → s.nv.ownBlock ≠ some b → s.pv.ownBlock ≠ some b → s'.w.heap[b]? = s.w.heap[b]?
 nvb : s'.nv.ownBlock = s.nv.ownBlock ∨ ∀ b, s'.nv.ownBlock = some b → s.w.heap.size ≤ b
 pvb : s'.pv.ownBlock = s.pv.ownBlock ∨ ∀ b, s'.pv.ownBlock = some b → s.w.heap.size ≤ b
 bel : Below C.base s.w s'.w
 uu : ∀ b, s.G.U b → s'.G.U b
 uk : ∀ b, s.G.U b → s'.w.heap[b]? = s.w.heap[b]?
 lv : ∀ n x t (z : Int), .part n x t ∈ s'.G.ps → LB s'.w (n + 5) z → z = a ∨ z = -1 ∨ (.part n x t ∈ s.G.ps ∧ LB s.w (n + 5) z)
 lt : ∀ z : Int, LB s'.w (C.c + 1) z → z = a ∨ LB s.w (C.c + 1) z
theorem Cov.of {C : Ctx} {w w' : World} {G : Gh} {a : Nat} (hg : Good C w G) (hp : ∀ n x t, .part n x t ∈ G.ps → LB w (n + 5) a → LB w' (n + 5) a) (ht : LB w (C.c + 1) a → LB w' (C.c + 1) a) : ∀ t, Ex G t → Cov C w a t → Cov C w' a t := by
 intro t
 induction t with
 | top => intro _ h; exact ht h
 | part n x t ih =>
  intro he h
  rcases he with he | he
  ·cases he
  ·exact hp n x t he h
 | more e y t ih =>
  intro he h
  rcases he with he | he
  ·cases he
  ·have hm := hg.more e y t he
   exact ⟨ih hm.ex h.1, hp (e + 3) y _ hm.kid h.2⟩
theorem CovI.mono {C : Ctx} {w w' w0 : World} {G : Gh} {a : Nat} {nx nx' : List Tl} {x : Pt} {t : Tl} {u : Inn} (hi : InnOk C w0 G x t u) (he : Ex G t) (hm : ∀ e y t, .more e y t ∈ G.ps → .kid e y t ∈ G.ps) (hc : ∀ t, Ex G t → Cov C w a t → Cov C w' a t) (hn : ∀ t ∈ nx, t ∈ nx') (h : CovI C w nx a x t u) : CovI C w' nx' a x t u := by
 cases hi with
 | emp hk => exact hc _ he h
 | set m hk => exact fun s c hs hst => hn _ (h s c hs hst)
 | join u hk hu hs => exact hc _ hu h
 | or m ts A n c hk hu h0 hn' hc' hm' hA hts hs => exact fun u hu => hc _ (hts u hu) (h u hu)
 | star e y hk hy hu => exact hc _ hu h
 | plus e y hk hy hu => exact hc _ (.inr (hm _ _ _ (hu.resolve_left (by intro e; cases e)))) h
 | may a b k y hk hy hu h0 h1 hk' hs => exact ⟨hc _ he h.1, hc _ hk' h.2⟩
 | no hk => trivial
theorem Step.refl (C : Ctx) (a : Nat) (s : Sta) : Step C a 0 s s := ⟨fun _ h => h, fun _ _ h => h, fun _ h => h, fun _ h => .inl h, fun _ _ h => h, fun n x t h h' => .inl ⟨h, h'⟩, fun _ h => h, fun _ h => .inl h, .inl rfl, fun h => .inl h, Nat.le_refl _, Nat.le_refl _, fun _ _ _ _ _ => rfl, .inl rfl, .inl rfl, Below.refl _ _, fun _ h => h, fun _ _ => rfl, fun _ _ _ _ h h' => .inr (.inr ⟨h, h'⟩), fun _ h => .inr h⟩
theorem Step.ex {C : Ctx} {a k : Nat} {s s' : Sta} (h : Step C a k s s') {t : Tl} (he : Ex s.G t) : Ex s'.G t := he.imp id (h.ps t)
theorem Step.trans {C : Ctx} {a k k' : Nat} {s s' s'' : Sta} (h : Step C a k s s') (h' : Step C a k' s' s'') (hg' : Good C s'.w s'.G) : Step C a (k + k') s s'' := by
 have hst := h.bel.size
 refine ⟨fun t ht => h'.ps t (h.ps t ht), fun n u hu => h'.inn n u (h.inn n u hu), fun b hb => h'.rr b (h.rr b hb), fun b hb => ?_, fun t he ht => h'.told t (h.ex he) (h.told t he ht), fun n x t hp hl => ?_, fun t ht => h'.nx t (h.nx t ht), fun t ht => ?_, ?_, fun hl => ?_, (by have := h'.bud; have := h.bud; omega), (by have := h'.mu; have := h.mu; omega), fun b hb hr hn hp => ?_, ?_, ?_, h.bel.trans h'.bel, fun b hb => h'.uu b (h.uu b hb), fun b hb => (h'.uk b (h.uu b hb)).trans (h.uk b hb), fun n x t z hp hl => (h'.lv n x t z hp hl).elim .inl fun h1 => h1.elim (fun h2 => .inr (.inl h2)) fun h2 => h.lv n x t z h2.1 h2.2, fun z hl => (h'.lt z hl).elim .inl fun h1 => h.lt z h1⟩
 ·rcases h'.fr b hb with h1 | h1
  ·exact h.fr b h1
  ·exact .inr (Nat.le_trans hst h1)
 ·rcases h'.new n x t hp hl with ⟨h1, h2⟩ | h1
  ·rcases h.new n x t h1 h2 with h3 | ⟨u, h3, h4⟩
   ·exact .inl h3
   ·exact .inr ⟨u, h'.inn n u h3, CovI.mono ((hg'.part n x t h1).inn u h3) (hg'.part n x t h1).ex (fun e y t ht => (hg'.more e y t ht).kid) h'.told h'.nx h4⟩
  ·exact .inr h1
 ·rcases h'.nq t ht with h1 | h1
  ·exact h.nq t h1
  ·exact .inr h1
 ·have htop : LB s'.w (C.c + 1) a → LB s''.w (C.c + 1) a := fun h1 => h'.told .top (.inl rfl) h1
  have htop0 : LB s.w (C.c + 1) a → LB s'.w (C.c + 1) a := fun h1 => h.told .top (.inl rfl) h1
  rcases h.pl with e | ⟨e, h1, h2, h3⟩
  ·rcases h'.pl with e' | ⟨e', h1, h2, h3⟩
   ·exact .inl (e'.trans e)
   ·exact .inr ⟨by rw [e', e], fun h0 => h1 (htop0 h0), h2, h3⟩
  ·rcases h'.pl with e' | ⟨e', h1', _, _⟩
   ·exact .inr ⟨by rw [e', e], h1, htop h2, h3⟩
   ·exact absurd h2 h1'
 ·have hsub : ∀ z ∈ s'.pl, z ∈ s''.pl := by
   rcases h'.pl with e' | ⟨e', _⟩
   ·rw [e']; exact fun z hz => hz
   ·rw [e']; exact fun z hz => List.mem_append_left _ hz
  rcases h'.tp hl with h1 | h1
  ·rcases h.tp h1 with h2 | h2
   ·exact .inl h2
   ·exact .inr (hsub _ h2)
  ·exact .inr h1
 ·have hb' : b < s'.w.heap.size := Nat.lt_of_lt_of_le hb hst
  refine (h'.keep b hb' (fun hr' => ?_) (fun e => ?_) (fun e => ?_)).trans (h.keep b hb hr hn hp)
  ·rcases h.fr b hr' with h1 | h1
   ·exact hr h1
   ·omega
  ·rcases h.nvb with h1 | h1
   ·exact hn (h1 ▸ e)
   ·have := h1 b e; omega
  ·rcases h.pvb with h1 | h1
   ·exact hp (h1 ▸ e)
   ·have := h1 b e; omega
 ·rcases h'.nvb with h1 | h1
  ·rcases h.nvb with h2 | h2
   ·exact .inl (h1.trans h2)
   ·exact .inr fun b hb => h2 b (h1 ▸ hb)
  ·exact .inr fun b hb => Nat.le_trans hst (h1 b hb)
 ·rcases h'.pvb with h1 | h1
  ·rcases h.pvb with h2 | h2
   ·exact .inl (h1.trans h2)
   ·exact .inr fun b hb => h2 b (h1 ▸ hb)
  ·exact .inr fun b hb => Nat.le_trans hst (h1 b hb)
end Go.Proofs.Ytpllgfhocedgmaa
namespace Go.Proofs.Ytpllgfhocedgmaa
open Go.RowKit

theorem cell_eq {w w' : World} {b o : Nat} (h : w'.heap[b]? = w.heap[b]?) : w'.cell? ⟨b, o, none⟩ = w.cell? ⟨b, o, none⟩ := World.cell?_of_block h
theorem LB.cell {w : World} {b : Nat} {z : Int} (h : LB w b z) : w.cell? ⟨b, 0, none⟩ = some (.int .i64 z) := by
 unfold LB at h
 simp [World.cell?, h]
theorem PatB.keep {C : Ctx} {w w' : World} {b : Nat} {x : Pt} (h : PatB C w b x) (hb : w'.heap[b]? = w.heap[b]?) (hB : ∀ i, i < C.base → w'.heap[i]? = w.heap[i]?) : PatB C w' b x := by
 obtain ⟨sA, sn, sc, gA, gn, gc, A, k, c, h1, h2⟩ := h
 exact ⟨sA, sn, sc, gA, gn, gc, A, k, c, hb.trans h1, h2.keep (fun _ h => h) (fun p hp => World.cell?_of_block (hB p.block hp))⟩
theorem InnOk.keep {C : Ctx} {w w' : World} {G G' : Gh} {x : Pt} {t : Tl} {u : Inn} (h : InnOk C w G x t u) (he : ∀ t, Ex G t → Ex G' t) (hU : ∀ b, G.U b → G'.U b ∧ w'.heap[b]? = w.heap[b]?) (hB : ∀ i, i < C.base → w'.heap[i]? = w.heap[i]?) : InnOk C w' G' x t u := by
 cases h with
 | emp hk => exact .emp hk
 | set m hk hu h0 h1 h2 =>
  obtain ⟨A, n, c, h3, h4⟩ := h1
  exact .set m hk ⟨(hU _ hu.1).1, (hU _ hu.2.1).1, (hU _ hu.2.2).1⟩ ((cell_eq (hU _ hu.1).2).trans h0) ⟨A, n, c, (cell_eq (hU _ hu.2.1).2).trans h3, h4.keep (fun _ h => h) (fun p hp => World.cell?_of_block (hB p.block hp))⟩ ((cell_eq (hU _ hu.2.2).2).trans h2)
 | join u hk hu hs => exact .join u hk (he _ hu) hs
 | or m ts A n c hk hu h0 hn hc hm hA hts hs =>
  exact .or m ts A n c hk (hU _ hu).1 ((cell_eq (hU _ hu).2).trans h0) hn hc hm (fun hn0 => by
   obtain ⟨b, e, hb, hcell⟩ := hA hn0
   exact ⟨b, e, (hU _ hb).1, fun i u hi => (cell_eq (hU _ hb).2).trans (hcell i u hi)⟩) (fun u hu => he _ (hts u hu)) hs
 | star e y hk hy hu => exact .star e y hk hy (he _ hu)
 | plus e y hk hy hu => exact .plus e y hk hy (he _ hu)
 | may a b k y hk hy hu h0 h1 hk' hs => exact .may a b k y hk hy ⟨(hU _ hu.1).1, (hU _ hu.2).1⟩ ((cell_eq (hU _ hu.1).2).trans h0) ((cell_eq (hU _ hu.2).2).trans h1) (he _ hk') hs
 | no hk => exact .no hk
theorem PartOk.keep {C : Ctx} {w w' : World} {G G' : Gh} {n : Nat} {x : Pt} {t : Tl} (h : PartOk C w G n x t) (he : ∀ t, Ex G t → Ex G' t) (hU : ∀ b, G.U b → G'.U b ∧ w'.heap[b]? = w.heap[b]?) (hR : ∀ b, G.R b → G'.R b) (hu : ∀ b, G.R b → ¬ G.U b → ¬ G'.U b) (hB : ∀ i, i < C.base → w'.heap[i]? = w.heap[i]?)
  (hi : TB w' (n + 3) (innV C.c (G'.inn n))) (hl : ∃ z, LB w' (n + 5) z) (hn : ∀ u, G'.inn n = some u → InnOk C w' G' x t u) : PartOk C w' G' n x t :=
 ⟨he _ h.ex, ⟨(hU _ h.u.1).1, (hU _ h.u.2.1).1, (hU _ h.u.2.2.1).1, (hU _ h.u.2.2.2).1⟩, ⟨hR _ h.r.1, hR _ h.r.2⟩, ⟨hu _ h.r.1 h.nu.1, hu _ h.r.2 h.nu.2⟩, h.lo, (cell_eq (hU _ h.u.1).2).trans h.w0, h.p.keep (hU _ h.u.2.1).2 hB, (cell_eq (hU _ h.u.2.2.1).2).trans h.h, hi, (cell_eq (hU _ h.u.2.2.2).2).trans h.o, hl, hn⟩
theorem MoreOk.keep {C : Ctx} {w w' : World} {G G' : Gh} {e : Nat} {y : Pt} {t : Tl} (h : MoreOk C w G e y t) (he : ∀ t, Ex G t → Ex G' t) (hp : ∀ t ∈ G.ps, t ∈ G'.ps) (hU : ∀ b, G.U b → G'.U b ∧ w'.heap[b]? = w.heap[b]?) : MoreOk C w' G' e y t :=
 ⟨he _ h.ex, hp _ h.kid, ⟨(hU _ h.u.1).1, (hU _ h.u.2).1⟩, (cell_eq (hU _ h.u.1).2).trans h.h, (cell_eq (hU _ h.u.2).2).trans h.k⟩
theorem Good.keep {C : Ctx} {w w' : World} {G : Gh} (h : Good C w G) (hs : w.heap.size ≤ w'.heap.size) (hB : ∀ i, i < C.base → w'.heap[i]? = w.heap[i]?) (hU : ∀ b, G.U b → w'.heap[b]? = w.heap[b]?) (hI : ∀ n x t, .part n x t ∈ G.ps → w'.heap[n + 3]? = w.heap[n + 3]?) (hL : ∀ n x t, .part n x t ∈ G.ps → ∃ z, LB w' (n + 5) z) (hT : ∃ z, LB w' (C.c + 1) z) : Good C w' G :=
 ⟨fun n x t hp => (h.part n x t hp).keep (fun _ h => h) (fun b hb => ⟨hb, hU b hb⟩) (fun _ h => h) (fun _ _ h => h) hB ((hI n x t hp).trans (h.part n x t hp).i) (hL n x t hp) fun u hu => ((h.part n x t hp).inn u hu).keep (fun _ h => h) (fun b hb => ⟨hb, hU b hb⟩) hB,
  fun e y t hp => (h.more e y t hp).keep (fun _ h => h) (fun _ h => h) (fun b hb => ⟨hb, hU b hb⟩), h.sep, h.nd, (cell_eq (hU _ h.um.2.2.2)).trans h.topT, hT, h.ur, fun b hb => ⟨Nat.lt_of_lt_of_le (h.rlt b hb).1 hs, (h.rlt b hb).2⟩, h.um, h.rm, h.ord, h.inn0⟩
theorem Good.all {C : Ctx} {w w' : World} {G : Gh} (h : Good C w G) (hs : w.heap.size ≤ w'.heap.size) (hB : ∀ i, i < C.base → w'.heap[i]? = w.heap[i]?) (hR : ∀ b, G.R b → b ≠ C.W → b ≠ C.P → w'.heap[b]? = w.heap[b]?) : Good C w' G := by
 have hW : ∀ b, C.c < b → b ≠ C.W ∧ b ≠ C.P := fun b hb => by have := h.ord; omega
 refine h.keep hs hB (fun b hb => hR b (h.ur b hb) (fun e => h.um.1 (e ▸ hb)) (fun e => h.um.2.1 (e ▸ hb))) (fun n x t hp => ?_) (fun n x t hp => ?_) ?_
 ·have hk := h.part n x t hp
  have := hk.lo
  exact hR _ hk.r.1 (hW _ (by omega)).1 (hW _ (by omega)).2
 ·have hk := h.part n x t hp
  have := hk.lo
  obtain ⟨z, hz⟩ := hk.l
  exact ⟨z, (hR _ hk.r.2 (hW _ (by omega)).1 (hW _ (by omega)).2).trans hz⟩
 ·obtain ⟨z, hz⟩ := h.topL
  exact ⟨z, (hR _ h.rm.2.2 (hW _ (by omega)).1 (hW _ (by omega)).2).trans hz⟩
theorem Good.cov_eq {C : Ctx} {w w' : World} {G : Gh} (h : Good C w G) (hR : ∀ b, G.R b → b ≠ C.W → b ≠ C.P → w'.heap[b]? = w.heap[b]?) {n : Nat} {x : Pt} {t : Tl} (hp : .part n x t ∈ G.ps) (z : Int) : LB w' (n + 5) z ↔ LB w (n + 5) z := by
 have hk := h.part n x t hp
 have := hk.lo
 have := h.ord
 unfold LB
 rw [hR _ hk.r.2 (by omega) (by omega)]
theorem Good.top_eq {C : Ctx} {w w' : World} {G : Gh} (h : Good C w G) (hR : ∀ b, G.R b → b ≠ C.W → b ≠ C.P → w'.heap[b]? = w.heap[b]?) (z : Int) : LB w' (C.c + 1) z ↔ LB w (C.c + 1) z := by
 have := h.ord
 unfold LB
 rw [hR _ h.rm.2.2 (by omega) (by omega)]
theorem unt_eq {C : Ctx} {w w' : World} {G : Gh} (hg : Good C w G) (hR : ∀ b, G.R b → b ≠ C.W → b ≠ C.P → w'.heap[b]? = w.heap[b]?) (a : Nat) (l : List Tl) (h : ∀ t ∈ l, t ∈ G.ps) : unt w' a l = unt w a l := by
 have e : l.map (unt1 w' a) = l.map (unt1 w a) := List.map_congr_left fun t ht => by
  cases t with
  | top => rfl
  | more e y t => rfl
  | part n x t =>
   by_cases hl : LB w (n + 5) a
   ·rw [unt1_pos hl, unt1_pos ((hg.cov_eq hR (h _ ht) a).2 hl)]
   ·rw [unt1_neg hl, unt1_neg fun h' => hl ((hg.cov_eq hR (h _ ht) a).1 h')]
 unfold unt
 rw [e]
theorem owns_keep {w w' : World} {B : Nat} {e : TypeId} {size n : Nat} {v : Value} {cs : List Value} (h : w.ownsRow B e size v n cs) (hk : ∀ b, v.ownBlock = some b → w'.heap[b]? = w.heap[b]?) : w'.ownsRow B e size v n cs :=
 prow_keep h fun i _ _ hi => hk i hi
theorem Inv.on {C : Ctx} {s : Sta} {w' : World} (h : Inv C s) (hb : Below s.w.heap.size s.w w') (a : Nat) : Inv C { s with w := w' } ∧ Step C a 0 s { s with w := w' } := by
 have hg := h.g
 have hR : ∀ b, s.G.R b → b ≠ C.W → b ≠ C.P → w'.heap[b]? = s.w.heap[b]? := fun b hb' _ _ => hb.block b (hg.rlt b hb').1
 have hB : ∀ i, i < C.base → w'.heap[i]? = s.w.heap[i]? := fun i hi => hb.block i (by have := hg.ord; have := (hg.rlt _ hg.rm.1).1; omega)
 have hW := hb.block _ (hg.rlt _ hg.rm.1).1
 have hP := hb.block _ (hg.rlt _ hg.rm.2.1).1
 have st := h.st
 have g' := hg.all hb.size hB hR
 refine ⟨⟨g', ⟨hW.trans st.wk, st.l.keep (fun _ h => h) (fun p hp => World.cell?_of_block (hB p.block hp)), owns_keep st.nr fun b e => hb.block b (World.ownsRow.lt st.nr b e).2, st.nn, hP.trans st.p0, owns_keep st.pr fun b e => hb.block b (World.ownsRow.lt st.pr b e).2, st.pn, st.np, st.nxe, st.cn⟩⟩, ?_⟩
 refine ⟨fun _ h => h, fun _ _ h => h, fun _ h => h, fun _ h => .inl h, fun t he ht => Cov.of hg (fun n x t hp hl => (hg.cov_eq hR hp a).2 hl) (fun hl => (hg.top_eq hR a).2 hl) t he ht, fun n x t hp hl => .inl ⟨hp, (hg.cov_eq hR hp a).1 hl⟩, fun _ h => h, fun _ h => .inl h, .inl rfl, fun hl => .inl ((hg.top_eq hR a).1 hl), Nat.le_refl _, ?_, fun b hlt _ _ _ => hb.block b hlt, .inl rfl, .inl rfl, hb.mono (by have := hg.ord; have := (hg.rlt _ hg.rm.1).1; omega), fun _ h => h, fun b hu => hb.block b (hg.rlt b (hg.ur b hu)).1, fun n x t z hp hl => .inr (.inr ⟨hp, (hg.cov_eq hR hp z).1 hl⟩), fun z hl => .inr ((hg.top_eq hR z).1 hl)⟩
 show unt w' a s.G.ps + _ ≤ _
 rw [unt_eq hg hR a s.G.ps fun _ h => h]
 exact Nat.le_refl _
end Go.Proofs.Ytpllgfhocedgmaa
namespace Go.Proofs.Ytpllgfhocedgmaa
open Go.RowKit

theorem LB.set {w : World} {b : Nat} {z : Int} (h : LB w b z) (z' : Int) : LB (w.setCell ⟨b, 0, none⟩ (.int .i64 z')) b z' := by
 unfold LB at h ⊢
 simp [World.setCell, Array.getElem?_modify, h]
theorem TB.set {w : World} {b : Nat} {v : Value} (h : TB w b v) (v' : Value) : TB (w.setCell ⟨b, 0, none⟩ v') b v' := by
 unfold TB at h ⊢
 simp [World.setCell, Array.getElem?_modify, h]
theorem LB.other {w : World} {b c : Nat} {z : Int} (v : Value) (o : Nat) (hne : b ≠ c) : LB (w.setCell ⟨c, o, none⟩ v) b z ↔ LB w b z := by
 unfold LB
 rw [Below.heap_setCell _ _ _ _ hne]
theorem cell_set {w : World} {b o : Nat} {u : Value} (h : w.cell? ⟨b, o, none⟩ = some u) (v : Value) : (w.setCell ⟨b, o, none⟩ v).cell? ⟨b, o, none⟩ = some v := World.cell?_setCell_same w ⟨b, o, none⟩ v h
theorem cell_other {w : World} {b o c p : Nat} (v : Value) (h : b ≠ c ∨ o ≠ p) : (w.setCell ⟨c, p, none⟩ v).cell? ⟨b, o, none⟩ = w.cell? ⟨b, o, none⟩ := World.cell?_setCell_other w ⟨c, p, none⟩ ⟨b, o, none⟩ v (fun e => by
 injection e with e1 e2
 rcases h with h | h
 ·exact h e1.symm
 ·exact h e2.symm)
theorem LB.lt {w : World} {b : Nat} {z : Int} (h : LB w b z) : b < w.heap.size := by
 unfold LB at h
 exact (Array.getElem?_eq_some_iff.1 h).1
theorem sum_less {f g : Tl → Nat} {l : List Tl} {t0 : Tl} {k : Nat} (hm : t0 ∈ l) (hle : ∀ t ∈ l, f t ≤ g t) (h1 : f t0 + k ≤ g t0) : (l.map f).sum + k ≤ (l.map g).sum := by
 have hall : ∀ r : List Tl, (∀ t ∈ r, f t ≤ g t) → (r.map f).sum ≤ (r.map g).sum := fun r => by
  induction r with
  | nil => intro _; simp
  | cons t r ih =>
   intro h
   have h2 := ih fun t ht => h t (by simp [ht])
   have h3 := h t (by simp)
   simp only [List.map_cons, List.sum_cons]
   omega
 induction l with
 | nil => cases hm
 | cons t r ih =>
  simp only [List.map_cons, List.sum_cons]
  rcases List.mem_cons.1 hm with rfl | hm
  ·have := hall r fun t ht => hle t (by simp [ht])
   omega
  ·have h2 := ih hm fun t ht => hle t (by simp [ht])
   have h3 := hle t (by simp)
   omega
section
variable {C : Ctx} {s : Sta}
theorem Inv.base_le (h : Inv C s) : C.base ≤ s.w.heap.size := by have := h.g.ord; have := (h.g.rlt _ h.g.rm.1).1; omega
theorem Inv.mark (h : Inv C s) {n : Nat} {x : Pt} {t : Tl} (hp : .part n x t ∈ s.G.ps) (a : Nat) (hne : ¬ LB s.w (n + 5) a) :
  Inv C { s with w := s.w.setCell ⟨n + 5, 0, none⟩ (.int .i64 a) } ∧ LB (s.w.setCell ⟨n + 5, 0, none⟩ (.int .i64 a)) (n + 5) a ∧ unt (s.w.setCell ⟨n + 5, 0, none⟩ (.int .i64 a)) a s.G.ps + 1 ≤ unt s.w a s.G.ps := by
 have hg := h.g
 have hk := hg.part n x t hp
 have hlo := hk.lo
 have hord := hg.ord
 obtain ⟨z, hz⟩ := hk.l
 have hh : ∀ i, i ≠ n + 5 → (s.w.setCell ⟨n + 5, 0, none⟩ (.int .i64 a)).heap[i]? = s.w.heap[i]? := fun i hi => Below.heap_setCell _ _ _ _ hi
 have hB : ∀ i, i < C.base → (s.w.setCell ⟨n + 5, 0, none⟩ (.int .i64 a)).heap[i]? = s.w.heap[i]? := fun i hi => hh i (by omega)
 have hl := hz.set a
 have st := h.st
 have hr : ∀ v : Value, (∀ b, v.ownBlock = some b → ¬ s.G.R b) → ∀ b, v.ownBlock = some b → (s.w.setCell ⟨n + 5, 0, none⟩ (.int .i64 a)).heap[b]? = s.w.heap[b]? := fun v hv b hb => hh b (fun e => hv b hb (e ▸ hk.r.2))
 refine ⟨⟨hg.keep (by simp) hB (fun b hb => hh b (fun e => hk.nu.2 (e ▸ hb))) (fun n' x' t' hp' => hh _ ?_) (fun n' x' t' hp' => ?_) ?_, ?_⟩, hl, ?_⟩
 ·rcases hg.sep n x t n' x' t' hp hp' with ⟨e, _⟩ | e | e <;> omega
 ·rcases hg.sep n x t n' x' t' hp hp' with ⟨e, _⟩ | e | e
  ·exact e ▸ ⟨_, hl⟩
  all_goals
   obtain ⟨z', hz'⟩ := (hg.part n' x' t' hp').l
   exact ⟨z', (LB.other _ _ (by omega)).2 hz'⟩
 ·obtain ⟨z', hz'⟩ := hg.topL
  exact ⟨z', (LB.other _ _ (by omega)).2 hz'⟩
 ·have cW : (s.w.setCell ⟨n + 5, 0, none⟩ (.int .i64 a)).heap[C.W]? = s.w.heap[C.W]? := hh _ (by omega)
  have cP : (s.w.setCell ⟨n + 5, 0, none⟩ (.int .i64 a)).heap[C.P]? = s.w.heap[C.P]? := hh _ (by omega)
  exact ⟨cW.trans st.wk, st.l.keep (fun _ h => h) (fun p hp => World.cell?_of_block (hB p.block hp)), owns_keep st.nr (hr _ st.nn), st.nn, cP.trans st.p0, owns_keep st.pr (hr _ st.pn), st.pn, st.np, st.nxe, st.cn⟩
 ·refine sum_less hp (fun t' ht' => ?_) (by rw [unt1_pos hl, unt1_neg hne]; exact Nat.le_refl _)
  cases t' with
  | top => exact Nat.le_refl _
  | more e y t => exact Nat.le_refl _
  | part n' x' t' =>
   by_cases hl' : LB s.w (n' + 5) a
   ·rw [unt1_pos hl']
    rcases hg.sep n x t n' x' t' hp ht' with ⟨e, _⟩ | e | e
    ·subst e; exact absurd hl' hne
    all_goals rw [unt1_pos ((LB.other _ _ (by omega)).2 hl')]; exact Nat.le_refl _
   ·rw [unt1_neg hl']
    by_cases hq : LB (s.w.setCell ⟨n + 5, 0, none⟩ (.int .i64 a)) (n' + 5) a
    ·rw [unt1_pos hq]; omega
    ·rw [unt1_neg hq]; exact Nat.le_refl _
theorem Inv.mark_top (h : Inv C s) (a : Nat) : Inv C { s with w := s.w.setCell ⟨C.c + 1, 0, none⟩ (.int .i64 a) } ∧ LB (s.w.setCell ⟨C.c + 1, 0, none⟩ (.int .i64 a)) (C.c + 1) a := by
 have hg := h.g
 have hord := hg.ord
 obtain ⟨z, hz⟩ := hg.topL
 have hh : ∀ i, i ≠ C.c + 1 → (s.w.setCell ⟨C.c + 1, 0, none⟩ (.int .i64 a)).heap[i]? = s.w.heap[i]? := fun i hi => Below.heap_setCell _ _ _ _ hi
 have hB : ∀ i, i < C.base → (s.w.setCell ⟨C.c + 1, 0, none⟩ (.int .i64 a)).heap[i]? = s.w.heap[i]? := fun i hi => hh i (by omega)
 have hl := hz.set a
 have st := h.st
 have hr : ∀ v : Value, (∀ b, v.ownBlock = some b → ¬ s.G.R b) → ∀ b, v.ownBlock = some b → (s.w.setCell ⟨C.c + 1, 0, none⟩ (.int .i64 a)).heap[b]? = s.w.heap[b]? := fun v hv b hb => hh b (fun e => hv b hb (e ▸ hg.rm.2.2))
 refine ⟨⟨hg.keep (by simp) hB (fun b hb => hh b (fun e => hg.um.2.2.1 (e ▸ hb))) (fun n' x' t' hp' => hh _ ?_) (fun n' x' t' hp' => ?_) ⟨_, hl⟩, ?_⟩, hl⟩
 ·have := (hg.part n' x' t' hp').lo; omega
 ·obtain ⟨z', hz'⟩ := (hg.part n' x' t' hp').l
  have := (hg.part n' x' t' hp').lo
  exact ⟨z', (LB.other _ _ (by omega)).2 hz'⟩
 ·have cW : (s.w.setCell ⟨C.c + 1, 0, none⟩ (.int .i64 a)).heap[C.W]? = s.w.heap[C.W]? := hh _ (by omega)
  have cP : (s.w.setCell ⟨C.c + 1, 0, none⟩ (.int .i64 a)).heap[C.P]? = s.w.heap[C.P]? := hh _ (by omega)
  exact ⟨cW.trans st.wk, st.l.keep (fun _ h => h) (fun p hp => World.cell?_of_block (hB p.block hp)), owns_keep st.nr (hr _ st.nn), st.nn, cP.trans st.p0, owns_keep st.pr (hr _ st.pn), st.pn, st.np, st.nxe, st.cn⟩
def Gh.lay (G : Gh) (n : Nat) (u : Inn) : Gh := { G with inn := fun m => if m = n then some u else G.inn m }
theorem Inv.build (h : Inv C s) {n : Nat} {x : Pt} {t : Tl} {u : Inn} (hp : .part n x t ∈ s.G.ps) (hn : s.G.inn n = none) (hu : InnOk C s.w s.G x t u) (a : Nat) :
  Inv C { s with w := s.w.setCell ⟨n + 3, 0, none⟩ (u.val C.c), G := s.G.lay n u } ∧ Step C a 0 s { s with w := s.w.setCell ⟨n + 3, 0, none⟩ (u.val C.c), G := s.G.lay n u } ∧ unb (s.G.lay n u).inn s.G.ps + (x.size - 1) ≤ unb s.G.inn s.G.ps ∧ unt (s.w.setCell ⟨n + 3, 0, none⟩ (u.val C.c)) a s.G.ps ≤ unt s.w a s.G.ps := by
 have hg := h.g
 have hk := hg.part n x t hp
 have hlo := hk.lo
 have hord := hg.ord
 have hh : ∀ i, i ≠ n + 3 → (s.w.setCell ⟨n + 3, 0, none⟩ (u.val C.c)).heap[i]? = s.w.heap[i]? := fun i hi => Below.heap_setCell _ _ _ _ hi
 have hB : ∀ i, i < C.base → (s.w.setCell ⟨n + 3, 0, none⟩ (u.val C.c)).heap[i]? = s.w.heap[i]? := fun i hi => hh i (by omega)
 have st := h.st
 have hr : ∀ v : Value, (∀ b, v.ownBlock = some b → ¬ s.G.R b) → ∀ b, v.ownBlock = some b → (s.w.setCell ⟨n + 3, 0, none⟩ (u.val C.c)).heap[b]? = s.w.heap[b]? := fun v hv b hb => hh b (fun e => hv b hb (e ▸ hk.r.1))
 have hU : ∀ b, s.G.U b → (s.G.lay n u).U b ∧ (s.w.setCell ⟨n + 3, 0, none⟩ (u.val C.c)).heap[b]? = s.w.heap[b]? := fun b hb => ⟨hb, hh b (fun e => hk.nu.1 (e ▸ hb))⟩
 have he : ∀ t, Ex s.G t → Ex (s.G.lay n u) t := fun _ h => h
 have hLo : ∀ n' x' t', Tl.part n' x' t' ∈ s.G.ps → ∀ z, LB (s.w.setCell ⟨n + 3, 0, none⟩ (u.val C.c)) (n' + 5) z ↔ LB s.w (n' + 5) z := fun n' x' t' hp' z => LB.other _ _ (by rcases hg.sep n x t n' x' t' hp hp' with ⟨e, _⟩ | e | e <;> omega)
 have hTo : ∀ z, LB (s.w.setCell ⟨n + 3, 0, none⟩ (u.val C.c)) (C.c + 1) z ↔ LB s.w (C.c + 1) z := fun z => LB.other _ _ (by omega)
 have hg' : Good C (s.w.setCell ⟨n + 3, 0, none⟩ (u.val C.c)) (s.G.lay n u) := by
  refine ⟨fun n' x' t' hp' => ?_, fun e y t' hp' => (hg.more e y t' hp').keep he (fun _ h => h) hU, hg.sep, hg.nd, (cell_eq (hU _ hg.um.2.2.2).2).trans hg.topT, ?_, hg.ur, fun b hb => ⟨by simpa using (hg.rlt b hb).1, (hg.rlt b hb).2⟩, hg.um, hg.rm, hg.ord, fun m v hm => ?_⟩
  ·have hk' := hg.part n' x' t' hp'
   refine hk'.keep he hU (fun _ h => h) (fun _ _ h => h) hB ?_ ?_ fun v hv => ?_
   ·rcases hg.sep n x t n' x' t' hp hp' with ⟨e, _⟩ | e | e
    ·subst e
     have := hk.i.set (u.val C.c)
     simpa [Gh.lay, innV] using this
    all_goals
     have := (hh (n' + 3) (by omega)).trans hk'.i
     simpa [Gh.lay, show n' ≠ n by omega, TB] using this
   ·obtain ⟨z, hz⟩ := hk'.l
    exact ⟨z, (hLo n' x' t' hp' z).2 hz⟩
   ·by_cases e : n' = n
    ·subst e
     obtain ⟨_, e2, e3⟩ : n' = n' ∧ x = x' ∧ t = t' := (hg.sep n' x t n' x' t' hp hp').resolve_right (by omega)
     subst e2 e3
     simp [Gh.lay] at hv
     subst hv
     exact hu.keep he hU hB
    ·simp [Gh.lay, e] at hv
     exact (hk'.inn v hv).keep he hU hB
  ·obtain ⟨z, hz⟩ := hg.topL
   exact ⟨z, (hTo z).2 hz⟩
  ·by_cases e : m = n
   ·subst e; exact ⟨x, t, hp⟩
   ·simp [Gh.lay, e] at hm
    exact hg.inn0 m v hm
 have cW : (s.w.setCell ⟨n + 3, 0, none⟩ (u.val C.c)).heap[C.W]? = s.w.heap[C.W]? := hh _ (by omega)
 have cP : (s.w.setCell ⟨n + 3, 0, none⟩ (u.val C.c)).heap[C.P]? = s.w.heap[C.P]? := hh _ (by omega)
 have hunt : unt (s.w.setCell ⟨n + 3, 0, none⟩ (u.val C.c)) a s.G.ps ≤ unt s.w a s.G.ps := by
  have := sum_less (f := unt1 (s.w.setCell ⟨n + 3, 0, none⟩ (u.val C.c)) a) (g := unt1 s.w a) (k := 0) hp (fun t' ht' => by
   cases t' with
   | top => exact Nat.le_refl _
   | more e y t => exact Nat.le_refl _
   | part n' x' t' =>
    by_cases hl' : LB s.w (n' + 5) a
    ·rw [unt1_pos hl', unt1_pos ((hLo _ _ _ ht' _).2 hl')]; exact Nat.le_refl _
    ·rw [unt1_neg hl', unt1_neg (fun h => hl' ((hLo _ _ _ ht' _).1 h))]; exact Nat.le_refl _) (by
   by_cases hl' : LB s.w (n + 5) a
   ·rw [unt1_pos hl', unt1_pos ((hLo _ _ _ hp _).2 hl')]; exact Nat.le_refl _
   ·rw [unt1_neg hl', unt1_neg (fun h => hl' ((hLo _ _ _ hp _).1 h))]; exact Nat.le_refl _)
  exact this
 have hle : ∀ t' ∈ s.G.ps, unb1 (s.G.lay n u).inn t' ≤ unb1 s.G.inn t' := fun t' ht' => by
  cases t' with
  | top => exact Nat.le_refl _
  | more e y t => exact Nat.le_refl _
  | part n' x' t' =>
   by_cases e : n' = n
   ·subst e; simp [unb1, Gh.lay]
   ·simp [unb1, Gh.lay, e]
 have hunb : unb (s.G.lay n u).inn s.G.ps + (x.size - 1) ≤ unb s.G.inn s.G.ps := sum_less hp hle (by simp [unb1, Gh.lay, hn])
 refine ⟨⟨hg', ⟨cW.trans st.wk, st.l.keep (fun _ h => h) (fun p hp => World.cell?_of_block (hB p.block hp)), owns_keep st.nr (hr _ st.nn), st.nn, cP.trans st.p0, owns_keep st.pr (hr _ st.pn), st.pn, st.np, st.nxe, st.cn⟩⟩, ?_, hunb, hunt⟩
 refine ⟨fun _ h => h, fun m v hm => ?_, fun _ h => h, fun _ h => .inl h, fun t he ht => Cov.of hg (fun n x t hp hl => (hLo _ _ _ hp _).2 hl) (fun hl => (hTo _).2 hl) t he ht, fun n' x' t' hp' hl => .inl ⟨hp', (hLo _ _ _ hp' _).1 hl⟩, fun _ h => h, fun _ h => .inl h, .inl rfl, fun hl => .inl ((hTo _).1 hl), ?_, ?_, fun b _ hr _ _ => hh b (fun e => hr (e ▸ hk.r.1)), .inl rfl, .inl rfl, (Below.refl _ _).setCell (p := ⟨n + 3, 0, none⟩) (by show C.base ≤ n + 3; omega) _, fun _ h => h, fun b hb => (hU b hb).2, fun n' x' t' z hp' hl => .inr (.inr ⟨hp', (hLo _ _ _ hp' _).1 hl⟩), fun z hl => .inr ((hTo _).1 hl)⟩
 ·by_cases e : m = n
  ·subst e; rw [hn] at hm; cases hm
  ·show (s.G.lay n u).inn m = some v
   simp [Gh.lay, e, hm]
 ·show s.mn + unb (s.G.lay n u).inn s.G.ps ≤ s.mn + unb s.G.inn s.G.ps + 0
  omega
 ·show unt (s.w.setCell ⟨n + 3, 0, none⟩ (u.val C.c)) a s.G.ps + unb (s.G.lay n u).inn s.G.ps ≤ unt s.w a s.G.ps + unb s.G.inn s.G.ps + 0
  omega
end
end Go.Proofs.Ytpllgfhocedgmaa
namespace Go.Proofs.Ytpllgfhocedgmaa
open Go.RowKit

section
variable {C : Ctx} {s : Sta}
theorem Inv.turn (h : Inv C s) {w' : World} {nv' pv' : Value} {nx' : List Tl} {pl' : List Int} {mn' : Nat} (hs : s.w.heap.size ≤ w'.heap.size) (hB : ∀ i, i < C.base → w'.heap[i]? = s.w.heap[i]?) (hR : ∀ b, s.G.R b → b ≠ C.W → b ≠ C.P → w'.heap[b]? = s.w.heap[b]?)
  (st : St C w' s.G nv' pv' nx' pl' mn') : Inv C ⟨w', s.G, nv', pv', nx', pl', mn'⟩ := ⟨h.g.all hs hB hR, st⟩
theorem Step.turn (h : Inv C s) {w' : World} {nv' pv' : Value} {nx' : List Tl} {pl' : List Int} {mn' a k : Nat} (hR : ∀ b, s.G.R b → b ≠ C.W → b ≠ C.P → w'.heap[b]? = s.w.heap[b]?)
  (nx : ∀ t ∈ s.nx, t ∈ nx') (nq : ∀ t ∈ nx', t ∈ s.nx ∨ ∃ x c, stp C.back C.l a x c ∧ Qs C t.stk c) (pl : pl' = s.pl) (hm : mn' ≤ s.mn + k)
  (keep : ∀ b, b < s.w.heap.size → ¬ s.G.R b → s.nv.ownBlock ≠ some b → s.pv.ownBlock ≠ some b → w'.heap[b]? = s.w.heap[b]?) (nvb : nv'.ownBlock = s.nv.ownBlock ∨ ∀ b, nv'.ownBlock = some b → s.w.heap.size ≤ b) (pvb : pv'.ownBlock = s.pv.ownBlock ∨ ∀ b, pv'.ownBlock = some b → s.w.heap.size ≤ b) (bel : Below C.base s.w w') : Step C a k s ⟨w', s.G, nv', pv', nx', pl', mn'⟩ := by
 have hg := h.g
 refine ⟨fun _ h => h, fun _ _ h => h, fun _ h => h, fun _ h => .inl h, fun t he ht => Cov.of hg (fun n x t hp hl => (hg.cov_eq hR hp a).2 hl) (fun hl => (hg.top_eq hR a).2 hl) t he ht, fun n x t hp hl => .inl ⟨hp, (hg.cov_eq hR hp a).1 hl⟩, nx, nq, .inl pl, fun hl => .inl ((hg.top_eq hR a).1 hl), ?_, ?_, keep, nvb, pvb, bel, fun _ h => h, fun b hb => hR b (hg.ur b hb) (fun e => hg.um.1 (e ▸ hb)) (fun e => hg.um.2.1 (e ▸ hb)), fun n x t z hp hl => .inr (.inr ⟨hp, (hg.cov_eq hR hp z).1 hl⟩), fun z hl => .inr ((hg.top_eq hR z).1 hl)⟩
 ·show mn' + unb s.G.inn s.G.ps ≤ s.mn + unb s.G.inn s.G.ps + k
  omega
 ·show unt w' a s.G.ps + unb s.G.inn s.G.ps ≤ unt s.w a s.G.ps + unb s.G.inn s.G.ps + k
  rw [unt_eq hg hR a s.G.ps fun _ h => h]
  omega
theorem set_W {w : World} {b : Nat} {x0 x1 x2 x3 v : Value} {e : TypeId} (h : w.heap[b]? = some (.cells #[x0, x1, x2, x3] e (0, 0))) : (w.setCell ⟨b, 2, none⟩ v).heap[b]? = some (.cells #[x0, x1, v, x3] e (0, 0)) ∧ (w.setCell ⟨b, 3, none⟩ v).heap[b]? = some (.cells #[x0, x1, x2, v] e (0, 0)) := by
 constructor <;> simp [World.setCell, Array.getElem?_modify, h]
theorem set_P {w : World} {b : Nat} {x0 v : Value} {e : TypeId} (h : w.heap[b]? = some (.cells #[x0] e (0, 0))) : (w.setCell ⟨b, 0, none⟩ v).heap[b]? = some (.cells #[v] e (0, 0)) := by simp [World.setCell, Array.getElem?_modify, h]
theorem Inv.note (h : Inv C s) {t : Tl} (ht : Ex s.G t) {w1 : World} {v' : Value} (ho : w1.ownsRow C.base 111 1 v' (s.nx.length + 1) (s.nx.map (Tl.val C.c) ++ [t.val C.c])) (hg : s.w.grownBy w1 s.nv.ownBlock) (hat : v'.ownBlock = s.nv.ownBlock ∨ v'.ownBlock = some s.w.heap.size)
  {a c : Nat} {x : Int} (hst : stp C.back C.l a x c) (hq : Qs C t.stk c) : Inv C ⟨w1.setCell ⟨C.W, 2, none⟩ v', s.G, v', s.pv, s.nx ++ [t], s.pl, s.mn⟩ ∧ Step C a 0 s ⟨w1.setCell ⟨C.W, 2, none⟩ v', s.G, v', s.pv, s.nx ++ [t], s.pl, s.mn⟩ := by
 have gg := h.g
 have st := h.st
 have hord := gg.ord
 have hbl := h.base_le
 have hr1 : ∀ b, s.G.R b → w1.heap[b]? = s.w.heap[b]? := fun b hb => hg.block b (gg.rlt b hb).1 (fun e => st.nn b e.symm hb)
 have hne : ∀ i, i ≠ C.W → (w1.setCell ⟨C.W, 2, none⟩ v').heap[i]? = w1.heap[i]? := fun i hi => Below.heap_setCell _ _ _ _ hi
 have hR : ∀ b, s.G.R b → b ≠ C.W → b ≠ C.P → (w1.setCell ⟨C.W, 2, none⟩ v').heap[b]? = s.w.heap[b]? := fun b hb h1 _ => (hne b h1).trans (hr1 b hb)
 have hB : ∀ i, i < C.base → (w1.setCell ⟨C.W, 2, none⟩ v').heap[i]? = s.w.heap[i]? := fun i hi => (hne i (by omega)).trans (hg.block i (by omega) (fun e => by have := (World.ownsRow.lt st.nr i e.symm).1; omega))
 have hvR : ∀ b, v'.ownBlock = some b → ¬ s.G.R b := fun b e hb => by
  rcases hat with h1 | h1
  ·exact st.nn b (h1 ▸ e) hb
  ·rw [h1] at e; injection e with e; have := (gg.rlt b hb).1; omega
 have hs : s.w.heap.size ≤ (w1.setCell ⟨C.W, 2, none⟩ v').heap.size := by simpa using hg.size
 refine ⟨h.turn hs hB hR ⟨?_, st.l.keep (fun _ h => h) (fun p hp => World.cell?_of_block (hB p.block hp)), ?_, hvR, ?_, ?_, st.pn, ?_, ?_, st.cn⟩, Step.turn h hR (fun t ht => List.mem_append_left _ ht) (fun t' ht' => ?_) rfl (Nat.le_refl _) (fun b hlt hr h1 _ => (hne b (fun e => hr (e ▸ gg.rm.1))).trans (hg.block b hlt (fun e => h1 e.symm))) ?_ (.inl rfl) ?_⟩
 ·exact (set_W ((hr1 _ gg.rm.1).trans st.wk)).1
 ·have := owns_keep ho fun b e => hne b (fun e2 => hvR b e (e2 ▸ gg.rm.1))
  simpa using this
 ·exact (hne _ (by omega)).trans ((hr1 _ gg.rm.2.1).trans st.p0)
 ·refine owns_keep st.pr fun b e => (hne b (fun e2 => st.pn b e (e2 ▸ gg.rm.1))).trans (hg.block b (World.ownsRow.lt st.pr b e).2 (fun e2 => st.np b e e2.symm))
 ·intro b e e2
  rcases hat with h1 | h1
  ·exact st.np b e (h1 ▸ e2)
  ·rw [h1] at e2; injection e2 with e2; have := (World.ownsRow.lt st.pr b e).2; omega
 ·intro t' ht'
  rcases List.mem_append.1 ht' with h1 | h1
  ·exact st.nxe t' h1
  ·rw [List.mem_singleton.1 h1]; exact ht
 ·rcases List.mem_append.1 ht' with h1 | h1
  ·exact .inl h1
  ·rw [List.mem_singleton.1 h1]; exact .inr ⟨x, c, hst, hq⟩
 ·rcases hat with h1 | h1
  ·exact .inl h1
  ·exact .inr fun b e => by rw [h1] at e; injection e with e; omega
 ·exact ⟨hg.os, hg.tape, hg.output, hs, hB⟩
theorem Inv.place (h : Inv C s) {a : Nat} {w1 : World} {v' : Value} (ho : OwnK .i64 w1 C.base 3 v' (s.pl.length + 1) (s.pl ++ [(a : Int)])) (hg : s.w.grownBy w1 s.pv.ownBlock) (hat : v'.ownBlock = s.pv.ownBlock ∨ v'.ownBlock = some s.w.heap.size) :
  Inv C ⟨w1.setCell ⟨C.P, 0, none⟩ v', s.G, s.nv, v', s.nx, s.pl ++ [(a : Int)], s.mn⟩ ∧ (∀ b, s.G.R b → b ≠ C.W → b ≠ C.P → (w1.setCell ⟨C.P, 0, none⟩ v').heap[b]? = s.w.heap[b]?) ∧ (∀ b, b < s.w.heap.size → ¬ s.G.R b → s.nv.ownBlock ≠ some b → s.pv.ownBlock ≠ some b → (w1.setCell ⟨C.P, 0, none⟩ v').heap[b]? = s.w.heap[b]?) ∧ Below C.base s.w (w1.setCell ⟨C.P, 0, none⟩ v') := by
 have gg := h.g
 have st := h.st
 have hord := gg.ord
 have hbl := h.base_le
 have hr1 : ∀ b, s.G.R b → w1.heap[b]? = s.w.heap[b]? := fun b hb => hg.block b (gg.rlt b hb).1 (fun e => st.pn b e.symm hb)
 have hne : ∀ i, i ≠ C.P → (w1.setCell ⟨C.P, 0, none⟩ v').heap[i]? = w1.heap[i]? := fun i hi => Below.heap_setCell _ _ _ _ hi
 have hR : ∀ b, s.G.R b → b ≠ C.W → b ≠ C.P → (w1.setCell ⟨C.P, 0, none⟩ v').heap[b]? = s.w.heap[b]? := fun b hb _ h1 => (hne b h1).trans (hr1 b hb)
 have hB : ∀ i, i < C.base → (w1.setCell ⟨C.P, 0, none⟩ v').heap[i]? = s.w.heap[i]? := fun i hi => (hne i (by omega)).trans (hg.block i (by omega) (fun e => by have := (World.ownsRow.lt st.pr i e.symm).1; omega))
 have hvR : ∀ b, v'.ownBlock = some b → ¬ s.G.R b := fun b e hb => by
  rcases hat with h1 | h1
  ·exact st.pn b (h1 ▸ e) hb
  ·rw [h1] at e; injection e with e; have := (gg.rlt b hb).1; omega
 have hs : s.w.heap.size ≤ (w1.setCell ⟨C.P, 0, none⟩ v').heap.size := by simpa using hg.size
 refine ⟨h.turn hs hB hR ⟨?_, st.l.keep (fun _ h => h) (fun p hp => World.cell?_of_block (hB p.block hp)), ?_, st.nn, ?_, ?_, hvR, ?_, st.nxe, st.cn⟩, hR, fun b hlt hr _ h1 => (hne b (fun e => hr (e ▸ gg.rm.2.1))).trans (hg.block b hlt (fun e => h1 e.symm)), hg.os, hg.tape, hg.output, hs, hB⟩
 ·exact (hne _ (by omega)).trans ((hr1 _ gg.rm.1).trans st.wk)
 ·exact owns_keep st.nr fun b e => (hne b (fun e2 => st.nn b e (e2 ▸ gg.rm.2.1))).trans (hg.block b (World.ownsRow.lt st.nr b e).2 (fun e2 => st.np b e2.symm e))
 ·exact set_P ((hr1 _ gg.rm.2.1).trans st.p0)
 ·have := owns_keep ho fun b e => hne b (fun e2 => hvR b e (e2 ▸ gg.rm.2.1))
  show OwnK .i64 _ _ _ _ (s.pl ++ [(a : Int)]).length _
  rw [List.length_append]
  exact this
 ·intro b e e2
  rcases hat with h1 | h1
  ·exact st.np b (h1 ▸ e) e2
  ·rw [h1] at e; injection e with e; have := (World.ownsRow.lt st.nr b e2).2; omega
theorem Inv.fresh (h : Inv C s) : Inv C ⟨s.w.setCell ⟨C.W, 2, none⟩ (.slice none 0 0), s.G, .slice none 0 0, s.pv, [], s.pl, s.mn⟩ := by
 have gg := h.g
 have st := h.st
 have hord := gg.ord
 have hne : ∀ i, i ≠ C.W → (s.w.setCell ⟨C.W, 2, none⟩ (.slice none 0 0)).heap[i]? = s.w.heap[i]? := fun i hi => Below.heap_setCell _ _ _ _ hi
 have hB : ∀ i, i < C.base → (s.w.setCell ⟨C.W, 2, none⟩ (.slice none 0 0)).heap[i]? = s.w.heap[i]? := fun i hi => hne i (by omega)
 refine h.turn (by simp) hB (fun b _ h1 _ => hne b h1) ⟨(set_W st.wk).1, st.l.keep (fun _ h => h) (fun p hp => World.cell?_of_block (hB p.block hp)), World.ownsRow_nil _ _ _ _, (fun b e => by cases e), (hne _ (by omega)).trans st.p0, owns_keep st.pr (fun b e => hne b (fun e2 => st.pn b e (e2 ▸ gg.rm.1))), st.pn, (fun b _ e => by cases e), (fun t ht => by cases ht), st.cn⟩
end
theorem app_v {P : Program} {w : World} {o : Oper} {a : Act} {K : Act → World → Prop} {Q : Exit → Act → World → Prop} (s x : Operand) (t : TypeId)
  (ho : o.op = .call { callee := .builtin .append, args := #[s, x], argTypes := #[t, t] }) (base : Nat) (e : TypeId) {z : Value} {bytes : Nat} (ht : P.underlying t = some (.slice e)) (hi : (P.info? e).map (fun i => (i.zero, i.size, i.bytes)) = some (some z, 1, bytes)) (hzs : z.cells.size = 1) (hby : bytes ≤ 1000)
  (v : Value) (n : Nat) (xs : List Value) (hs : a.eval s = v) (hown : w.ownsRow base e 1 v n xs) (N : Nat) (u : Value) (te : TypeId) (hx : a.eval x = .slice (some ⟨N, 0, none⟩) 1 1) (hrow : w.heap[N]? = some (.cells #[u] te (0, 0))) (hu : u.oneCell' = true) (h63 : n ≤ 1000000) (hbase : base ≤ w.heap.size)
  (h : ∀ v' w', w'.ownsRow base e 1 v' (n + 1) (xs ++ [u]) → w.grownBy w' v.ownBlock → (v'.ownBlock = v.ownBlock ∨ v'.ownBlock = some w.heap.size) → K (a.put o.dst v') w') : Oper.wp P o a w K Q := by
 obtain ⟨i0, hi0, hz0, hz1, hz2⟩ := info_k hi
 obtain ⟨v', w', hrun, h2, h3, _, h5⟩ := run_append_own_at (P := P) w base t o.type e i0 z 1 bytes ht hi0 hz0 hz1 hz2 hzs (by decide) v n xs hown ⟨N, 0, none⟩ 1 1 [u] rfl (fun j y hy => by
  rw [kadd_none, cell_of_row _ _ _ _ _ _ hrow, Nat.zero_add]
  simpa using hy) (fun y hy => by rw [List.mem_singleton.1 hy]; exact hu) (by unfold maxLen; omega) (Nat.le_trans (Nat.mul_le_mul (Nat.succ_le_succ h63) hby) (by decide)) hbase
 unfold Oper.wp execOp
 simp only [ho, resolve, invoke, builtin, Sem.run_bind, Sem.run_pure, Result.andThen_ok, List.map_toArray, List.map_cons, List.map_nil, hs, hx, hrun]
 exact h v' w' h2 h3 h5
end Go.Proofs.Ytpllgfhocedgmaa
namespace Go.Proofs.Ytpllgfhocedgmaa
open Go.RowKit

section
variable {C : Ctx}
theorem Good.lt_part {w : World} {G : Gh} (h : Good C w G) {n : Nat} {x : Pt} {t : Tl} (hp : .part n x t ∈ G.ps) : n + 5 < w.heap.size := by
 obtain ⟨z, hz⟩ := (h.part n x t hp).l
 exact hz.lt
theorem Good.lt_more {w : World} {G : Gh} (h : Good C w G) {e : Nat} {y : Pt} {t : Tl} (hp : .more e y t ∈ G.ps) : e + 8 < w.heap.size := h.lt_part (h.more e y t hp).kid
theorem Good.ext {w w' : World} {G G' : Gh} (h : Good C w G) {new : List Tl} (hps : G'.ps = new ++ G.ps) (hin : G'.inn = G.inn) (hU : ∀ b, G.U b → G'.U b) (hU' : ∀ b, G'.U b → G.U b ∨ w.heap.size ≤ b) (hR : ∀ b, G.R b → G'.R b) (hR' : ∀ b, G'.R b → G.R b ∨ (w.heap.size ≤ b ∧ b < w'.heap.size)) (hUR : ∀ b, G'.U b → G'.R b)
  (hs : w.heap.size ≤ w'.heap.size) (old : ∀ b, b < w.heap.size → b ≠ C.W → w'.heap[b]? = w.heap[b]?) (hnp : ∀ n x t, .part n x t ∈ new → w.heap.size ≤ n ∧ PartOk C w' G' n x t) (hnm : ∀ e y t, .more e y t ∈ new → w.heap.size ≤ e ∧ MoreOk C w' G' e y t) (hnd : new.Nodup) (htop : Tl.top ∉ new)
  (hsep : ∀ n x t n' x' t', .part n x t ∈ new → .part n' x' t' ∈ new → (n = n' ∧ x = x' ∧ t = t') ∨ n + 6 ≤ n' ∨ n' + 6 ≤ n) : Good C w' G' := by
 have hord := h.ord
 have hWlt := (h.rlt _ h.rm.1).1
 have he : ∀ t, Ex G t → Ex G' t := fun t ht => ht.imp id fun h1 => by rw [hps]; exact List.mem_append_right _ h1
 have hp0 : ∀ t ∈ G.ps, t ∈ G'.ps := fun t ht => by rw [hps]; exact List.mem_append_right _ ht
 have hold : ∀ b, G.R b → b ≠ C.W → w'.heap[b]? = w.heap[b]? := fun b hb hn => old b (h.rlt b hb).1 hn
 have hUo : ∀ b, G.U b → G'.U b ∧ w'.heap[b]? = w.heap[b]? := fun b hb => ⟨hU b hb, hold b (h.ur b hb) (fun e => h.um.1 (e ▸ hb))⟩
 have hB : ∀ i, i < C.base → w'.heap[i]? = w.heap[i]? := fun i hi => old i (by omega) (by omega)
 have hu : ∀ b, G.R b → ¬ G.U b → ¬ G'.U b := fun b hr hn hu => by
  rcases hU' b hu with h1 | h1
  ·exact hn h1
  ·have := (h.rlt b hr).1; omega
 refine ⟨fun n x t hp => ?_, fun e y t hp => ?_, fun n x t n' x' t' hp hp' => ?_, ?_, (cell_eq (hUo _ h.um.2.2.2).2).trans h.topT, ?_, hUR, fun b hb => ?_, ⟨hu _ h.rm.1 h.um.1, hu _ h.rm.2.1 h.um.2.1, hu _ h.rm.2.2 h.um.2.2.1, hU _ h.um.2.2.2⟩, ⟨hR _ h.rm.1, hR _ h.rm.2.1, hR _ h.rm.2.2⟩, h.ord, fun n u hn => ?_⟩
 ·rw [hps] at hp
  rcases List.mem_append.1 hp with hp | hp
  ·exact (hnp n x t hp).2
  ·have hk := h.part n x t hp
   have hlo := hk.lo
   obtain ⟨z, hz⟩ := hk.l
   exact hk.keep he hUo hR hu hB (by rw [hin]; exact (hold _ hk.r.1 (by omega)).trans hk.i) ⟨z, (hold _ hk.r.2 (by omega)).trans hz⟩ fun u hn => by rw [hin] at hn; exact (hk.inn u hn).keep he hUo hB
 ·rw [hps] at hp
  rcases List.mem_append.1 hp with hp | hp
  ·exact (hnm e y t hp).2
  ·exact (h.more e y t hp).keep he hp0 hUo
 ·rw [hps] at hp hp'
  rcases List.mem_append.1 hp with hp | hp <;> rcases List.mem_append.1 hp' with hp' | hp'
  ·exact hsep n x t n' x' t' hp hp'
  ·have := (hnp n x t hp).1
   have := h.lt_part hp'
   omega
  ·have := (hnp n' x' t' hp').1
   have := h.lt_part hp
   omega
  ·exact h.sep n x t n' x' t' hp hp'
 ·rw [hps]
  refine List.nodup_append.2 ⟨hnd, h.nd, fun t ht t' ht' e => ?_⟩
  subst e
  cases t with
  | top => exact htop ht
  | part n x t => have := (hnp n x t ht).1; have := h.lt_part ht'; omega
  | more e y t => have := (hnm e y t ht).1; have := h.lt_more ht'; omega
 ·obtain ⟨z, hz⟩ := h.topL
  exact ⟨z, (hold _ h.rm.2.2 (by omega)).trans hz⟩
 ·rcases hR' b hb with h1 | h1
  ·exact ⟨Nat.lt_of_lt_of_le (h.rlt b h1).1 hs, (h.rlt b h1).2⟩
  ·exact ⟨h1.2, by omega⟩
 ·rw [hin] at hn
  obtain ⟨x, t, hp⟩ := h.inn0 n u hn
  exact ⟨x, t, hp0 _ hp⟩
theorem Inv.ext {s : Sta} (h : Inv C s) {w' : World} {G' : Gh} {new : List Tl} {mn' : Nat} (hg : Good C w' G') (hps : G'.ps = new ++ s.G.ps) (hin : G'.inn = s.G.inn) (hU9 : ∀ b, s.G.U b → G'.U b) (hR : ∀ b, s.G.R b → G'.R b) (hR' : ∀ b, G'.R b → s.G.R b ∨ (s.w.heap.size ≤ b ∧ b < w'.heap.size))
  (hb : Below C.base s.w w') (old : ∀ b, b < s.w.heap.size → b ≠ C.W → w'.heap[b]? = s.w.heap[b]?) (hwk : w'.heap[C.W]? = some (.cells #[.slice C.lA C.ln C.lc, .bool C.back, s.nv, .int .i64 mn'] 66 (0, 0)))
  (hlb : ∀ n x t, .part n x t ∈ new → LB w' (n + 5) (-1)) (hcn : cntP new + s.mn ≤ mn') {a k : Nat} (hbud : mn' + unb s.G.inn new ≤ s.mn + k) (hmu : unt w' a new + unb s.G.inn new ≤ k) :
  Inv C ⟨w', G', s.nv, s.pv, s.nx, s.pl, mn'⟩ ∧ Step C a k s ⟨w', G', s.nv, s.pv, s.nx, s.pl, mn'⟩ := by
 have gg := h.g
 have st := h.st
 have hord := gg.ord
 have hbl := h.base_le
 have hRW : ∀ b, s.G.R b → b ≠ C.W → b ≠ C.P → w'.heap[b]? = s.w.heap[b]? := fun b hb h1 _ => old b (gg.rlt b hb).1 h1
 have hB : ∀ i, i < C.base → w'.heap[i]? = s.w.heap[i]? := fun i hi => old i (by omega) (by omega)
 have hnR : ∀ v : Value, (∀ b, v.ownBlock = some b → ¬ s.G.R b) → (∀ b, v.ownBlock = some b → b < s.w.heap.size) → ∀ b, v.ownBlock = some b → ¬ G'.R b := fun v h1 h2 b e hb => by
  rcases hR' b hb with h3 | h3
  ·exact h1 b e h3
  ·have := h2 b e; omega
 have hrow : ∀ v : Value, (∀ b, v.ownBlock = some b → ¬ s.G.R b) → (∀ b, v.ownBlock = some b → b < s.w.heap.size) → ∀ b, v.ownBlock = some b → w'.heap[b]? = s.w.heap[b]? := fun v h1 h2 b e => old b (h2 b e) (fun e2 => h1 b e (e2 ▸ gg.rm.1))
 have hnlt := fun b e => (World.ownsRow.lt st.nr b e).2
 have hplt := fun b e => (World.ownsRow.lt st.pr b e).2
 refine ⟨⟨hg, hwk, st.l.keep (fun _ h => h) (fun p hp => World.cell?_of_block (hB p.block hp)), owns_keep st.nr (hrow _ st.nn hnlt), hnR _ st.nn hnlt, (old _ (gg.rlt _ gg.rm.2.1).1 (by omega)).trans st.p0, owns_keep st.pr (hrow _ st.pn hplt), hnR _ st.pn hplt, st.np, (fun t ht => (st.nxe t ht).imp id fun h1 => by rw [hps]; exact List.mem_append_right _ h1), by
  have h1 := st.cn
  have h2 : cntP (new ++ s.G.ps) = cntP new + cntP s.G.ps := by simp [cntP]
  show cntP G'.ps ≤ mn'
  rw [hps, h2]
  have h3 := hcn
  omega⟩, ?_⟩
 refine ⟨fun t ht => by rw [hps]; exact List.mem_append_right _ ht, fun n u hu => by rw [hin]; exact hu, hR, fun b hb => (hR' b hb).imp id (fun h => h.1), fun t he ht => Cov.of gg (fun n x t hp hl => (gg.cov_eq hRW hp a).2 hl) (fun hl => (gg.top_eq hRW a).2 hl) t he ht, fun n x t hp hl => ?_, fun _ h => h, fun _ h => .inl h, .inl rfl, fun hl => .inl ((gg.top_eq hRW a).1 hl), ?_, ?_, fun b hlt hr _ _ => old b hlt (fun e => hr (e ▸ gg.rm.1)), .inl rfl, .inl rfl, hb, hU9, fun b hu => old b (gg.rlt b (gg.ur b hu)).1 (fun e => gg.um.1 (e ▸ hu)), fun n x t z hp hl => ?_, fun z hl => .inr ((gg.top_eq hRW z).1 hl)⟩
 ·change Tl.part n x t ∈ G'.ps at hp
  rw [hps] at hp
  rcases List.mem_append.1 hp with hp | hp
  ·have h1 := hlb n x t hp
   unfold LB at h1 hl
   rw [h1] at hl
   simp at hl
  ·exact .inl ⟨hp, (gg.cov_eq hRW hp a).1 hl⟩
 ·show mn' + unb G'.inn G'.ps ≤ s.mn + unb s.G.inn s.G.ps + k
  have e : unb s.G.inn (new ++ s.G.ps) = unb s.G.inn new + unb s.G.inn s.G.ps := by simp [unb]
  rw [hin, hps, e]
  omega
 ·show unt w' a G'.ps + unb G'.inn G'.ps ≤ unt s.w a s.G.ps + unb s.G.inn s.G.ps + k
  have e : unb s.G.inn (new ++ s.G.ps) = unb s.G.inn new + unb s.G.inn s.G.ps := by simp [unb]
  have e2 : unt w' a (new ++ s.G.ps) = unt w' a new + unt w' a s.G.ps := by simp [unt]
  rw [hin, hps, e, e2, unt_eq gg hRW a s.G.ps fun _ h => h]
  omega
 ·change Tl.part n x t ∈ G'.ps at hp
  rw [hps] at hp
  rcases List.mem_append.1 hp with hp | hp
  ·have h1 := hlb n x t hp
   unfold LB at h1 hl
   rw [h1] at hl
   simp at hl
   exact .inr (.inl hl.symm)
  ·exact .inr (.inr ⟨hp, (gg.cov_eq hRW hp z).1 hl⟩)
structure PartMem (C : Ctx) (w w' : World) (n : Nat) (pc : Array Value) (tv nv : Value) (mn : Nat) : Prop where
 at_ : w.heap.size = n
 size : w'.heap.size = n + 6
 old : ∀ b, b < n → b ≠ C.W → w'.heap[b]? = w.heap[b]?
 wk : w'.heap[C.W]? = some (.cells #[.slice C.lA C.ln C.lc, .bool C.back, nv, .int .i64 ((mn : Int) + 1)] 66 (0, 0))
 h0 : w'.cell? ⟨n, 0, none⟩ = some (pb C.W)
 h1 : w'.heap[n + 1]? = some (.cells pc 26 (0, 0))
 h2 : TB w' (n + 2) tv
 h3 : TB w' (n + 3) .nilFunc
 h4 : TB w' (n + 4) (partV n)
 h5 : LB w' (n + 5) (-1)
 bel : Below C.base w w'
theorem TB.cell {w : World} {b : Nat} {v : Value} (h : TB w b v) : w.cell? ⟨b, 0, none⟩ = some v := by
 unfold TB at h
 simp [World.cell?, h]
theorem TB.fr {w : World} {b : Nat} {v : Value} (h : TB w b v) : w.frozen? ⟨b, 0, none⟩ = false := frozen_of_row _ _ _ _ _ h
theorem LB.fr {w : World} {b : Nat} {z : Int} (h : LB w b z) : w.frozen? ⟨b, 0, none⟩ = false := frozen_of_row _ _ _ _ _ h
structure PatV (C : Ctx) (w : World) (pc : Array Value) (x : Pt) : Prop where
 is : ∃ sA sn sc gA gn gc A k c, pc = #[.int .i64 x.kind, .slice sA sn sc, .slice gA gn gc, .slice A k c] ∧ PtIn w (fun b => b < C.base) sA sn sc gA gn gc A k c x
def Gh.addp (G : Gh) (n : Nat) (x : Pt) (t : Tl) : Gh := ⟨.part n x t :: G.ps, G.inn, fun b => G.U b ∨ (n ≤ b ∧ b < n + 6 ∧ b ≠ n + 3 ∧ b ≠ n + 5), fun b => G.R b ∨ (n ≤ b ∧ b < n + 6)⟩
theorem Inv.addp {s : Sta} (h : Inv C s) {w' : World} {n : Nat} {x : Pt} {t : Tl} {pc : Array Value} (hm : PartMem C s.w w' n pc (t.val C.c) s.nv s.mn) (hx : PatV C s.w pc x) (ht : Ex s.G t) (a : Nat) :
  Inv C ⟨w', s.G.addp n x t, s.nv, s.pv, s.nx, s.pl, s.mn + 1⟩ ∧ Step C a x.size s ⟨w', s.G.addp n x t, s.nv, s.pv, s.nx, s.pl, s.mn + 1⟩ := by
 have gg := h.g
 have hord := gg.ord
 have hat := hm.at_
 have hsz := hm.size
 have hbl := h.base_le
 have hnone : s.G.inn n = none := by
  cases hi : s.G.inn n with
  | none => rfl
  | some u =>
   obtain ⟨x', t', hp⟩ := gg.inn0 n u hi
   have := gg.lt_part hp
   omega
 have hu3 : ∀ b, s.w.heap.size ≤ b → ¬ s.G.U b := fun b hb hu => by have := (gg.rlt b (gg.ur b hu)).1; omega
 have hclt := (gg.rlt _ gg.rm.2.2).1
 have hB : ∀ i, i < C.base → w'.heap[i]? = s.w.heap[i]? := fun i hi => hm.old i (by omega) (by omega)
 have hp1 : PatB C w' (n + 1) x := by
  obtain ⟨sA, sn, sc, gA, gn, gc, A, k, c, e, hi⟩ := hx.is
  exact ⟨sA, sn, sc, gA, gn, gc, A, k, c, e ▸ hm.h1, hi.keep (fun _ h => h) (fun p hp => World.cell?_of_block (hB p.block hp))⟩
 have hg' : Good C w' (s.G.addp n x t) := by
  refine gg.ext (new := [.part n x t]) rfl rfl (fun b hb => .inl hb) (fun b hb => ?_) (fun b hb => .inl hb) (fun b hb => ?_) (fun b hb => ?_) (by omega) (fun b hlt hb => hm.old b (by omega) hb) (fun n' x' t' hp' => ?_) (fun e y t' hp' => ?_) (by simp) (by simp) (fun n1 x1 t1 n2 x2 t2 h1 h2 => ?_)
  ·rcases hb with h1 | h1
   ·exact .inl h1
   ·exact .inr (by omega)
  ·rcases hb with h1 | h1
   ·exact .inl h1
   ·exact .inr (by omega)
  ·rcases hb with h1 | h1
   ·exact .inl (gg.ur b h1)
   ·exact .inr ⟨h1.1, h1.2.1⟩
  ·rw [List.mem_singleton] at hp'
   injection hp' with e1 e2 e3
   subst e1 e2 e3
   refine ⟨by omega, ⟨ht.imp id fun h1 => List.mem_cons_of_mem _ h1, ⟨.inr (by omega), .inr (by omega), .inr (by omega), .inr (by omega)⟩, ⟨.inr (by omega), .inr (by omega)⟩, ⟨fun h1 => ?_, fun h1 => ?_⟩, by omega, hm.h0, hp1, hm.h2.cell, ?_, hm.h4.cell, ⟨_, hm.h5⟩, fun u hu => ?_⟩⟩
   ·rcases h1 with h1 | h1
    ·exact hu3 _ (by omega) h1
    ·omega
   ·rcases h1 with h1 | h1
    ·exact hu3 _ (by omega) h1
    ·omega
   ·show TB w' (n' + 3) (innV C.c (s.G.inn n'))
    rw [hnone]
    exact hm.h3
   ·have : s.G.inn n' = some u := hu
    rw [hnone] at this
    cases this
  ·rw [List.mem_singleton] at hp'
   cases hp'
  ·rw [List.mem_singleton] at h1 h2
   injection h1 with e1 e2 e3
   injection h2 with f1 f2 f3
   exact .inl ⟨e1.trans f1.symm, e2.trans f2.symm, e3.trans f3.symm⟩
 have hxs := x.size_pos
 have hub : unb s.G.inn [.part n x t] = x.size - 1 := by simp [unb, unb1, hnone]
 have hut : unt w' a [.part n x t] ≤ 1 := by
  show (unt1 w' a (.part n x t)) + 0 ≤ 1
  by_cases hl : LB w' (n + 5) a
  ·rw [unt1_pos hl]; omega
  ·rw [unt1_neg hl]; omega
 refine h.ext hg' (new := [.part n x t]) rfl rfl (fun b hb => .inl hb) (fun b hb => .inl hb) (fun b hb => ?_) hm.bel (fun b hlt hb => hm.old b (by omega) hb) (by have := hm.wk; simpa using this) (fun n' x' t' hp' => ?_) (by show 1 + 0 + s.mn ≤ s.mn + 1; omega) ?_ ?_
 ·rcases hb with h1 | h1
  ·exact .inl h1
  ·exact .inr (by omega)
 ·rw [List.mem_singleton] at hp'
  injection hp' with e1 e2 e3
  rw [e1]
  exact hm.h5
 ·rw [hub]; omega
 ·rw [hub]; omega
end
end Go.Proofs.Ytpllgfhocedgmaa
namespace Go.Proofs.Ytpllgfhocedgmaa
open Go.RowKit

def onceW (w : World) (v : Value) : World := (w.alloc (.cells #[v] 111)).alloc (.cells #[.int .i64 (-1)] 3)
theorem once_any (w : World) (g : Fn) (cap : Array Value) : Calls Try.prog 61 #[.func g #[] cap] w (fun en w' => en = .returned (onceV w.heap.size (w.heap.size + 1)) ∧ w' = onceW w (.func g #[] cap)) := by
 have hmf : ∀ (fn : Fn) (first cap : Array Value) (w : World), (Instr.makeFunc fn first cap).run Try.prog w = .ok (.func fn first cap) w := fun _ _ _ _ => rfl
 go_enter Try.func61, Try.ntmps61
 go_wp2_with fail
 go_ret
 exact ⟨rfl, rfl⟩
theorem onceW_mem (w : World) (v : Value) : (onceW w v).heap.size = w.heap.size + 2 ∧ (∀ b, b < w.heap.size → (onceW w v).heap[b]? = w.heap[b]?) ∧ TB (onceW w v) w.heap.size v ∧ LB (onceW w v) (w.heap.size + 1) (-1) ∧ Below w.heap.size w (onceW w v) := by
 have hl : LB (onceW w v) (w.heap.size + 1) (-1) := by
  have := heap_alloc_new (w.alloc (.cells #[v] 111)) (.cells #[.int .i64 (-1)] 3)
  simpa [LB, onceW] using this
 have hb : Below w.heap.size w (onceW w v) := (kbelow_push w _).alloc (by simp) _
 refine ⟨by simp [onceW], fun b hb' => hb.block b hb', ?_, hl, hb⟩
 have h0 := heap_alloc_new w (.cells #[v] 111)
 have h1 := (kbelow_push (w.alloc (.cells #[v] 111)) (.cells #[.int .i64 (-1)] 3)).block w.heap.size (by simp)
 exact h1.trans h0
theorem hcells4 {w : World} {N : Nat} {x0 x1 x2 x3 : Value} {t : TypeId} (h : w.heap[N]? = some (.cells #[x0, x1, x2, x3] t (0, 0))) : w.cell? ⟨N, 0, none⟩ = some x0 ∧ w.cell? ⟨N, 1, none⟩ = some x1 ∧ w.cell? ⟨N, 2, none⟩ = some x2 ∧ w.cell? ⟨N, 3, none⟩ = some x3 := by
 refine ⟨?_, ?_, ?_, ?_⟩ <;> (rw [cell_of_row _ _ _ _ _ _ h]; rfl)
section
variable {C : Ctx} {s : Sta}
theorem part_any (h : Inv C s) (hmn : s.mn ≤ 1000000000000) (k : Int) (sA gA A : Option Addr) (sn sc gn gc m c : Nat) (g : Fn) (cap : Array Value) : Calls Try.prog 60 #[pb C.W, .agg #[.int .i64 k, .slice sA sn sc, .slice gA gn gc, .slice A m c], .func g #[] cap] s.w (fun en w' => en = .returned (onceV (s.w.heap.size + 4) (s.w.heap.size + 5)) ∧ PartMem C s.w w' s.w.heap.size #[.int .i64 k, .slice sA sn sc, .slice gA gn gc, .slice A m c] (.func g #[] cap) s.nv s.mn) := by
 have hmf : ∀ (fn : Fn) (first cap : Array Value) (w : World), (Instr.makeFunc fn first cap).run Try.prog w = .ok (.func fn first cap) w := fun _ _ _ _ => rfl
 have gg := h.g
 have st := h.st
 have hord := gg.ord
 have hWlt := (gg.rlt _ gg.rm.1).1
 have hbl := h.base_le
 obtain ⟨w, G, nv, pv, nx, pl, mn⟩ := s
 simp only at hWlt hbl st hmn ⊢
 have HK0 : Hid (w.heap[C.W]? = some (.cells #[.slice C.lA C.ln C.lc, .bool C.back, nv, .int .i64 mn] 66 (0, 0))) := st.wk
 have HORD := Lib.hid hord
 have HWLT := Lib.hid hWlt
 have HBL := Lib.hid hbl
 have HMN := Lib.hid hmn
 clear gg st hord h hbl
 unfold pb
 generalize hN : C.W = W at *
 have HNW := Lib.hid hN
 clear hN
 have B1 := kbelow_push w (.cells #[.pointer (some ⟨W, 0, none⟩)] 109)
 have B2 := B1.alloc B1.size (.cells #[.int .i64 k, .slice sA sn sc, .slice gA gn gc, .slice A m c] 26)
 have B3 := B2.alloc B2.size (.cells #[.func g #[] cap] 111)
 have hk3 := (B3.block W hWlt).trans HK0.out
 obtain ⟨k0, k1, k2, k3⟩ := hcells4 hk3
 have f3 : (((w.alloc (.cells #[.pointer (some ⟨W, 0, none⟩)] 109)).alloc (.cells #[.int .i64 k, .slice sA sn sc, .slice gA gn gc, .slice A m c] 26)).alloc (.cells #[.func g #[] cap] 111)).frozen? ⟨W, 3, none⟩ = false := frozen_of_row _ _ _ _ _ hk3
 have k4 := klt_of_cell k3
 have hwr : IntKind.i64.wrap ((mn : Int) + 1) = (mn : Int) + 1 := IntWalk.i64_in _ (by omega)
 go_enter Try.func60, Try.ntmps60
 go_wp2_with fail
 have hk4 := (set_W (v := .int .i64 ((mn : Int) + 1)) hk3).2
 generalize hW3 : ((w.alloc (.cells #[.pointer (some ⟨W, 0, none⟩)] 109)).alloc (.cells #[.int .i64 k, .slice sA sn sc, .slice gA gn gc, .slice A m c] 26)).alloc (.cells #[.func g #[] cap] 111) = w3 at *
 have hs3 : w3.heap.size = w.heap.size + 3 := by rw [← hW3]; simp
 have h0 : w3.heap[w.heap.size]? = some (.cells #[.pointer (some ⟨W, 0, none⟩)] 109 (0, 0)) := by
  rw [← hW3, (kbelow_push _ _).block _ (by simp; omega), (kbelow_push _ _).block _ (by simp)]
  exact heap_alloc_new w _
 have h1 : w3.heap[w.heap.size + 1]? = some (.cells #[.int .i64 k, .slice sA sn sc, .slice gA gn gc, .slice A m c] 26 (0, 0)) := by
  rw [← hW3, (kbelow_push _ _).block _ (by simp)]
  have := heap_alloc_new (w.alloc (.cells #[.pointer (some ⟨W, 0, none⟩)] 109)) (.cells #[.int .i64 k, .slice sA sn sc, .slice gA gn gc, .slice A m c] 26)
  simpa using this
 have h2 : w3.heap[w.heap.size + 2]? = some (.cells #[.func g #[] cap] 111 (0, 0)) := by
  rw [← hW3]
  have := heap_alloc_new ((w.alloc (.cells #[.pointer (some ⟨W, 0, none⟩)] 109)).alloc (.cells #[.int .i64 k, .slice sA sn sc, .slice gA gn gc, .slice A m c] 26)) (.cells #[.func g #[] cap] 111)
  simpa using this
 generalize hW4 : (w3.setCell ⟨W, 3, none⟩ (.int .i64 ((mn : Int) + 1))) = w4 at *
 have hs4 : w4.heap.size = w.heap.size + 3 := by rw [← hW4]; simpa using hs3
 have hh4 : ∀ b, b ≠ W → w4.heap[b]? = w3.heap[b]? := fun b hb => by rw [← hW4]; exact Below.heap_setCell _ _ _ _ hb
 have hb5 := kbelow_push w4 (.cells #[.nilFunc] 111)
 have h3 := heap_alloc_new w4 (.cells #[.nilFunc] 111)
 have hs5 : (w4.alloc (.cells #[.nilFunc] 111)).heap.size = w.heap.size + 4 := by simp [hs4]
 generalize hW5 : w4.alloc (.cells #[.nilFunc] 111) = w5 at *
 have HB3 := Lib.hid B3
 have HH : Hid (w3.heap.size = w.heap.size + 3 ∧ w4.heap.size = w.heap.size + 3 ∧ w5.heap.size = w.heap.size + 4) := ⟨hs3, hs4, hs5⟩
 have HM4 : Hid (w4.os = w3.os ∧ w4.tape = w3.tape ∧ w4.output = w3.output) := by rw [← hW4]; exact ⟨rfl, rfl, rfl⟩
 have HN : Hid (∀ b, b ≠ W → w4.heap[b]? = w3.heap[b]?) := hh4
 have HK4 := Lib.hid hk4
 have H012 := Lib.hid (And.intro h0 (And.intro h1 (And.intro h2 h3)))
 have HB5 := Lib.hid hb5
 clear hW3 hW4 hW5 hs3 hs4 hs5 hh4 hk4 h0 h1 h2 h3 hb5 B1 B2 B3 hk3 k0 k1 k2 k3 f3 k4 hwr hmf
 refine (once_any w5 _ _).mono ?_
 rintro en w' ⟨rfl, rfl⟩
 go_wp2_with fail
 go_ret
 have hNW := HNW.out
 clear HNW
 subst hNW
 obtain ⟨m1, m2, m3, m4, m5⟩ := onceW_mem w5 (.func (.func 72) #[] #[.pointer (some ⟨w.heap.size, 0, none⟩), .pointer (some ⟨w.heap.size + 1 + 1 + 1, 0, none⟩), .pointer (some ⟨w.heap.size + 1, 0, none⟩), .pointer (some ⟨w.heap.size + 1 + 1, 0, none⟩)])
 obtain ⟨hs3, hs4, hs5⟩ := HH.out
 obtain ⟨h0, h1, h2, h3⟩ := H012.out
 rw [hs5] at m1 m3 m4
 rw [hs4] at h3
 have hord := HORD.out
 have hbl := HBL.out
 have e : ∀ b, b < w.heap.size + 4 → (onceW w5 (.func (.func 72) #[] #[.pointer (some ⟨w.heap.size, 0, none⟩), .pointer (some ⟨w.heap.size + 1 + 1 + 1, 0, none⟩), .pointer (some ⟨w.heap.size + 1, 0, none⟩), .pointer (some ⟨w.heap.size + 1 + 1, 0, none⟩)])).heap[b]? = w5.heap[b]? := fun b hb => m2 b (by omega)
 have e4 : ∀ b, b < w.heap.size + 3 → w5.heap[b]? = w4.heap[b]? := fun b hb => HB5.out.block b (by omega)
 have e3 : ∀ b, b < w.heap.size + 3 → b ≠ C.W → (onceW w5 (.func (.func 72) #[] #[.pointer (some ⟨w.heap.size, 0, none⟩), .pointer (some ⟨w.heap.size + 1 + 1 + 1, 0, none⟩), .pointer (some ⟨w.heap.size + 1, 0, none⟩), .pointer (some ⟨w.heap.size + 1 + 1, 0, none⟩)])).heap[b]? = w3.heap[b]? := fun b hb hn => (e b (by omega)).trans ((e4 b hb).trans (HN.out b hn))
 have hWl := HWLT.out
 have hbW : ∀ b, b < C.base → b < w.heap.size + 3 ∧ b ≠ C.W ∧ b < w.heap.size := fun b hb => by omega
 refine ⟨by rw [hs5]; rfl, rfl, by rw [m1], fun b hb hn => (e3 b (by omega) hn).trans (HB3.out.block b hb), (e _ (by omega)).trans ((e4 _ (by omega)).trans HK4.out), (cell_eq (e3 _ (by omega) (by omega))).trans (by rw [cell_of_row _ _ _ _ _ _ h0]; rfl), (e3 _ (by omega) (by omega)).trans h1, (e3 _ (by omega) (by omega)).trans h2, (e _ (by omega)).trans h3, m3, m4, ?_⟩
 have hb := m5
 have hb5 := HB5.out
 have hb3 := HB3.out
 have hm4 := HM4.out
 refine ⟨hb.os.trans (hb5.os.trans (hm4.1.trans hb3.os)), hb.tape.trans (hb5.tape.trans (hm4.2.1.trans hb3.tape)), hb.output.trans (hb5.output.trans (hm4.2.2.trans hb3.output)), by rw [m1]; omega, fun b hb' => (e3 b (hbW b hb').1 (hbW b hb').2.1).trans (hb3.block b (hbW b hb').2.2)⟩
end
end Go.Proofs.Ytpllgfhocedgmaa
namespace Go.Proofs.Ytpllgfhocedgmaa
open Go.RowKit

theorem index_any {w : World} {S : Nat → Prop} {A : Option Addr} {n c : Nat} {L : List Int} (h : InAt w S A n c L) (v : Int) : Calls Try.prog 49 #[.slice A n c, .int .i64 v] w (fun en w' => (∃ r : Int, en = .returned (.int .i64 r) ∧ (v ∈ L → 0 ≤ r) ∧ (v ∉ L → r = -1)) ∧ w' = w) := by
 have hn : n ≤ maxLen := Nat.le_trans h.cap h.capm
 unfold maxLen at hn
 go_enter Try.func49, Try.ntmps49
 go_wp2_with fail
 go_loopw [8] (fun i wx => ∃ k : Nat, k ≤ n ∧ i = .int .i64 k ∧ v ∉ L.take k ∧ wx = w) (fun i _ => n - (intOf i).toNat)
 case atStart => exact ⟨0, Nat.zero_le _, rfl, by simp, rfl⟩
 case round =>
  obtain ⟨k, hk, rfl, ht, rfl⟩ := hrel
  have HT := Lib.hid ht
  clear ht
  by_cases hlt : k < n
  ·obtain ⟨b1, o1, x, rfl, _, hr, k1⟩ := h.got hlt
   have hk1 : IntKind.i64.wrap ((k : Int) + 1) = (k : Int) + 1 := IntWalk.i64_in _ (by omega)
   have HX := Lib.hid hr
   by_cases hx : v = x
   ·subst hx
    have HM : Hid (v ∈ L) := List.mem_of_getElem? hr
    clear hr h
    go_wp2
    go_ret
    exact ⟨⟨_, rfl, fun _ => by omega, fun hm => absurd HM.out hm⟩, by first | rfl | trivial⟩
   ·have HN : Hid (v ∉ L.take (k + 1)) := by
     show v ∉ L.take (k + 1)
     rw [List.take_add_one, HX.out]
     simp only [Option.toList, List.mem_append, List.mem_singleton]
     rintro (h1 | h1)
     ·exact HT.out h1
     ·exact hx h1
    clear hr h HX
    go_wp2
    go_roundw
    case rel => exact ⟨k + 1, by omega, by go_num, HN.out, by first | rfl | trivial⟩
    case measure => simp [intOf]; omega
  ·have HN : Hid (v ∉ L) := by
    have h1 := HT.out
    rwa [List.take_of_length_le (by rw [h.len]; omega)] at h1
   clear h
   go_wp2
   go_ret
   exact ⟨⟨_, rfl, fun hm => absurd hm HN.out, fun _ => by first | trivial | rfl⟩, by first | rfl | trivial⟩
theorem contains_any {w : World} {S : Nat → Prop} {A : Option Addr} {n c : Nat} {L : List Int} (h : InAt w S A n c L) (v : Int) : Calls Try.prog 31 #[.slice A n c, .int .i64 v] w (fun en w' => en = .returned (.bool (decide (v ∈ L))) ∧ w' = w) := by
 have HI := Lib.hid (index_any h v)
 go_enter Try.func31, Try.ntmps31
 go_wp2_with fail
 refine HI.out.mono ?_
 rintro en w' ⟨⟨r, rfl, h1, h2⟩, rfl⟩
 by_cases hm : v ∈ L
 ·have h0 := h1 hm
  have HD : Hid (decide (v ∈ L) = true) := decide_eq_true hm
  clear h1 h2 hm
  go_wp2_with fail
  go_ret
  exact ⟨by rw [HD.out]; rfl, rfl⟩
 ·have h0 := h2 hm
  subst h0
  have HD : Hid (decide (v ∈ L) = false) := decide_eq_false hm
  clear h1 h2 hm
  go_wp2_with fail
  go_ret
  exact ⟨by rw [HD.out]; rfl, rfl⟩
def signAt (back : Bool) (l : List Int) (a : Nat) : Option Int := if back then (match a with | 0 => none | b + 1 => l[b]?) else l[a]?
def metF (back : Bool) (l L : List Int) (a : Nat) : Bool := match signAt back l a with | none => false | some x => decide (x ∈ L)
def nextF (back : Bool) (a : Nat) : Nat := if back then a - 1 else a + 1
theorem stp_iff {back : Bool} {l : List Int} {a c : Nat} {x : Int} : stp back l a x c ↔ signAt back l a = some x ∧ c = nextF back a := by
 cases back with
 | true =>
  constructor
  ·rintro ⟨rfl, h⟩
   exact ⟨h, rfl⟩
  ·rintro ⟨h1, h2⟩
   cases a with
   | zero => cases h1
   | succ b =>
    have : c = b := h2
    subst this
    exact ⟨rfl, h1⟩
 | false => exact Iff.rfl
theorem met_some {back : Bool} {l L : List Int} {a : Nat} (h : metF back l L a = true) : ∃ x, x ∈ L ∧ signAt back l a = some x := by
 unfold metF at h
 cases hs : signAt back l a with
 | none => rw [hs] at h; cases h
 | some x => rw [hs] at h; exact ⟨x, of_decide_eq_true h, rfl⟩
theorem met_none {back : Bool} {l L : List Int} {a : Nat} (h : metF back l L a = false) : ∀ x c, x ∈ L → ¬ stp back l a x c := by
 intro x c hx hs
 have := (stp_iff.1 hs).1
 unfold metF at h
 rw [this] at h
 exact of_decide_eq_false h hx
section
variable {C : Ctx} {s : Sta}
theorem behind_any (h : Inv C s) (a : Int) (ha : -1 ≤ a ∧ a ≤ 1099511627776) : Calls Try.prog 63 #[pb C.W, .int .i64 a] s.w (fun en w' => en = .returned (.int .i64 (if C.back then a - 1 else a + 1)) ∧ w' = s.w) := by
 obtain ⟨k0, k1, k2, k3⟩ := hcells4 h.st.wk
 unfold pb
 have h1 : IntKind.i64.wrap (a - 1) = a - 1 := IntWalk.i64_in _ (by omega)
 have h2 : IntKind.i64.wrap (a + 1) = a + 1 := IntWalk.i64_in _ (by omega)
 cases hb : C.back with
 | true =>
  rw [hb] at k1
  clear h
  go_enter Try.func63, Try.ntmps63
  go_wp2_with fail
  go_ret
  exact ⟨rfl, rfl⟩
 | false =>
  rw [hb] at k1
  clear h
  go_enter Try.func63, Try.ntmps63
  go_wp2_with fail
  go_ret
  exact ⟨rfl, rfl⟩
theorem meets_any (h : Inv C s) {S : Nat → Prop} {A : Option Addr} {n c : Nat} {L : List Int} (hL : InAt s.w S A n c L) (a : Nat) (ha : a ≤ C.l.length) : Calls Try.prog 64 #[pb C.W, .slice A n c, .int .i64 a] s.w (fun en w' => en = .returned (.bool (metF C.back C.l L a)) ∧ w' = s.w) := by
 obtain ⟨k0, k1, k2, k3⟩ := hcells4 h.st.wk
 have hl := h.st.l
 have hlen := hl.len
 have hcap := hl.small
 unfold pb
 have ho : s.w.heap.size = s.w.heap.size := rfl
 cases hb : C.back with
 | true =>
  rw [hb] at k1
  cases a with
  | zero =>
   have h1 : IntKind.i64.wrap (0 - 1) = -1 := by decide
   clear h
   go_enter Try.func64, Try.ntmps64
   go_wp2_with fail
   go_ret
   exact ⟨rfl, rfl⟩
  | succ b =>
   have hlt : b < C.ln := by omega
   obtain ⟨b1, o1, x, hA, _, hx, hc⟩ := hl.got hlt
   have HE : metF true C.l L (b + 1) = decide (x ∈ L) := by simp [metF, signAt, hx]
   have HC := Lib.hid (contains_any hL x)
   rw [← HE] at HC
   clear HE
   rw [hA] at k0
   have h1 : IntKind.i64.wrap (((b + 1 : Nat) : Int) - 1) = (b : Int) := by rw [IntWalk.i64_in _ (by omega)]; omega
   have h0 : IntKind.i64.wrap (b : Int) = (b : Int) := IntWalk.i64_in _ (by omega)
   have h2 : (0 : Int) ≤ (b : Int) := by omega
   have h3 : (b : Int) < (C.ln : Int) := by omega
   clear h hl hx hA hlen hcap
   go_enter Try.func64, Try.ntmps64
   go_wp2_with fail
   refine HC.out.mono ?_
   rintro en w' ⟨rfl, rfl⟩
   go_wp2_with fail
   go_ret
   exact ⟨rfl, rfl⟩
 | false =>
  rw [hb] at k1
  by_cases hlt : a < C.ln
  ·obtain ⟨b1, o1, x, hA, _, hx, hc⟩ := hl.got hlt
   have HE : metF false C.l L a = decide (x ∈ L) := by simp [metF, signAt, hx]
   have HC := Lib.hid (contains_any hL x)
   rw [← HE] at HC
   clear HE
   rw [hA] at k0
   have h2 : (0 : Int) ≤ (a : Int) := by omega
   have h3 : (a : Int) < (C.ln : Int) := by omega
   clear h hl hx hA hlen hcap
   go_enter Try.func64, Try.ntmps64
   go_wp2_with fail
   refine HC.out.mono ?_
   rintro en w' ⟨rfl, rfl⟩
   go_wp2_with fail
   go_ret
   exact ⟨rfl, rfl⟩
  ·have HE : Hid (metF false C.l L a = false) := by
    show metF false C.l L a = false
    simp [metF, signAt, List.getElem?_eq_none (show C.l.length ≤ a by omega)]
   have h2 : (0 : Int) ≤ (a : Int) := by omega
   have h3 : ¬ (a : Int) < (C.ln : Int) := by omega
   clear h hl
   go_enter Try.func64, Try.ntmps64
   go_wp2_with fail
   go_ret
   exact ⟨by rw [HE.out]; rfl, rfl⟩
end
end Go.Proofs.Ytpllgfhocedgmaa
namespace Go.Proofs.Ytpllgfhocedgmaa
open Go.RowKit

def Gh.late (G : Gh) (V : Nat → Prop) : Gh := { G with U := fun b => G.U b ∨ V b, R := fun b => G.R b ∨ V b }
section
variable {C : Ctx} {s s1 : Sta}
theorem Inv.late {a k : Nat} (hst : Step C a k s s1) (h0 : Inv C s) (h : Inv C s1) {V : Nat → Prop} (hV : ∀ b, V b → s.w.heap.size ≤ b ∧ b < s1.w.heap.size ∧ ¬ s1.G.R b) (hn : ∀ b, s1.nv.ownBlock = some b → ¬ V b) (hp : ∀ b, s1.pv.ownBlock = some b → ¬ V b) :
  Inv C { s1 with G := s1.G.late V } ∧ Step C a k s { s1 with G := s1.G.late V } := by
 have gg := h.g
 have st := h.st
 have hbl := h0.base_le
 have he : ∀ t, Ex s1.G t → Ex (s1.G.late V) t := fun _ h => h
 have hU : ∀ b, s1.G.U b → (s1.G.late V).U b ∧ s1.w.heap[b]? = s1.w.heap[b]? := fun b hb => ⟨.inl hb, rfl⟩
 have hu : ∀ b, s1.G.R b → ¬ s1.G.U b → ¬ (s1.G.late V).U b := fun b hr hn hb => by
  rcases hb with h1 | h1
  ·exact hn h1
  ·exact (hV b h1).2.2 hr
 have hg' : Good C s1.w (s1.G.late V) := by
  refine ⟨fun n x t hp => ?_, fun e y t hp => (gg.more e y t hp).keep he (fun _ h => h) hU, gg.sep, gg.nd, gg.topT, gg.topL, fun b hb => hb.imp (gg.ur b) id, fun b hb => ?_, ⟨hu _ gg.rm.1 gg.um.1, hu _ gg.rm.2.1 gg.um.2.1, hu _ gg.rm.2.2 gg.um.2.2.1, .inl gg.um.2.2.2⟩, ⟨.inl gg.rm.1, .inl gg.rm.2.1, .inl gg.rm.2.2⟩, gg.ord, gg.inn0⟩
  ·have hk := gg.part n x t hp
   exact hk.keep he hU (fun b hb => .inl hb) hu (fun _ _ => rfl) hk.i hk.l fun u hi => (hk.inn u hi).keep he hU (fun _ _ => rfl)
  ·rcases hb with h1 | h1
   ·exact gg.rlt b h1
   ·exact ⟨(hV b h1).2.1, Nat.le_trans hbl (hV b h1).1⟩
 refine ⟨⟨hg', ⟨st.wk, st.l, st.nr, fun b e hb => hb.elim (st.nn b e) (hn b e), st.p0, st.pr, fun b e hb => hb.elim (st.pn b e) (hp b e), st.np, st.nxe, st.cn⟩⟩, ⟨hst.ps, hst.inn, fun b hb => .inl (hst.rr b hb), fun b hb => ?_, hst.told, hst.new, hst.nx, hst.nq, hst.pl, hst.tp, hst.bud, hst.mu, hst.keep, hst.nvb, hst.pvb, hst.bel, fun b hb => .inl (hst.uu b hb), hst.uk, hst.lv, hst.lt⟩⟩
 rcases hb with h1 | h1
 ·exact hst.fr b h1
 ·exact .inr (hV b h1).1
theorem set_any (w : World) (W : Nat) (A : Option Addr) (n c : Nat) (g : Fn) (cap : Array Value) : Calls Try.prog 86 #[pb W, .slice A n c, .func g #[] cap] w (fun en w' => en = .returned (.func (.func 103) #[] #[pb w.heap.size, pb (w.heap.size + 1), pb (w.heap.size + 2)]) ∧ w' = ((w.alloc (.cells #[pb W] 109)).alloc (.cells #[.slice A n c] 23)).alloc (.cells #[.func g #[] cap] 111)) := by
 have hmf : ∀ (fn : Fn) (first cap : Array Value) (w : World), (Instr.makeFunc fn first cap).run Try.prog w = .ok (.func fn first cap) w := fun _ _ _ _ => rfl
 unfold pb
 go_enter Try.func86, Try.ntmps86
 go_wp2_with fail
 go_ret
 exact ⟨rfl, rfl⟩
def oneF (x : Pt) : Bool := decide (5 ≤ x.kind) && decide (x.kind ≤ 7) && decide (x.kids.length = 1)
theorem one_any {w : World} {S : Nat → Prop} {x : Pt} {sA gA A : Option Addr} {sn sc gn gc m c : Nat} (h : PtIn w S sA sn sc gA gn gc A m c x) : Calls Try.prog 77 #[.agg #[.int .i64 x.kind, .slice sA sn sc, .slice gA gn gc, .slice A m c]] w (fun en w' => en = .returned (.bool (oneF x)) ∧ Below w.heap.size w w') := by
 have hl := h.kids.len
 have hb := kbelow_push w (.cells #[.int .i64 x.kind, .slice sA sn sc, .slice gA gn gc, .slice A m c] 26)
 unfold oneF
 rw [hl]
 clear hl h
 generalize x.kind = k at hb ⊢
 by_cases h5 : 5 ≤ k
 ·by_cases h7 : k ≤ 7
  ·by_cases h1 : m = 1
   ·subst h1
    have HB := Lib.hid hb
    clear hb
    rw [decide_eq_true h5, decide_eq_true h7]
    go_enter Try.func77, Try.ntmps77
    go_wp2_with fail
    go_ret
    exact ⟨rfl, HB.out⟩
   ·have h2 : ¬ ((m : Int) = 1) := by omega
    have h3 : ((m : Int) == 1) = false := by simp; omega
    rw [decide_eq_true h5, decide_eq_true h7, decide_eq_false h1]
    have HB := Lib.hid hb
    clear hb
    go_enter Try.func77, Try.ntmps77
    go_wp2_with fail
    go_ret
    exact ⟨rfl, HB.out⟩
  ·rw [decide_eq_true h5, decide_eq_false h7]
   have HB := Lib.hid hb
   clear hb
   go_enter Try.func77, Try.ntmps77
   go_wp2_with fail
   go_ret
   exact ⟨rfl, HB.out⟩
 ·rw [decide_eq_false h5]
  have HB := Lib.hid hb
  clear hb
  go_enter Try.func77, Try.ntmps77
  go_wp2_with fail
  go_ret
  exact ⟨rfl, HB.out⟩
end
end Go.Proofs.Ytpllgfhocedgmaa
namespace Go.Proofs.Ytpllgfhocedgmaa
open Go.RowKit

theorem flat_at {C : Nat → List Value} {k : Nat} : ∀ (m : Nat), (∀ i, i < m → (C i).length = k) → ((List.range m).flatMap C).length = m * k ∧ ∀ i, i < m → (((List.range m).flatMap C).drop (i * k)).take k = C i
 | 0, _ => ⟨by simp, fun i hi => absurd hi (by omega)⟩
 | m + 1, h => by
  obtain ⟨h1, h2⟩ := flat_at m fun i hi => h i (by omega)
  have hm := h m (by omega)
  rw [List.range_succ, List.flatMap_append]
  have e1 : List.flatMap C [m] = C m := by simp
  rw [e1]
  refine ⟨by rw [List.length_append, h1, hm, Nat.succ_mul], fun i hi => ?_⟩
  by_cases hin : i < m
  ·have hle : i * k + k ≤ m * k := by rw [← Nat.succ_mul]; exact Nat.mul_le_mul_right _ hin
   rw [List.drop_append_of_le_length (by omega), List.take_append_of_le_length (by rw [List.length_drop]; omega)]
   exact h2 i hin
  ·obtain rfl : i = m := by omega
   rw [List.drop_append, List.drop_eq_nil_of_le (by omega), List.nil_append, h1, Nat.sub_self, List.drop_zero, List.take_of_length_le (by omega)]
theorem flat_get {C : Nat → List Value} {k m : Nat} (h : ∀ i, i < m → (C i).length = k) {j : Nat} {u : Value} (hu : ((List.range m).flatMap C)[j]? = some u) : ∃ i r, i < m ∧ (C i)[r]? = some u ∧ j = i * k + r := by
 obtain ⟨h1, h2⟩ := flat_at m h
 have hj : j < m * k := by have := (List.getElem?_eq_some_iff.1 hu).1; omega
 have hk : 0 < k := by
  rcases Nat.eq_zero_or_pos k with e | e
  ·rw [e] at hj; omega
  ·exact e
 have hi : j / k < m := (Nat.div_lt_iff_lt_mul hk).2 hj
 have hmod : j % k < k := Nat.mod_lt _ hk
 have e : j = j / k * k + j % k := by have := Nat.div_add_mod j k; rw [Nat.mul_comm] at this; omega
 refine ⟨j / k, j % k, hi, ?_, e⟩
 rw [← h2 _ hi, List.getElem?_take_of_lt hmod, List.getElem?_drop, ← e]
 exact hu
section
variable {α : Type} {D : Rdr α} {X : Nat → Prop} {w : World} {l news : List α} {B : Nat} {v : Value} {e : TypeId} {A : Option Addr} {m c : Nat}
theorem run_app_x {P : Program} (t ty : TypeId) (ht : P.underlying t = some (.slice e)) {z : Value} {bytes : Nat} (hi : (P.info? e).map (fun i => (i.zero, i.size, i.bytes)) = some (some z, D.k, bytes)) (hzs : z.cells.size = D.k) (hk0 : 0 < D.k) (hby : bytes ≤ 1000)
  (hown : OwnX D X e w B v l) (hr : RdG D w (fun b => b < w.heap.size ∧ X b ∧ v.ownBlock ≠ some b) A m c news) (h63 : l.length + m ≤ 1000000) (hbase : B ≤ w.heap.size) :
  ∃ v' w', (Builtin.append_ #[t, t] ty #[v, .slice A m c]).run P w = .ok v' w' ∧ OwnX D X e w' B v' (l ++ news) ∧ w.grownBy w' v.ownBlock ∧ (v'.ownBlock = v.ownBlock ∨ v'.ownBlock = some w.heap.size) := by
 obtain ⟨i0, hi0, hz0, hz1, hz2⟩ := info_k hi
 obtain ⟨hl, hcap, hcm, C, hC1, hC2⟩ := hr
 have hlen : ∀ i, i < m → (C i).length = D.k := fun i hi => D.len (hC2 i _ (List.getElem?_eq_getElem (by omega)))
 obtain ⟨f1, f2⟩ := flat_at m hlen
 cases A with
 | none =>
  have hm : m = 0 := by
   rcases Nat.eq_zero_or_pos m with h0 | h0
   ·exact h0
   ·obtain ⟨_, _, h, _⟩ := hC1 h0; cases h
  subst hm
  obtain rfl : news = [] := List.eq_nil_of_length_eq_zero hl
  refine ⟨v, w, ?_, by simpa using hown, grown_refl w _, Or.inl rfl⟩
  obtain ⟨cs, ho, _⟩ := hown
  rcases ho.2 with ⟨rfl, h2⟩ | ⟨g, cap, cur, rfl, _, _, hnc, _⟩
  ·simp [Builtin.append_, run_underlying ht, sizeOf, typeInfo, hi0, Builtin.lenOf, Builtin.firstCells]
  ·simp [Builtin.append_, run_underlying ht, sizeOf, typeInfo, hi0, Builtin.lenOf, Builtin.firstCells, hnc, storeCells]
 | some ad =>
  have hc : ∀ j u, ((List.range m).flatMap C)[j]? = some u → w.cell? (ad.add j) = some u := by
   intro j u hu
   obtain ⟨i, r, hi, hu2, rfl⟩ := flat_get hlen hu
   obtain ⟨b, off, h, _, hcc⟩ := hC1 (by omega)
   injection h with h
   subst h
   rw [kadd_none]
   exact hcc i hi r u hu2
  have h1 : ∀ u ∈ (List.range m).flatMap C, u.oneCell' = true := by
   intro u hu
   obtain ⟨i, hi, hu⟩ := List.mem_flatMap.1 hu
   exact D.one (hC2 i _ (List.getElem?_eq_getElem (by have := List.mem_range.1 hi; omega))) u hu
  obtain ⟨cs, ho, hk⟩ := hown
  obtain ⟨v', w', hrun, h2, h3, _, h5⟩ := run_append_own_at (P := P) w B t ty e i0 z D.k bytes ht hi0 hz0 hz1 hz2 hzs hk0 v l.length cs ho ad m c _ f1 hc h1 (by unfold maxLen; omega) (Nat.le_trans (Nat.mul_le_mul h63 hby) (by decide)) hbase
  refine ⟨v', w', hrun, ⟨cs ++ (List.range m).flatMap C, by simpa [hl] using h2, fun i x hx => ?_⟩, h3, h5⟩
  have hcl : cs.length = l.length * D.k := ho.1
  have hS : ∀ b, (b < w.heap.size ∧ X b ∧ v.ownBlock ≠ some b) → b < w'.heap.size ∧ X b ∧ v'.ownBlock ≠ some b := fun b ⟨g1, g2, g3⟩ => ⟨Nat.lt_of_lt_of_le g1 h3.size, g2, by
   rcases h5 with e | e
   ·rw [e]; exact g3
   ·rw [e]; intro e2; injection e2 with e2; omega⟩
  have hcell : ∀ p : Addr, (p.block < w.heap.size ∧ X p.block ∧ v.ownBlock ≠ some p.block) → w'.cell? p = w.cell? p := fun p ⟨g1, _, g3⟩ => World.cell?_of_block (h3.block p.block g1 (fun e => g3 e.symm))
  rcases Nat.lt_or_ge i l.length with hi | hi
  ·rw [List.getElem?_append_left hi] at hx
   have := D.keep (hk i x hx) hS hcell
   have hle : i * D.k + D.k ≤ cs.length := by rw [hcl, ← Nat.succ_mul]; exact Nat.mul_le_mul_right _ hi
   rw [List.drop_append_of_le_length (by omega), List.take_append_of_le_length (by rw [List.length_drop]; omega)]
   exact this
  ·rw [List.getElem?_append_right hi] at hx
   have him : i - l.length < m := by have := (List.getElem?_eq_some_iff.1 hx).1; omega
   have e1 : i * D.k - cs.length = (i - l.length) * D.k := by rw [hcl, ← Nat.sub_mul]
   have hle : cs.length ≤ i * D.k := by rw [hcl]; exact Nat.mul_le_mul_right _ hi
   rw [List.drop_append, List.drop_eq_nil_of_le hle, List.nil_append, e1, f2 _ him]
   exact D.keep (hC2 _ x hx) hS hcell
theorem wp_app_x {P : Program} {o : Oper} {a : Act} {K : Act → World → Prop} {Q : Exit → Act → World → Prop} (s x : Operand) (t : TypeId)
  (ho : o.op = .call { callee := .builtin .append, args := #[s, x], argTypes := #[t, t] }) (ht : P.underlying t = some (.slice e)) {z : Value} {bytes : Nat} (hi : (P.info? e).map (fun i => (i.zero, i.size, i.bytes)) = some (some z, D.k, bytes)) (hzs : z.cells.size = D.k) (hk0 : 0 < D.k) (hby : bytes ≤ 1000)
  (hs : a.eval s = v) (hown : OwnX D X e w B v l) (hx : a.eval x = .slice A m c) (hr : RdG D w (fun b => b < w.heap.size ∧ X b ∧ v.ownBlock ≠ some b) A m c news) (h63 : l.length + m ≤ 1000000) (hbase : B ≤ w.heap.size)
  (h : ∀ v' w', OwnX D X e w' B v' (l ++ news) → w.grownBy w' v.ownBlock → (v'.ownBlock = v.ownBlock ∨ v'.ownBlock = some w.heap.size) → K (a.put o.dst v') w') : o.wp P a w K Q := by
 obtain ⟨v', w', hrun, h2, h3, h4⟩ := run_app_x (P := P) t o.type ht hi hzs hk0 hby hown hr h63 hbase
 unfold Oper.wp execOp
 simp only [ho, resolve, invoke, builtin, Sem.run_bind, Sem.run_pure, Result.andThen_ok, List.map_toArray, List.map_cons, List.map_nil, hs, hx, hrun]
 exact h v' w' h2 h3 h4
theorem apps_x {P : Program} {ops : Array Oper} {rest : List Oper} {o : Oper} {a : Act} {Q : Exit → Act → World → Prop} (hgd : o.guard = none) (s x : Operand) (t : TypeId)
  (ho : o.op = .call { callee := .builtin .append, args := #[s, x], argTypes := #[t, t] }) (ht : P.underlying t = some (.slice e)) {z : Value} {bytes : Nat} (hi : (P.info? e).map (fun i => (i.zero, i.size, i.bytes)) = some (some z, D.k, bytes)) (hzs : z.cells.size = D.k) (hk0 : 0 < D.k) (hby : bytes ≤ 1000)
  (hs : a.eval s = v) (hown : OwnX D X e w B v l) (hx : a.eval x = .slice A m c) (hr : RdG D w (fun b => b < w.heap.size ∧ X b ∧ v.ownBlock ≠ some b) A m c news) (h63 : l.length + m ≤ 1000000) (hbase : B ≤ w.heap.size)
  (h : ∀ v' w', OwnX D X e w' B v' (l ++ news) → w.grownBy w' v.ownBlock → (v'.ownBlock = v.ownBlock ∨ v'.ownBlock = some w.heap.size) → wpList P ops Q rest (a.put o.dst v') w') : wpList P ops Q (o :: rest) a w :=
 wpList_plain hgd fun _ hK => wp_app_x s x t ho ht hi hzs hk0 hby hs hown hx hr h63 hbase fun v' w' h2 h3 h4 => hK _ _ (h v' w' h2 h3 h4)
theorem ownX_lit0 (D : Rdr α) (X : Nat → Prop) (w : World) (B : Nat) (e : TypeId) (hB : B ≤ w.heap.size) (hk0 : 0 < D.k) : OwnX D X e (w.alloc (.cells #[] e)) B (.slice (some ⟨w.heap.size, 0, none⟩) 0 0) [] :=
 ⟨[], World.ownsRow_lit w #[] 0 hB (by unfold maxLen; omega) (by simp), fun i x hx => by simp at hx⟩
end
end Go.Proofs.Ytpllgfhocedgmaa
