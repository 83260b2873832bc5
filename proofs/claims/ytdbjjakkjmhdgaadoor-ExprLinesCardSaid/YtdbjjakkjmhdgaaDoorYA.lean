/- Forms in memory: when cells read as a form, and how that is kept from world to world; rows of forms of one's own; the reader of expr. -/
import Derived.Test.YtdbjjakkjmhdgaaDoorMA
import Derived.Test.YtdbjjakkjmhdgaaDoorGen
set_option maxRecDepth 100000
namespace Go.Proofs.YtdbjjakkjmhdgaaDoor
open Go.RowKit
open Y (Nd It Ps)

/-- Five cells read as a form whose parts lie in blocks of which S speaks. -/
inductive NdAt (w : World) (S : Nat → Prop) : List Value → Nd → Prop
  | mk (k lo hi : Int) (s : ByteArray) (A : Option Addr) (n c : Nat) (kids : List Nd) (cs : Nat → List Value) (hl : kids.length = n) (hc : n ≤ c) (hm : c ≤ maxLen)
      (hA : 0 < n → ∃ b off, A = some ⟨b, off, none⟩ ∧ S b ∧ ∀ i, i < n → ∀ j u, (cs i)[j]? = some u → w.cell? ⟨b, off + (i * 5 + j), none⟩ = some u)
      (hk : ∀ i x, kids[i]? = some x → NdAt w S (cs i) x) : NdAt w S [.int .i64 k, .string s, .int .i64 lo, .int .i64 hi, .slice A n c] (.mk k s lo hi kids)
/-- A slice value reads as these forms. -/
structure RdN (w : World) (S : Nat → Prop) (A : Option Addr) (n c : Nat) (l : List Nd) : Prop where
  len : l.length = n
  cap : n ≤ c
  capm : c ≤ maxLen
  at_ : ∃ cs : Nat → List Value, (0 < n → ∃ b off, A = some ⟨b, off, none⟩ ∧ S b ∧ ∀ i, i < n → ∀ j u, (cs i)[j]? = some u → w.cell? ⟨b, off + (i * 5 + j), none⟩ = some u) ∧ ∀ i x, l[i]? = some x → NdAt w S (cs i) x
theorem NdAt.of {w : World} {S : Nat → Prop} {A : Option Addr} {n c : Nat} {l : List Nd} (h : RdN w S A n c l) (k lo hi : Int) (s : ByteArray) : NdAt w S [.int .i64 k, .string s, .int .i64 lo, .int .i64 hi, .slice A n c] (.mk k s lo hi l) := by
  obtain ⟨h1, h2, h3, cs, h4, h5⟩ := h
  exact .mk k lo hi s A n c l cs h1 h2 h3 h4 h5
theorem NdAt.inv {w : World} {S : Nat → Prop} {cs : List Value} {x : Nd} (h : NdAt w S cs x) : ∃ A n c, cs = [.int .i64 x.kind, .string x.name, .int .i64 x.low, .int .i64 x.high, .slice A n c] ∧ RdN w S A n c x.kids := by
  cases h with
  | mk k lo hi s A n c kids cs hl hc hm hA hk => exact ⟨A, n, c, rfl, hl, hc, hm, cs, hA, hk⟩
/-- A value that is a form. -/
def IsN (w : World) (S : Nat → Prop) (v : Value) (x : Nd) : Prop := ∃ A n c, v = .agg #[.int .i64 x.kind, .string x.name, .int .i64 x.low, .int .i64 x.high, .slice A n c] ∧ RdN w S A n c x.kids
theorem NdAt.keep {w w' : World} {S S' : Nat → Prop} {cs : List Value} {x : Nd} (h : NdAt w S cs x) (hS : ∀ b, S b → S' b) (hk : ∀ p : Addr, S p.block → w'.cell? p = w.cell? p) : NdAt w' S' cs x := by
  induction h with
  | mk k lo hi s A n c kids cs hl hc hm hA _ ih =>
    refine .mk k lo hi s A n c kids cs hl hc hm (fun hn => ?_) ih
    obtain ⟨b, off, e, hb, hcc⟩ := hA hn
    exact ⟨b, off, e, hS b hb, fun i hi j u hu => (hk ⟨b, _, none⟩ hb).trans (hcc i hi j u hu)⟩
section
variable {w w' : World} {S S' : Nat → Prop} {A : Option Addr} {n c : Nat} {l : List Nd} {v : Value} {x : Nd}
theorem RdN.keep (h : RdN w S A n c l) (hS : ∀ b, S b → S' b) (hk : ∀ p : Addr, S p.block → w'.cell? p = w.cell? p) : RdN w' S' A n c l := by
  obtain ⟨h1, h2, h3, cs, h4, h5⟩ := h
  refine ⟨h1, h2, h3, cs, fun hn => ?_, fun i x hx => (h5 i x hx).keep hS hk⟩
  obtain ⟨b, off, e, hb, hcc⟩ := h4 hn
  exact ⟨b, off, e, hS b hb, fun i hi j u hu => (hk ⟨b, _, none⟩ hb).trans (hcc i hi j u hu)⟩
theorem IsN.keep (h : IsN w S v x) (hS : ∀ b, S b → S' b) (hk : ∀ p : Addr, S p.block → w'.cell? p = w.cell? p) : IsN w' S' v x := by
  obtain ⟨A, n, c, e, hr⟩ := h
  exact ⟨A, n, c, e, hr.keep hS hk⟩
theorem IsN.at_ (h : IsN w S v x) : ∃ cs, v = .agg cs.toArray ∧ NdAt w S cs x := by
  obtain ⟨A, n, c, rfl, hr⟩ := h
  cases x with
  | mk k s lo hi kids => exact ⟨_, rfl, NdAt.of hr _ _ _ _⟩
theorem NdAt.isN {cs : List Value} (h : NdAt w S cs x) : IsN w S (.agg cs.toArray) x := by
  obtain ⟨A, n, c, rfl, hr⟩ := h.inv
  exact ⟨A, n, c, rfl, hr⟩
theorem RdN.nil (w : World) (S : Nat → Prop) : RdN w S none 0 0 [] := ⟨rfl, Nat.le_refl _, by simp [maxLen], fun _ => [], fun h => absurd h (by omega), fun i x hx => by simp at hx⟩
theorem RdN.small (h : RdN w S A n c l) : n ≤ 9223372036854775807 := by have h1 := h.cap; have h2 := h.capm; unfold maxLen at h2; omega
/-- The cells of one of them. -/
theorem RdN.got (h : RdN w S A n c l) {i : Nat} (hi : i < n) : ∃ (b off : Nat) (x : Nd) (A' : Option Addr) (n' c' : Nat), A = some ⟨b, off, none⟩ ∧ S b ∧ l[i]? = some x ∧ RdN w S A' n' c' x.kids ∧
    w.cell? ⟨b, off + i * 5, none⟩ = some (.int .i64 x.kind) ∧ w.cell? ⟨b, off + i * 5 + 1, none⟩ = some (.string x.name) ∧ w.cell? ⟨b, off + i * 5 + 2, none⟩ = some (.int .i64 x.low) ∧ w.cell? ⟨b, off + i * 5 + 3, none⟩ = some (.int .i64 x.high) ∧ w.cell? ⟨b, off + i * 5 + 4, none⟩ = some (.slice A' n' c') := by
  obtain ⟨h1, h2, h3, cs, h4, h5⟩ := h
  obtain ⟨b, off, e, hb, hcc⟩ := h4 (by omega)
  have hx := List.getElem?_eq_getElem (l := l) (i := i) (by omega)
  obtain ⟨A', n', c', e5, hr⟩ := (h5 i _ hx).inv
  have hc := hcc i hi
  rw [e5] at hc
  refine ⟨b, off, l[i]'(by omega), A', n', c', e, hb, hx, hr, ?_, ?_, ?_, ?_, ?_⟩
  · exact hc 0 _ rfl
  · have := hc 1 _ rfl; rwa [← Nat.add_assoc] at this
  · have := hc 2 _ rfl; rwa [← Nat.add_assoc] at this
  · have := hc 3 _ rfl; rwa [← Nat.add_assoc] at this
  · have := hc 4 _ rfl; rwa [← Nat.add_assoc] at this
end
/-- Blocks from one up to another one. -/
def In (lo hi : Nat) (b : Nat) : Prop := lo ≤ b ∧ b < hi
/-- A row of forms of one's own, from block B on; its parts lie there too, in other blocks. -/
def OwnN (w : World) (B : Nat) (v : Value) (l : List Nd) : Prop := ∃ cs, w.ownsRow B 24 5 v l.length cs ∧ ∀ i x, l[i]? = some x → NdAt w (fun b => B ≤ b ∧ b < w.heap.size ∧ v.ownBlock ≠ some b) ((cs.drop (i * 5)).take 5) x
theorem info_nd : (Tryd.prog.info? 24).map (fun i => (i.zero, i.size, i.bytes)) = some (some (.agg #[.int .i64 0, .string { data := #[] }, .int .i64 0, .int .i64 0, .slice none 0 0]), 5, 64) := by kernel_rfl
section
variable {w w' : World} {B : Nat} {v : Value} {l : List Nd}
theorem OwnN.nil (w : World) (B : Nat) : OwnN w B (.slice none 0 0) [] := ⟨[], World.ownsRow_nil w B _ 5, fun i x hx => by simp at hx⟩
theorem own_cells_len {cs : List Value} (h : w.ownsRow B 24 5 v l.length cs) : cs.length = l.length * 5 := h.1
theorem OwnN.rd (h : OwnN w B v l) : ∃ A c, v = .slice A l.length c ∧ RdN w (In B w.heap.size) A l.length c l := by
  obtain ⟨cs, ho, hk⟩ := h
  have hs : ∀ i x, l[i]? = some x → NdAt w (In B w.heap.size) ((cs.drop (i * 5)).take 5) x := fun i x hx => (hk i x hx).keep (fun b hb => ⟨hb.1, hb.2.1⟩) (fun _ _ => rfl)
  rcases ho.2 with ⟨h1, h2⟩ | ⟨g, cap, cur, h1, hB, hg, h3, h4, _, _⟩
  · subst h1
    have : l = [] := List.eq_nil_of_length_eq_zero h2
    subst this
    exact ⟨none, 0, rfl, RdN.nil _ _⟩
  · subst h1
    have hlt : g < w.heap.size := by
      rcases Nat.lt_or_ge g w.heap.size with hlt | hge
      · exact hlt
      · rw [Array.getElem?_eq_none hge] at hg; cases hg
    refine ⟨_, cap, rfl, rfl, h3, h4, fun i => (cs.drop (i * 5)).take 5, fun _ => ⟨g, 0, rfl, ⟨hB, hlt⟩, fun i hi j u hu => ?_⟩, hs⟩
    rw [← kadd_none]
    have hj : j < 5 := by
      have := (List.getElem?_eq_some_iff.1 hu).1; rw [List.length_take] at this; omega
    rw [List.getElem?_take_of_lt hj, List.getElem?_drop] at hu
    exact World.ownsRow.cells ho (g := g) rfl _ _ hu
theorem row_keep {e : TypeId} {k m : Nat} {cs : List Value} (h : w.ownsRow B e k v m cs) (hb : ∀ i, B ≤ i → i < w.heap.size → v.ownBlock = some i → w'.heap[i]? = w.heap[i]?) : w'.ownsRow B e k v m cs := by
  refine ⟨h.1, ?_⟩
  rcases h.2 with h2 | ⟨g, cap, cur, h1, hB, hg, h3⟩
  · exact .inl h2
  · have hlt : g < w.heap.size := by
      rcases Nat.lt_or_ge g w.heap.size with hlt | hge
      · exact hlt
      · rw [Array.getElem?_eq_none hge] at hg; cases hg
    exact .inr ⟨g, cap, cur, h1, hB, (hb g hB hlt (by subst h1; rfl)).trans hg, h3⟩
/-- It stays where nothing from B on has turned. -/
theorem OwnN.keep (h : OwnN w B v l) (hs : w.heap.size ≤ w'.heap.size) (hb : ∀ i, B ≤ i → i < w.heap.size → w'.heap[i]? = w.heap[i]?) : OwnN w' B v l := by
  obtain ⟨cs, ho, hk⟩ := h
  exact ⟨cs, row_keep ho fun i h1 h2 _ => hb i h1 h2, fun i x hx => (hk i x hx).keep (fun b hb => ⟨hb.1, by omega, hb.2.2⟩) (fun p hp => World.cell?_of_block (hb p.block hp.1 hp.2.1))⟩
theorem OwnN.block (h : OwnN w B v l) : ∀ i, v.ownBlock = some i → B ≤ i ∧ i < w.heap.size := by
  obtain ⟨cs, ho, _⟩ := h
  exact World.ownsRow.lt ho
/-- What an append of one form leaves. -/
theorem OwnN.push {v' : Value} {ns cs : List Value} {x : Nd} (hk : ∀ i x, l[i]? = some x → NdAt w (fun b => B ≤ b ∧ b < w.heap.size ∧ v.ownBlock ≠ some b) ((cs.drop (i * 5)).take 5) x) (hcl : cs.length = l.length * 5)
    (hx : NdAt w (fun b => B ≤ b ∧ b < w.heap.size ∧ v.ownBlock ≠ some b) ns x) (hn : ns.length = 5) (ho : w'.ownsRow B 24 5 v' (l.length + 1) (cs ++ ns)) (hg : w.grownBy w' v.ownBlock) (hat : v'.ownBlock = v.ownBlock ∨ v'.ownBlock = some w.heap.size) : OwnN w' B v' (l ++ [x]) := by
  have hS : ∀ b, (B ≤ b ∧ b < w.heap.size ∧ v.ownBlock ≠ some b) → B ≤ b ∧ b < w'.heap.size ∧ v'.ownBlock ≠ some b := fun b ⟨h1, h2, h3⟩ => ⟨h1, Nat.lt_of_lt_of_le h2 hg.size, by
    rcases hat with e | e
    · rw [e]; exact h3
    · rw [e]; intro e2; injection e2 with e2; omega⟩
  have hc : ∀ p : Addr, (B ≤ p.block ∧ p.block < w.heap.size ∧ v.ownBlock ≠ some p.block) → w'.cell? p = w.cell? p := fun p ⟨_, h2, h3⟩ => World.cell?_of_block (hg.block p.block h2 (fun e => h3 e.symm))
  refine ⟨cs ++ ns, by simpa using ho, fun i y hy => ?_⟩
  rcases Nat.lt_or_ge i l.length with hi | hi
  · rw [List.getElem?_append_left hi] at hy
    have := (hk i y hy).keep hS hc
    rw [List.drop_append_of_le_length (by omega), List.take_append_of_le_length (by rw [List.length_drop]; omega)]
    exact this
  · have hil : i = l.length := by
      have := (List.getElem?_eq_some_iff.1 hy).1; simp at this; omega
    subst hil
    rw [List.getElem?_append_right (Nat.le_refl _), Nat.sub_self] at hy
    simp at hy
    subst hy
    rw [List.drop_append, List.drop_eq_nil_of_le (by omega), List.nil_append, hcl, Nat.sub_self, List.drop_zero, List.take_of_length_le (by omega)]
    exact hx.keep hS hc
end
/-- Only block b and new blocks have turned. -/
structure Fe (b : Nat) (w w' : World) : Prop where
  os : w'.os = w.os
  tape : w'.tape = w.tape
  output : w'.output = w.output
  size : w.heap.size ≤ w'.heap.size
  block : ∀ i, i < w.heap.size → i ≠ b → w'.heap[i]? = w.heap[i]?
theorem Fe.refl (b : Nat) (w : World) : Fe b w w := ⟨rfl, rfl, rfl, Nat.le_refl _, fun _ _ _ => rfl⟩
theorem Fe.trans {b : Nat} {a c d : World} (h : Fe b a c) (k : Fe b c d) : Fe b a d :=
  ⟨k.os.trans h.os, k.tape.trans h.tape, k.output.trans h.output, Nat.le_trans h.size k.size, fun i hi hn => (k.block i (Nat.lt_of_lt_of_le hi h.size) hn).trans (h.block i hi hn)⟩
theorem Fe.drewN {b : Nat} {a c : World} (h : Fe b a c) (q : Nat) : Fe b a (c.drewN q) := ⟨h.os, h.tape, h.output, h.size, h.block⟩
theorem Fe.of_below {b : Nat} {w w' : World} (h : Below w.heap.size w w') : Fe b w w' := ⟨h.os, h.tape, h.output, h.size, fun i hi _ => h.block i hi⟩
/-- A cell of the reader, or of a block that is new, turns. -/
theorem Fe.set {b : Nat} {a c : World} (h : Fe b a c) {g : Nat} (hg : g = b ∨ a.heap.size ≤ g) (o : Nat) (v : Value) : Fe b a (c.setCell ⟨g, o, none⟩ v) :=
  ⟨h.os, h.tape, h.output, by simp; exact h.size, fun i hi hn => (Below.heap_setCell _ _ _ _ (by show i ≠ g; omega)).trans (h.block i hi hn)⟩
theorem Fe.below {b B : Nat} {w w' : World} (h : Fe b w w') (hb : B ≤ b) (hB : B ≤ w.heap.size) : Below B w w' := ⟨h.os, h.tape, h.output, h.size, fun i hi => h.block i (by omega) (by omega)⟩
theorem OwnN.fe {w w' : World} {b B : Nat} {v : Value} {l : List Nd} (h : OwnN w B v l) (hf : Fe b w w') (hb : b < B) : OwnN w' B v l := h.keep hf.size fun i h1 h2 => hf.block i h2 (by omega)
theorem IsN.fe {w w' : World} {S : Nat → Prop} {b : Nat} {v : Value} {x : Nd} (h : IsN w S v x) (hf : Fe b w w') (hb : ∀ i, S i → i < w.heap.size ∧ i ≠ b) : IsN w' S v x :=
  h.keep (fun _ hb => hb) fun p hp => World.cell?_of_block (hf.block p.block (hb _ hp).1 (hb _ hp).2)
/-- The reader at block b: s is still to be read, o are open, the end is e. -/
structure Rds (b : Nat) (w : World) (e : Int) (o : Nat) (s : Ps) (A : Option Addr) (n c : Nat) : Prop where
  blk : w.heap[b]? = some (.cells #[.slice A n c, .int .i64 e, .int .i64 s.atv, .int .i64 s.whyv, .int .i64 o] 60 (0, 0))
  rd : RdT w b A n c s.toks
  ok : ∀ a y, s = .dead a y → y ≠ 0
  few : s.toks.length ≤ 4000
def RdE (b : Nat) (w : World) (e : Int) (o : Nat) (s : Ps) : Prop := ∃ A n c, Rds b w e o s A n c
section
variable {b : Nat} {w w' : World} {e : Int} {o : Nat} {s : Ps} {A : Option Addr} {n c : Nat}
theorem Rds.lt (h : Rds b w e o s A n c) : b < w.heap.size := by
  rcases Nat.lt_or_ge b w.heap.size with hlt | hge
  · exact hlt
  · have := h.blk; rw [Array.getElem?_eq_none hge] at this; cases this
theorem Rds.drewN (h : Rds b w e o s A n c) (q : Nat) : Rds b (w.drewN q) e o s A n c := ⟨h.blk, h.rd.drewN q, h.ok, h.few⟩
theorem Rds.below (h : Rds b w e o s A n c) (hb : Below w.heap.size w w') : Rds b w' e o s A n c :=
  ⟨(hb.block b h.lt).trans h.blk, h.rd.keep fun p hp => hb.cell (by have := h.lt; omega), h.ok, h.few⟩
/-- It stays where another block turns. -/
theorem Rds.other (h : Rds b w e o s A n c) {g : Nat} (hg : b < g) (j : Nat) (v : Value) : Rds b (w.setCell ⟨g, j, none⟩ v) e o s A n c :=
  ⟨(Below.heap_setCell _ _ _ _ (by show b ≠ g; omega)).trans h.blk, h.rd.keep fun p hp => World.cell?_of_block (w := w) (Below.heap_setCell _ _ _ _ (by show p.block ≠ g; omega)), h.ok, h.few⟩
theorem Rds.fr (h : Rds b w e o s A n c) (j : Nat) : w.frozen? ⟨b, j, none⟩ = false := frozen_of_row _ _ _ _ _ h.blk
theorem Rds.cells (h : Rds b w e o s A n c) : w.cell? ⟨b, 0, none⟩ = some (.slice A n c) ∧ w.cell? ⟨b, 1, none⟩ = some (.int .i64 e) ∧ w.cell? ⟨b, 2, none⟩ = some (.int .i64 s.atv) ∧ w.cell? ⟨b, 3, none⟩ = some (.int .i64 s.whyv) ∧ w.cell? ⟨b, 4, none⟩ = some (.int .i64 o) := by
  refine ⟨?_, ?_, ?_, ?_, ?_⟩ <;> (rw [cell_of_row _ _ _ _ _ _ h.blk]; rfl)
/-- How many are open turns. -/
theorem Rds.open_ (h : Rds b w e o s A n c) (o' : Nat) : Rds b (w.setCell ⟨b, 4, none⟩ (.int .i64 o')) e o' s A n c := by
  refine ⟨?_, h.rd.keep fun p hp => World.cell?_of_block (w := w) (Below.heap_setCell _ _ _ _ (by show p.block ≠ b; omega)), h.ok, h.few⟩
  rw [heap_setCell_same _ _ _ _ _ _ h.blk]; rfl
end
/-- The first token of some. -/
theorem RdT.first {w : World} {B : Nat} {A : Option Addr} {n c : Nat} {t : Tok} {u : List Tok} (h : RdT w B A n c (t :: u)) : ∃ b off, A = some ⟨b, off, none⟩ ∧ b < B ∧ n = u.length + 1 ∧ w.cell? ⟨b, off, none⟩ = some (.int .i64 t.kind) ∧ w.cell? ⟨b, off + 1, none⟩ = some (.string (strOfNums t.text)) ∧ w.cell? ⟨b, off + 2, none⟩ = some (.int .i64 t.low) ∧ w.cell? ⟨b, off + 3, none⟩ = some (.int .i64 t.high) ∧ w.cell? ⟨b, off + 4, none⟩ = some (.int .i64 t.pos) := by
  have hl := h.len
  simp only [List.length_cons] at hl
  obtain ⟨b, off, e, hb, hc⟩ := h.at_ (by omega)
  refine ⟨b, off, e, hb, hl.symm, ?_, ?_, ?_, ?_, ?_⟩
  · exact hc 0 _ rfl
  · exact hc 1 _ rfl
  · exact hc 2 _ rfl
  · exact hc 3 _ rfl
  · exact hc 4 _ rfl
/-- All but the first token. -/
theorem RdT.tail {w : World} {B : Nat} {A : Option Addr} {n c : Nat} {t : Tok} {u : List Tok} (h : RdT w B A n c (t :: u)) : RdT w B (if c = 1 then A else A.map (·.add 5)) (n - 1) (c - 1) u := by
  have hl := h.len
  simp only [List.length_cons] at hl
  refine ⟨by omega, by have := h.cap; omega, by have := h.capm; omega, fun h1 => ?_⟩
  obtain ⟨b, off, rfl, hb, hc⟩ := h.at_ (by omega)
  rw [if_neg (by have := h.cap; omega)]
  refine ⟨b, off + 5, by simp [kadd_none], hb, fun j x hx => ?_⟩
  have := hc (5 + j) x (by
    rw [show cellsP (t :: u) = t.cells ++ cellsP u by simp [cellsP], List.getElem?_append_right (by simp [Tok.cells])]
    simpa [Tok.cells] using hx)
  rwa [Nat.add_assoc]
end Go.Proofs.YtdbjjakkjmhdgaaDoor
