/- Tokens in memory. -/
import Derived.Test.YtdhighnbbpngpaaGreatDoorKMem
import Derived.Laws.Rows
namespace Go.Proofs.YtdhighnbbpngpaaGreatDoor
open Go.RowKit

/-- A token with its place. -/
structure Tok where
  kind : Int
  text : List Int
  low : Int
  high : Int
  pos : Int
deriving DecidableEq
def Tok.cells (t : Tok) : List Value := [.int .i64 t.kind, .string (strOfNums t.text), .int .i64 t.low, .int .i64 t.high, .int .i64 t.pos]
def cellsP (l : List Tok) : List Value := l.flatMap Tok.cells
theorem cellsP_len (l : List Tok) : (cellsP l).length = l.length * 5 := by
  induction l with
  | nil => rfl
  | cons t u ih => rw [show cellsP (t :: u) = t.cells ++ cellsP u by simp [cellsP], List.length_append, ih, show t.cells.length = 5 from rfl, List.length_cons]; omega
theorem cellsP_app (l m : List Tok) : cellsP (l ++ m) = cellsP l ++ cellsP m := by simp [cellsP]
theorem cellsP_one (l : List Tok) : ∀ u ∈ cellsP l, u.oneCell' = true := fun u hu => by
  simp only [cellsP, List.mem_flatMap] at hu
  obtain ⟨t, _, hu⟩ := hu
  simp only [Tok.cells, List.mem_cons, List.not_mem_nil, or_false] at hu
  rcases hu with rfl | rfl | rfl | rfl | rfl <;> rfl
theorem cellsP_at {l : List Tok} {i : Nat} {t : Tok} (h : l[i]? = some t) {j : Nat} (hj : j < 5) : (cellsP l)[i * 5 + j]? = t.cells[j]? := by
  induction l generalizing i with
  | nil => simp at h
  | cons x u ih =>
    rw [show cellsP (x :: u) = x.cells ++ cellsP u by simp [cellsP]]
    have hx : x.cells.length = 5 := rfl
    cases i with
    | zero => simp at h; subst h; rw [Nat.zero_mul, Nat.zero_add, List.getElem?_append_left (by omega)]
    | succ i =>
      rw [List.getElem?_append_right (by omega), hx, show (i + 1) * 5 + j - 5 = i * 5 + j by omega]
      exact ih (by simpa using h)
/-- The slice value reads as these tokens, and lies below block B. -/
structure RdT (w : World) (B : Nat) (A : Option Addr) (n c : Nat) (l : List Tok) : Prop where
  len : l.length = n
  cap : n ≤ c
  capm : c ≤ maxLen
  at_ : 0 < n → ∃ b off, A = some ⟨b, off, none⟩ ∧ b < B ∧ ∀ (j : Nat) (u : Value), (cellsP l)[j]? = some u → w.cell? ⟨b, off + j, none⟩ = some u
def OwnT (w : World) (B : Nat) (v : Value) (l : List Tok) : Prop := w.ownsRow B 95 5 v l.length (cellsP l)
section
variable {w w' : World} {B n c : Nat} {A : Option Addr} {l : List Tok} {v : Value}
theorem RdT.keep (h : RdT w B A n c l) (hk : ∀ p : Addr, p.block < B → w'.cell? p = w.cell? p) : RdT w' B A n c l :=
  ⟨h.len, h.cap, h.capm, fun hn => by
    obtain ⟨b, off, e, hb, hc⟩ := h.at_ hn
    exact ⟨b, off, e, hb, fun j x hx => (hk _ hb).trans (hc j x hx)⟩⟩
theorem RdT.more {B' : Nat} (h : RdT w B A n c l) (hB : B ≤ B') : RdT w B' A n c l :=
  ⟨h.len, h.cap, h.capm, fun hn => by
    obtain ⟨b, off, e, hb, hc⟩ := h.at_ hn
    exact ⟨b, off, e, by omega, hc⟩⟩
theorem RdT.on (h : RdT w w.heap.size A n c l) (hb : Below w.heap.size w w') : RdT w' w'.heap.size A n c l := (h.keep fun _ hp => hb.cell hp).more hb.size
theorem RdT.drewN (h : RdT w B A n c l) (q : Nat) : RdT (w.drewN q) B A n c l := ⟨h.len, h.cap, h.capm, h.at_⟩
theorem RdT.nil (w : World) (B : Nat) : RdT w B none 0 0 [] := ⟨rfl, Nat.le_refl _, by simp [maxLen], fun h => absurd h (by omega)⟩
theorem OwnT.nil (w : World) (B : Nat) : OwnT w B (.slice none 0 0) [] := World.ownsRow_nil w B _ 5
theorem OwnT.rd (h : OwnT w B v l) : ∃ A c, v = .slice A l.length c ∧ RdT w w.heap.size A l.length c l := by
  rcases h.2 with ⟨h1, h2⟩ | ⟨g, cap, cur, h1, _, hg, h3, h4, _, _⟩
  · subst h1
    have : l = [] := List.eq_nil_of_length_eq_zero h2
    subst this
    exact ⟨none, 0, rfl, RdT.nil _ _⟩
  · subst h1
    have hlt : g < w.heap.size := by
      rcases Nat.lt_or_ge g w.heap.size with hlt | hge
      · exact hlt
      · rw [Array.getElem?_eq_none hge] at hg; cases hg
    exact ⟨_, cap, rfl, rfl, h3, h4, fun _ => ⟨g, 0, rfl, hlt, fun j x hx => by rw [← kadd_none]; exact World.ownsRow.cells h (g := g) rfl j _ hx⟩⟩
theorem OwnT.below (h : OwnT w B v l) (hb : Below w.heap.size w w') : OwnT w' B v l := by
  refine ⟨h.1, ?_⟩
  rcases h.2 with h2 | ⟨g, cap, cur, h1, hB, hg, h3⟩
  · exact .inl h2
  · have hlt : g < w.heap.size := by
      rcases Nat.lt_or_ge g w.heap.size with hlt | hge
      · exact hlt
      · rw [Array.getElem?_eq_none hge] at hg; cases hg
    exact .inr ⟨g, cap, cur, h1, hB, (hb.block g hlt).trans hg, h3⟩
/-- A row stays where blocks below it turn. -/
theorem OwnT.set (h : OwnT w B v l) {b o : Nat} (hb : b < B) (x : Value) : OwnT (w.setCell ⟨b, o, none⟩ x) B v l := by
  refine ⟨h.1, ?_⟩
  rcases h.2 with h2 | ⟨g, cap, cur, h1, hB, hg, h3⟩
  · exact .inl h2
  · exact .inr ⟨g, cap, cur, h1, hB, (Below.heap_setCell _ _ _ _ (by show g ≠ b; omega)).trans hg, h3⟩
theorem OwnT.drewN (h : OwnT w B v l) (q : Nat) : OwnT (w.drewN q) B v l := h
theorem OwnT.block (h : OwnT w B v l) : ∀ i, v.ownBlock = some i → B ≤ i ∧ i < w.heap.size := World.ownsRow.lt h
end
end Go.Proofs.YtdhighnbbpngpaaGreatDoor
