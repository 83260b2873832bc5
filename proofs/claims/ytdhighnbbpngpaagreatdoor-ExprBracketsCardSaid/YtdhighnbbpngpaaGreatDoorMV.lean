/- Plain facts on what tokens say: the same, with one more token behind that can't be of it, and within one bracket more, unless it is too deep. Plain facts on items: of texts one behind the other, a line's end between. Plain facts on texts: the items of two texts, one behind the other, a line's end between. Plain facts on texts: what the items of two texts, one behind the other, are. Plain facts on items: where they stand, and where a text is wrong. -/
import Derived.Test.YtdhighnbbpngpaaGreatDoorMT
import Derived.Test.YtdhighnbbpngpaaGreatDoorYV
import Derived.Test.YtdhighnbbpngpaaGreatDoorMQ
set_option maxRecDepth 100000
namespace Go.Proofs.YtdhighnbbpngpaaGreatDoor
namespace Y

def isLive (s : Ps) : Prop := ∃ ts, s = .live ts
theorem not_live {a y : Int} : ¬ isLive (.dead a y) := fun ⟨_, h⟩ => by cases h
/-- The same, with a token and others behind. -/
def Ext (l : Tok) (u : List Tok) (s t : Ps) : Prop := ∃ ts, s = .live ts ∧ t = .live (ts ++ l :: u)
/-- The same, or too deep. -/
def Rel {α : Type} (d : Nat) (l : Tok) (u : List Tok) (r r' : α × Ps) : Prop := (d = 1 ∧ ∃ a, r'.2 = .dead a 8) ∨ (r'.1 = r.1 ∧ Ext l u r.2 r'.2)
section
variable {l : Tok} {u : List Tok} {e e' : Int}
theorem next_ext {ks : List Int} {s t : Ps} (h : Ext l u s t) (hk : ks.contains l.kind = false) : nextP ks t = nextP ks s := by
  obtain ⟨ts, rfl, rfl⟩ := h
  cases ts with
  | nil => exact hk
  | cons x v => rfl
theorem take_ext {ks : List Int} {s t : Ps} (h : Ext l u s t) (hl : isLive (takeP e ks s).2) : (takeP e' ks t).1 = (takeP e ks s).1 ∧ Ext l u (takeP e ks s).2 (takeP e' ks t).2 := by
  obtain ⟨ts, rfl, rfl⟩ := h
  cases ts with
  | nil => exact absurd hl not_live
  | cons x v =>
    rw [take_cons] at hl ⊢
    rw [List.cons_append, take_cons]
    by_cases hc : ks.contains x.kind = true
    · rw [if_pos hc, if_pos hc]; exact ⟨rfl, v, rfl, rfl⟩
    · rw [if_neg hc] at hl; exact absurd hl not_live
theorem take_live {ks : List Int} {s : Ps} (h : isLive (takeP e ks s).2) : isLive s := by
  cases s with
  | live ts => exact ⟨ts, rfl⟩
  | dead a y => rw [take_dead] at h; exact absurd h not_live
theorem deep_live {o : Nat} {s : Ps} (h : isLive (deepP e o s)) : deepP e o s = s ∧ o ≠ 12 := by
  unfold deepP at h ⊢
  by_cases ho : o = 12
  · rw [if_pos ho] at h
    rcases s with (_ | ⟨t, v⟩) | ⟨a, y⟩ <;> exact absurd h not_live
  · rw [if_neg ho]; exact ⟨rfl, ho⟩
/-- A token that opens, in both. -/
theorem open_ext {d o : Nat} {ks : List Int} {s t : Ps} (hd : d ≤ 1) (h : Ext l u s t) (hl : isLive (takeP e ks (deepP e o s)).2) :
    (d = 1 ∧ ∃ a, deepP e' (o + d) t = .dead a 8) ∨ ((takeP e' ks (deepP e' (o + d) t)).1 = (takeP e ks (deepP e o s)).1 ∧ Ext l u (takeP e ks (deepP e o s)).2 (takeP e' ks (deepP e' (o + d) t)).2) := by
  obtain ⟨h1, h2⟩ := deep_live (take_live hl)
  rw [h1] at hl ⊢
  by_cases ho : o + d = 12
  · left
    refine ⟨by omega, ?_⟩
    obtain ⟨ts, rfl, rfl⟩ := h
    unfold deepP
    rw [if_pos ho]
    cases ts with
    | nil => exact ⟨_, rfl⟩
    | cons x v => exact ⟨_, rfl⟩
  · right
    have : deepP e' (o + d) t = t := by unfold deepP; rw [if_neg ho]
    rw [this]
    exact take_ext h hl
structure ExtA (l : Tok) (u : List Tok) (e e' : Int) (d n : Nat) : Prop where
  form : ∀ o s t, Ext l u s t → isLive (formP e n o s).2 → Rel d l u (formP e n o s) (formP e' n (o + d) t)
  ors : ∀ o k s t, Ext l u s t → isLive (orsP e n o k s).2 → Rel d l u (orsP e n o k s) (orsP e' n (o + d) k t)
  join : ∀ o s t, Ext l u s t → isLive (joinP e n o s).2 → Rel d l u (joinP e n o s) (joinP e' n (o + d) t)
  pieces : ∀ o k s t, Ext l u s t → isLive (piecesP e n o k s).2 → Rel d l u (piecesP e n o k s) (piecesP e' n (o + d) k t)
  piece : ∀ o s t, Ext l u s t → isLive (pieceP e n o s).2 → Rel d l u (pieceP e n o s) (pieceP e' n (o + d) t)
  bare : ∀ o s t, Ext l u s t → isLive (bareP e n o s).2 → Rel d l u (bareP e n o s) (bareP e' n (o + d) t)
  set : ∀ o s t, Ext l u s t → isLive (setP e n o s).2 → Rel d l u (setP e n o s) (setP e' n (o + d) t)
  parts : ∀ o k s t, Ext l u s t → isLive (partsP e n o k s).2 → Rel d l u (partsP e n o k s) (partsP e' n (o + d) k t)
  part : ∀ o s t, Ext l u s t → isLive (partP e n o s).2 → Rel d l u (partP e n o s) (partP e' n (o + d) t)
  held : ∀ o x s t, Ext l u s t → isLive (heldP e n o x s).2 → Rel d l u (heldP e n o x s) (heldP e' n (o + d) x t)
  member : ∀ o s t, Ext l u s t → isLive (memberP e n o s).2 → Rel d l u (memberP e n o s) (memberP e' n (o + d) t)
theorem live_or {s : Ps} : isLive s ∨ ∃ a y, s = .dead a y := by
  cases s with
  | live ts => exact .inl ⟨ts, rfl⟩
  | dead a y => exact .inr ⟨a, y, rfl⟩
theorem ext_all (hk : l.kind = 18 ∨ l.kind = 7) {d : Nat} (hd : d ≤ 1) (n : Nat) : ExtA l u e e' d n := by
  have c1 : ([8] : List Int).contains l.kind = false := by rcases hk with h | h <;> rw [h] <;> decide
  have c2 : ([1, 12, 6, 13] : List Int).contains l.kind = false := by rcases hk with h | h <;> rw [h] <;> decide
  have c3 : ([9, 10, 11] : List Int).contains l.kind = false := by rcases hk with h | h <;> rw [h] <;> decide
  have c4 : ([6] : List Int).contains l.kind = false := by rcases hk with h | h <;> rw [h] <;> decide
  have c5 : ([13] : List Int).contains l.kind = false := by rcases hk with h | h <;> rw [h] <;> decide
  have c6 : ([15, 1, 13] : List Int).contains l.kind = false := by rcases hk with h | h <;> rw [h] <;> decide
  have c7 : ([16, 17] : List Int).contains l.kind = false := by rcases hk with h | h <;> rw [h] <;> decide
  induction n with
  | zero => constructor <;> intros <;> simp only [formP, orsP, joinP, piecesP, pieceP, bareP, setP, partsP, partP, heldP, memberP] <;> exact .inr ⟨rfl, by assumption⟩
  | succ n ih =>
    have D := dead_all e n
    have D' := dead_all e' n
    constructor
    · intro o s t h hl
      rw [formP] at hl ⊢
      rw [formP]
      rcases live_or (s := (joinP e n o s).2) with h1 | ⟨a, y, h1⟩
      · rcases ih.join o s t h h1 with ⟨hd1, a, h2⟩ | ⟨h2, h3⟩
        · exact .inl ⟨hd1, a, by rw [h2]; exact D'.ors _ _ _ _⟩
        · rw [h2]; exact ih.ors _ _ _ _ h3 hl
      · rw [h1, D.ors] at hl; exact absurd hl not_live
    · intro o k s t h hl
      rw [orsP] at hl ⊢
      rw [orsP, next_ext h c1]
      by_cases hx : nextP [8] s = true
      · rw [if_pos hx] at hl ⊢
        rw [if_pos hx]
        rcases live_or (s := (joinP e n o (takeP e [8] s).2).2) with h1 | ⟨a, y, h1⟩
        · have h0 : isLive (takeP e [8] s).2 := by
            rcases live_or (s := (takeP e [8] s).2) with h0 | ⟨a, y, h0⟩
            · exact h0
            · rw [h0, D.join] at h1; exact absurd h1 not_live
          obtain ⟨_, h2⟩ := take_ext (e' := e') h h0
          rcases ih.join o _ _ h2 h1 with ⟨hd1, a, h3⟩ | ⟨h3, h4⟩
          · exact .inl ⟨hd1, a, by rw [h3]; exact D'.ors _ _ _ _⟩
          · rw [h3]; exact ih.ors _ _ _ _ h4 hl
        · rw [h1, D.ors] at hl; exact absurd hl not_live
      · rw [if_neg hx] at hl ⊢
        rw [if_neg hx]; exact .inr ⟨rfl, h⟩
    · intro o s t h hl
      rw [joinP] at hl ⊢
      rw [joinP]
      rcases ih.pieces o [] s t h hl with ⟨hd1, a, h2⟩ | ⟨h2, h3⟩
      · exact .inl ⟨hd1, a, h2⟩
      · exact .inr ⟨by simp only [h2], h3⟩
    · intro o k s t h hl
      rw [piecesP] at hl ⊢
      rw [piecesP, next_ext h c2]
      by_cases hx : nextP [1, 12, 6, 13] s = true
      · rw [if_pos hx] at hl ⊢
        rw [if_pos hx]
        rcases live_or (s := (pieceP e n o s).2) with h1 | ⟨a, y, h1⟩
        · rcases ih.piece o s t h h1 with ⟨hd1, a, h3⟩ | ⟨h3, h4⟩
          · exact .inl ⟨hd1, a, by rw [h3]; exact D'.pieces _ _ _ _⟩
          · rw [h3]; exact ih.pieces _ _ _ _ h4 hl
        · rw [h1, D.pieces] at hl; exact absurd hl not_live
      · rw [if_neg hx] at hl ⊢
        rw [if_neg hx]; exact .inr ⟨rfl, h⟩
    · intro o s t h hl
      rw [pieceP] at hl ⊢
      rw [pieceP]
      have h1 : isLive (bareP e n o s).2 := by
        rcases live_or (s := (bareP e n o s).2) with h1 | ⟨a, y, h1⟩
        · exact h1
        · rw [h1] at hl
          rw [if_neg (by simp)] at hl
          rw [h1] at hl; exact absurd hl not_live
      rcases ih.bare o s t h h1 with ⟨hd1, a, h3⟩ | ⟨h3, h4⟩
      · refine .inl ⟨hd1, a, ?_⟩
        rw [h3, if_neg (by simp)]; exact h3
      · rw [next_ext h4 c3]
        by_cases hx : nextP [9, 10, 11] (bareP e n o s).2 = true
        · rw [if_pos hx] at hl ⊢
          rw [if_pos hx]
          obtain ⟨h5, h6⟩ := take_ext (e' := e') h4 hl
          exact .inr ⟨by simp only [h5, h3], h6⟩
        · rw [if_neg hx] at hl ⊢
          rw [if_neg hx]; exact .inr ⟨h3, h4⟩
    · intro o s t h hl
      rw [bareP] at hl ⊢
      rw [bareP, next_ext h c4, next_ext h c5]
      by_cases hx : nextP [6] s = true
      · rw [if_pos hx] at hl ⊢
        rw [if_pos hx]
        simp only at hl ⊢
        have h1 := take_live hl
        have h0 : isLive (takeP e [6] (deepP e o s)).2 := by
          rcases live_or (s := (takeP e [6] (deepP e o s)).2) with h0 | ⟨a, y, h0⟩
          · exact h0
          · rw [h0, D.form] at h1; exact absurd h1 not_live
        rcases open_ext (e' := e') hd h h0 with ⟨hd1, a, h2⟩ | ⟨_, h2⟩
        · exact .inl ⟨hd1, a, by rw [h2, take_dead, D'.form, take_dead]⟩
        · rw [show o + d + 1 = o + 1 + d by omega]
          rcases ih.form (o + 1) _ _ h2 h1 with ⟨hd1, a, h3⟩ | ⟨h3, h4⟩
          · exact .inl ⟨hd1, a, by rw [h3, take_dead]⟩
          · exact .inr ⟨h3, (take_ext h4 hl).2⟩
      · rw [if_neg hx] at hl ⊢
        rw [if_neg hx]
        by_cases hy : nextP [13] s = true
        · rw [if_pos hy] at hl ⊢
          rw [if_pos hy]; exact ih.set o s t h hl
        · rw [if_neg hy] at hl ⊢
          rw [if_neg hy]
          obtain ⟨h5, h6⟩ := take_ext (e' := e') h hl
          exact .inr ⟨by simp only [h5], h6⟩
    · intro o s t h hl
      rw [setP] at hl ⊢
      rw [setP]
      simp only at hl ⊢
      have h1 := take_live hl
      have h0 : isLive (takeP e [13] (deepP e o s)).2 := by
        rcases live_or (s := (takeP e [13] (deepP e o s)).2) with h0 | ⟨a, y, h0⟩
        · exact h0
        · rw [h0, D.parts] at h1; exact absurd h1 not_live
      rcases open_ext (e' := e') hd h h0 with ⟨hd1, a, h2⟩ | ⟨h2', h2⟩
      · exact .inl ⟨hd1, a, by rw [h2, take_dead, D'.parts, take_dead]⟩
      · rw [show o + d + 1 = o + 1 + d by omega]
        rcases ih.parts (o + 1) [] _ _ h2 h1 with ⟨hd1, a, h3⟩ | ⟨h3, h4⟩
        · exact .inl ⟨hd1, a, by rw [h3, take_dead]⟩
        · exact .inr ⟨by simp only [h2', h3], (take_ext h4 hl).2⟩
    · intro o k s t h hl
      rw [partsP] at hl ⊢
      rw [partsP, next_ext h c6]
      by_cases hx : nextP [15, 1, 13] s = true
      · rw [if_pos hx] at hl ⊢
        rw [if_pos hx]
        rcases live_or (s := (partP e n o s).2) with h1 | ⟨a, y, h1⟩
        · rcases ih.part o s t h h1 with ⟨hd1, a, h3⟩ | ⟨h3, h4⟩
          · exact .inl ⟨hd1, a, by rw [h3]; exact D'.parts _ _ _ _⟩
          · rw [h3]; exact ih.parts _ _ _ _ h4 hl
        · rw [h1, D.parts] at hl; exact absurd hl not_live
      · rw [if_neg hx] at hl ⊢
        rw [if_neg hx]; exact .inr ⟨rfl, h⟩
    · intro o s t h hl
      rw [partP] at hl ⊢
      rw [partP]
      rcases live_or (s := (memberP e n o s).2) with h1 | ⟨a, y, h1⟩
      · rcases ih.member o s t h h1 with ⟨hd1, a, h3⟩ | ⟨h3, h4⟩
        · exact .inl ⟨hd1, a, by rw [h3]; exact D'.held _ _ _ _⟩
        · rw [h3]; exact ih.held _ _ _ _ h4 hl
      · rw [h1, D.held] at hl; exact absurd hl not_live
    · intro o x s t h hl
      rw [heldP] at hl ⊢
      rw [heldP, next_ext h c7]
      by_cases hx : nextP [16, 17] s = true
      · rw [if_pos hx] at hl ⊢
        rw [if_pos hx]
        rcases live_or (s := (memberP e n o (takeP e [16, 17] s).2).2) with h1 | ⟨a, y, h1⟩
        · have h0 : isLive (takeP e [16, 17] s).2 := by
            rcases live_or (s := (takeP e [16, 17] s).2) with h0 | ⟨a, y, h0⟩
            · exact h0
            · rw [h0, D.member] at h1; exact absurd h1 not_live
          obtain ⟨h2', h2⟩ := take_ext (e' := e') h h0
          rcases ih.member o _ _ h2 h1 with ⟨hd1, a, h3⟩ | ⟨h3, h4⟩
          · exact .inl ⟨hd1, a, by rw [h3]; exact D'.held _ _ _ _⟩
          · rw [h3, h2']; exact ih.held _ _ _ _ h4 hl
        · rw [h1, D.held] at hl; exact absurd hl not_live
      · rw [if_neg hx] at hl ⊢
        rw [if_neg hx]; exact .inr ⟨rfl, h⟩
    · intro o s t h hl
      rw [memberP] at hl ⊢
      rw [memberP, next_ext h c5]
      by_cases hy : nextP [13] s = true
      · rw [if_pos hy] at hl ⊢
        rw [if_pos hy]; exact ih.set o s t h hl
      · rw [if_neg hy] at hl ⊢
        rw [if_neg hy]
        obtain ⟨h5, h6⟩ := take_ext (e' := e') h hl
        exact .inr ⟨by simp only [h5], h6⟩
end
end Y
end Go.Proofs.YtdhighnbbpngpaaGreatDoor
namespace Go.Proofs.YtdhighnbbpngpaaGreatDoor
namespace Y

theorem item_ext {l : Tok} {u : List Tok} {e e' : Int} (hk : l.kind = 18) {n : Nat} {s t : Ps} (h : Ext l u s t) (hl : isLive (itemP e n s).2) : (itemP e' n t).1 = (itemP e n s).1 ∧ Ext l u (itemP e n s).2 (itemP e' n t).2 := by
  have hE := fun e1 e2 => ext_all (e := e1) (e' := e2) (u := u) (.inl hk) (Nat.zero_le 1) n
  have hform : ∀ s t, Ext l u s t → isLive (formP e n 0 s).2 → (formP e' n 0 t).1 = (formP e n 0 s).1 ∧ Ext l u (formP e n 0 s).2 (formP e' n 0 t).2 := fun s t h hl => by
    rcases (hE e e').form 0 s t h hl with ⟨h1, _⟩ | h1
    · cases h1
    · exact h1
  have hform_live : ∀ s, isLive (formP e n 0 s).2 → isLive s := fun s h => by
    cases s with
    | live ts => exact ⟨ts, rfl⟩
    | dead a y => rw [(dead_all e n).form] at h; exact absurd h not_live
  unfold itemP at hl ⊢
  by_cases h1 : (takeP e [1, 2, 19] s).1.kind = 1
  · rw [if_pos h1] at hl ⊢
    simp only at hl
    have l1 := hform_live _ hl
    have l0 := take_live l1
    obtain ⟨a1, a2⟩ := take_ext (e' := e') h l0
    obtain ⟨_, b2⟩ := take_ext (e' := e') a2 l1
    obtain ⟨c1, c2⟩ := hform _ _ b2 hl
    rw [if_pos (by rw [a1]; exact h1)]
    exact ⟨by simp only [a1, c1], c2⟩
  · rw [if_neg h1] at hl ⊢
    by_cases h2 : (takeP e [1, 2, 19] s).1.kind = 2
    · rw [if_pos h2] at hl ⊢
      simp only at hl
      have l3 := hform_live _ hl
      have l2 := take_live l3
      have l1 := hform_live _ l2
      obtain ⟨a1, a2⟩ := take_ext (e' := e') h l1
      obtain ⟨b1, b2⟩ := hform _ _ a2 l2
      obtain ⟨c1, c2⟩ := take_ext (e' := e') b2 l3
      obtain ⟨d1, d2⟩ := hform _ _ c2 hl
      rw [if_neg (by rw [a1]; exact h1), if_pos (by rw [a1]; exact h2)]
      exact ⟨by simp only [a1, b1, c1, d1], d2⟩
    · rw [if_neg h2] at hl ⊢
      simp only at hl
      obtain ⟨a1, a2⟩ := take_ext (e' := e') h hl
      rw [if_neg (by rw [a1]; exact h1), if_neg (by rw [a1]; exact h2)]
      exact ⟨by simp only [a1], a2⟩
theorem items_dead (e : Int) (n : Nat) : ∀ (m : Nat) (acc : List It) (a y : Int), itemsP e n m acc (.dead a y) = (acc, .dead a y)
  | 0, _, _, _ => rfl
  | m + 1, acc, a, y => by rw [itemsP, if_pos (by rfl)]
theorem line_dead (e a y : Int) : lineP e (.dead a y) = .dead a y := by unfold lineP; rw [if_pos (by rfl)]
theorem items_nil (e : Int) (n : Nat) : ∀ (m : Nat) (acc : List It), itemsP e n m acc (.live []) = (acc, .live [])
  | 0, _ => rfl
  | m + 1, acc => by rw [itemsP, if_pos (by rfl)]
/-- What a text's items are with another text behind, in a line of its own. -/
theorem items_app {l : Tok} {u : List Tok} {e e' : Int} (hk : l.kind = 18) {n : Nat} {x : List It} : ∀ (k : Nat) (ts : List Tok), ts.length ≤ k → ∀ (m : Nat) (acc : List It), ts.length + 1 ≤ m → itemsP e n m acc (.live ts) = (x, .live []) →
    ∀ M, ts.length + u.length + 2 ≤ M → ∃ M', u.length + 1 ≤ M' ∧ itemsP e' n M acc (.live (ts ++ l :: u)) = itemsP e' n M' x (.live u) := by
  have hk18 : ([18] : List Int).contains l.kind = true := by rw [hk]; decide
  intro k
  induction k with
  | zero =>
    intro ts hts m acc hm h M hM
    obtain rfl : ts = [] := List.eq_nil_of_length_eq_zero (by omega)
    rw [items_nil] at h
    injection h with h1 _
    subst h1
    obtain ⟨M, rfl⟩ : ∃ M1, M = M1 + 1 := ⟨M - 1, by omega⟩
    refine ⟨M, by simp at hM; omega, ?_⟩
    rw [List.nil_append, itemsP, if_neg (by simp [Ps.toks]), if_pos (by simpa [nextP, Ps.toks] using hk18), take_cons, if_pos hk18]
  | succ k ih =>
    intro ts hts m acc hm h M hM
    cases ts with
    | nil =>
      rw [items_nil] at h
      injection h with h1 _
      subst h1
      obtain ⟨M, rfl⟩ : ∃ M1, M = M1 + 1 := ⟨M - 1, by omega⟩
      refine ⟨M, by simp at hM; omega, ?_⟩
      rw [List.nil_append, itemsP, if_neg (by simp [Ps.toks]), if_pos (by simpa [nextP, Ps.toks] using hk18), take_cons, if_pos hk18]
    | cons t v =>
      simp only [List.length_cons] at hts hm hM
      obtain ⟨m, rfl⟩ : ∃ m1, m = m1 + 1 := ⟨m - 1, by omega⟩
      obtain ⟨M, rfl⟩ : ∃ M1, M = M1 + 1 := ⟨M - 1, by omega⟩
      rw [itemsP, if_neg (by simp [Ps.toks])] at h
      rw [List.cons_append, itemsP, if_neg (by simp [Ps.toks])]
      by_cases hx : ([18] : List Int).contains t.kind = true
      · rw [next_cons, if_pos hx, take_cons, if_pos hx] at h
        rw [next_cons, if_pos hx, take_cons, if_pos hx]
        exact ih v (by omega) m acc (by omega) h M (by omega)
      · rw [next_cons, if_neg hx] at h
        rw [next_cons, if_neg hx]
        by_cases h100 : acc.length = 100
        · rw [if_pos h100] at h
          injection h with _ h2
          cases h2
        · rw [if_neg h100] at h ⊢
          rcases live_or (s := (itemP e n (.live (t :: v))).2) with hl | ⟨a, y, hl⟩
          · obtain ⟨h1, ts1, h2, h3⟩ := item_ext (u := u) (e' := e') hk (s := .live (t :: v)) (t := .live (t :: (v ++ l :: u))) ⟨t :: v, rfl, rfl⟩ hl
            have hlen : ts1.length ≤ v.length := by
              have hlt : (itemP e n (.live (t :: v))).2.toks.length < (Ps.live (t :: v)).toks.length := by
                have g1 : (takeP e [1, 2, 19] (.live (t :: v))).2.toks.length < (Ps.live (t :: v)).toks.length := by
                  rw [take_cons]; split <;> simp [Ps.toks]
                unfold itemP
                split
                · exact Nat.lt_of_le_of_lt (Nat.le_trans ((len_all e n).form _ _) (take_len _ _ _)) g1
                · split
                  · exact Nat.lt_of_le_of_lt (Nat.le_trans ((len_all e n).form _ _) (Nat.le_trans (take_len _ _ _) ((len_all e n).form _ _))) g1
                  · exact g1
              rw [h2] at hlt
              simp only [Ps.toks, List.length_cons] at hlt
              omega
            rw [h1, h3]
            rw [h2] at h
            generalize (itemP e n (.live (t :: v))).1 = it at *
            cases ts1 with
            | nil =>
              have e1 : lineP e (.live []) = .live [] := by unfold lineP; rw [if_pos (by rfl)]
              rw [e1, items_nil] at h
              injection h with h4 _
              subst h4
              have e2 : lineP e' (.live ([] ++ l :: u)) = .live u := by
                unfold lineP; rw [if_neg (by simp [Ps.toks]), List.nil_append, take_cons, if_pos hk18]
              rw [e2]
              exact ⟨M, by omega, rfl⟩
            | cons t1 v1 =>
              simp only [List.length_cons] at hlen
              have e1 : lineP e (.live (t1 :: v1)) = (takeP e [18] (.live (t1 :: v1))).2 := by unfold lineP; rw [if_neg (by simp [Ps.toks])]
              have e2 : lineP e' (.live (t1 :: v1 ++ l :: u)) = (takeP e' [18] (.live (t1 :: (v1 ++ l :: u)))).2 := by unfold lineP; rw [if_neg (by simp [Ps.toks])]; rfl
              rw [e1, take_cons] at h
              rw [e2, take_cons]
              by_cases hy : ([18] : List Int).contains t1.kind = true
              · rw [if_pos hy] at h ⊢
                exact ih v1 (by omega) m _ (by omega) h M (by omega)
              · rw [if_neg hy] at h
                rw [items_dead] at h
                injection h with _ h5
                cases h5
          · rw [hl, line_dead, items_dead] at h
            injection h with _ h5
            cases h5
/-- An item further on. -/
def shI (d : Int) (x : It) : It := ⟨x.kind, x.name, x.number, x.cut, x.before, x.after, x.pos + d⟩
theorem item_sh (e d : Int) (n : Nat) (s : Ps) : (itemP (e + d) n (shP d s)).2 = shP d (itemP e n s).2 ∧ (isLive (itemP e n s).2 → (itemP (e + d) n (shP d s)).1 = shI d (itemP e n s).1) := by
  obtain ⟨k1, k2, k3, _⟩ := takeT_sh e d [1, 2, 19] s
  have hS := shf_all e d n
  have hpos : isLive (takeP e [1, 2, 19] s).2 → (takeP (e + d) [1, 2, 19] (shP d s)).1.pos = (takeP e [1, 2, 19] s).1.pos + d := fun h => by
    rcases s with (_ | ⟨t, u⟩) | ⟨a, y⟩
    · exact absurd h not_live
    · rw [take_cons] at h ⊢
      show (if ([1, 2, 19] : List Int).contains t.kind = true then _ else _ : Tok × Ps).1.pos = _
      by_cases hc : ([1, 2, 19] : List Int).contains t.kind = true
      · rw [if_pos hc, if_pos hc]; rfl
      · rw [if_neg hc] at h; exact absurd h not_live
    · exact absurd h not_live
  have hform_live : ∀ s, isLive (formP e n 0 s).2 → isLive s := fun s h => by
    cases s with
    | live ts => exact ⟨ts, rfl⟩
    | dead a y => rw [(dead_all e n).form] at h; exact absurd h not_live
  unfold itemP
  simp only [k1, take_sh, hS.form, (takeT_sh e d [4, 5] _).1, k2, k3]
  split
  · exact ⟨rfl, fun h => by rw [hpos (take_live (hform_live _ h))]; rfl⟩
  · split
    · exact ⟨rfl, fun h => by rw [hpos (hform_live _ (take_live (hform_live _ h)))]; rfl⟩
    · exact ⟨rfl, fun h => by rw [hpos h]; rfl⟩
theorem line_sh (e d : Int) (s : Ps) : lineP (e + d) (shP d s) = shP d (lineP e s) := by
  unfold lineP
  have : (shP d s).toks = [] ↔ s.toks = [] := by
    rcases s with (_ | ⟨t, u⟩) | ⟨a, y⟩ <;> simp [shP, Ps.toks]
  by_cases h : s.toks = []
  · rw [if_pos h, if_pos (this.2 h)]
  · rw [if_neg h, if_neg (fun h' => h (this.1 h'))]; exact take_sh e d [18] s
/-- Items further on, behind others: the same, unless they are too many. -/
theorem items_sh (e d : Int) (n : Nat) (X : List It) : ∀ (m : Nat) (acc acc' : List It) (s : Ps), acc' = X ++ acc.map (shI d) →
    (∃ a, (itemsP (e + d) n m acc' (shP d s)).2 = .dead a 9) ∨ (∃ a, (itemsP e n m acc s).2 = .dead a 9) ∨
      ((itemsP (e + d) n m acc' (shP d s)).2 = shP d (itemsP e n m acc s).2 ∧ (isLive (itemsP e n m acc s).2 → (itemsP (e + d) n m acc' (shP d s)).1 = X ++ (itemsP e n m acc s).1.map (shI d))) := by
  intro m
  induction m with
  | zero => intro acc acc' s h; exact .inr (.inr ⟨rfl, fun _ => h⟩)
  | succ m ih =>
    intro acc acc' s h
    have htk : (shP d s).toks = [] ↔ s.toks = [] := by
      rcases s with (_ | ⟨t, u⟩) | ⟨a, y⟩ <;> simp [shP, Ps.toks]
    rw [itemsP, itemsP]
    by_cases h0 : s.toks = []
    · rw [if_pos h0, if_pos (htk.2 h0)]; exact .inr (.inr ⟨rfl, fun _ => h⟩)
    · rw [if_neg h0, if_neg (fun h' => h0 (htk.1 h')), next_sh]
      by_cases h1 : nextP [18] s = true
      · rw [if_pos h1, if_pos h1, take_sh]; exact ih acc acc' _ h
      · rw [if_neg h1, if_neg h1]
        have hfl : ∀ (e : Int) (s : Ps), s.toks ≠ [] → ∃ a, failP e 9 s = .dead a 9 := fun e s h => by
          rcases s with (_ | ⟨t, u⟩) | ⟨a, y⟩
          · exact absurd rfl h
          · exact ⟨_, rfl⟩
          · exact absurd rfl h
        by_cases h2 : acc'.length = 100
        · rw [if_pos h2]
          obtain ⟨a, h3⟩ := hfl (e + d) (shP d s) (fun h' => h0 (htk.1 h'))
          exact .inl ⟨a, h3⟩
        · rw [if_neg h2]
          by_cases h3 : acc.length = 100
          · rw [if_pos h3]
            obtain ⟨a, h4⟩ := hfl e s h0
            exact .inr (.inl ⟨a, h4⟩)
          · rw [if_neg h3]
            obtain ⟨g1, g2⟩ := item_sh e d n s
            rw [g1, line_sh]
            rcases live_or (s := (itemP e n s).2) with hl | ⟨a, y, hl⟩
            · rw [g2 hl]
              exact ih _ _ _ (by rw [h]; simp)
            · rw [hl, line_dead]
              show (∃ a', (itemsP (e + d) n m _ (.dead (a + d) y)).2 = _) ∨ _ ∨ (itemsP (e + d) n m _ (.dead (a + d) y)).2 = _ ∧ _
              rw [items_dead, items_dead]
              exact .inr (.inr ⟨rfl, fun h => absurd h not_live⟩)
end Y
end Go.Proofs.YtdhighnbbpngpaaGreatDoor
namespace Go.Proofs.YtdhighnbbpngpaaGreatDoor
open Go.RowKit
open E (okb encB flat offs DecIs Upto Dead)
open W (Tk Lx lexS stepS)
open Y (Nd It Ps shT shP shI isLive itemsP lastP failP)

theorem yupto_app {a b : List Int} {p : Nat} {x y : List Int} (h : Upto a a.length x) (h' : Upto b p y) : Upto (a ++ b) (a.length + p) (x ++ y) := by
  refine ⟨fun c hc => ?_, ?_, by have := h'.le; simp; omega⟩
  · rcases List.mem_append.1 hc with hc | hc
    · exact h.ok c hc
    · exact h'.ok c hc
  · have h1 := h.eq
    rw [List.take_length] at h1
    rw [E.flat_app, ← h1, ← h'.eq, List.take_append, Nat.add_sub_cancel_left, List.take_of_length_le (by omega)]
theorem ydead_app {a b : List Int} {p : Nat} (h : Dead b p) : Dead (a ++ b) (a.length + p) := by
  unfold E.Dead
  rw [List.drop_append]
  have e : a.drop (a.length + p) = [] := List.drop_of_length_le (by omega)
  rw [e, List.nil_append, Nat.add_sub_cancel_left]
  exact h
theorem lf_upto : Upto [10] ([10] : List Int).length [10] := ⟨by decide, by decide, by decide⟩
/-- A step's error is one. -/
theorem step_err {o : Nat} {ts : List Tk} {c : Int} {t : List Int} {k : Nat} {e : Int} (h : stepS o ts c t = .bad k e) : e ≠ 0 := by
  have hname : ∀ t, W.nameS t = .bad k e → e ≠ 0 := fun t h => by
    unfold W.nameS at h
    split at h
    · split at h
      · injection h with _ h; omega
      · cases h
    · injection h with _ h; omega
  have hset : ∀ t, W.setS t = .bad k e → e ≠ 0 := fun t h => by unfold W.setS at h; split at h <;> cases h
  have hnum : ∀ t, W.numT t = .bad k e → e ≠ 0 := fun t h => by
    unfold W.numT at h
    split at h
    · cases h
    · rename_i h0
      injection h with _ h; rw [← h]; exact h0
  have hnote : ∀ t, W.noteS t = .bad k e → e ≠ 0 := fun t h => by
    unfold W.noteS at h
    split at h
    · split at h
      · cases h
      · injection h with _ h; omega
    · cases h
  have hch : ∀ l n k e, W.chS l n = .bad k e → e ≠ 0 := fun l n k e h => by
    unfold W.chS at h
    split at h
    · injection h with _ h; omega
    · split at h
      · cases h
      · rename_i e' he
        have := read_errs he
        split at h
        · injection h with _ h; omega
        · injection h with _ h; omega
  have hchars : ∀ l, W.charsS l = .bad k e → e ≠ 0 := fun l h => by
    unfold W.charsS at h
    split at h
    · rename_i h1
      injection h with h2 h3
      subst h2 h3
      exact hch _ _ _ _ h1
    · split at h
      · rename_i h1
        injection h with h2 h3
        subst h2 h3
        unfold W.hiS at h1
        split at h1
        · exact hch _ _ _ _ h1
        · cases h1
      · split at h
        · injection h with _ h; omega
        · cases h
  unfold W.stepS at h
  split at h
  · unfold W.inS at h
    split at h
    · exact hname _ h
    · split at h
      · exact hset _ h
      · split at h
        · cases h
        · split at h
          · cases h
          · split at h
            · split at h
              · cases h
              · injection h with _ h; omega
            · exact hchars _ h
  · unfold W.outS at h
    split at h
    · exact hname _ h
    · split at h
      · exact hnum _ h
      · split at h
        · exact hset _ h
        · split at h
          · exact hnote _ h
          · split at h
            · injection h with _ h; omega
            · cases h
theorem lex_err : ∀ (n : Nat) (l : List Int), l.length ≤ n → ∀ (i o : Nat) (ts : List Tk) (k : Nat) (e : Int), lexS l i o ts = .bad k e → e ≠ 0 := by
  intro n
  induction n with
  | zero =>
    intro l hl i o ts k e h
    obtain rfl : l = [] := List.eq_nil_of_length_eq_zero (by omega)
    rw [W.lexS_nil] at h
    split at h
    · injection h with _ h; omega
    · cases h
  | succ n ih =>
    intro l hl i o ts k e h
    cases l with
    | nil =>
      rw [W.lexS_nil] at h
      split at h
      · injection h with _ h; omega
      · cases h
    | cons c t =>
      simp only [List.length_cons] at hl
      by_cases hb : c = 32 ∨ c = 9
      · rw [W.lexS_blank hb] at h
        exact ih t (by omega) _ _ _ _ _ h
      · rw [W.lexS_step hb] at h
        cases hs : stepS o ts c t with
        | bad k' e' => rw [hs] at h; injection h with _ h; rw [← h]; exact step_err hs
        | tok k' x lo hi m => rw [hs] at h; exact ih (t.drop m) (by rw [List.length_drop]; omega) _ _ _ _ _ h
        | skip m => rw [hs] at h; exact ih (t.drop m) (by rw [List.length_drop]; omega) _ _ _ _ _ h
theorem lex_at_all : ∀ (n : Nat) (l : List Int), l.length ≤ n → ∀ (i o : Nat) (ts ts' : List Tk), lexS l i o ts = .ok ts' → (∀ t ∈ ts, t.at_ ≤ i + l.length) → ∀ t ∈ ts', t.at_ ≤ i + l.length := by
  intro n
  induction n with
  | zero =>
    intro l hl i o ts ts' h hts
    obtain rfl : l = [] := List.eq_nil_of_length_eq_zero (by omega)
    rw [W.lexS_nil] at h
    split at h
    · cases h
    · injection h with h; subst h; exact hts
  | succ n ih =>
    intro l hl i o ts ts' h hts
    cases l with
    | nil =>
      rw [W.lexS_nil] at h
      split at h
      · cases h
      · injection h with h; subst h; exact hts
    | cons c t =>
      simp only [List.length_cons] at hl hts ⊢
      by_cases hb : c = 32 ∨ c = 9
      · rw [W.lexS_blank hb] at h
        have := ih t (by omega) _ _ _ _ h (fun x hx => by have := hts x hx; omega)
        intro x hx; have := this x hx; omega
      · rw [W.lexS_step hb] at h
        cases hs : stepS o ts c t with
        | bad k' e' => rw [hs] at h; cases h
        | tok k' x lo hi m =>
          have hg : (stepS o ts c t).good := by rw [hs]; trivial
          obtain ⟨_, a2⟩ := W.step_app (W.ends_lf (c :: t)) [] hg
          rw [hs] at a2 h
          have hm : m ≤ t.length := by have : m + 1 ≤ t.length + 1 := a2; omega
          have := ih (t.drop m) (by rw [List.length_drop]; omega) _ _ _ _ h (fun y hy => by
            rw [List.length_drop]
            rcases List.mem_append.1 hy with hy | hy
            · have := hts y hy; omega
            · simp at hy; subst hy; simp; omega)
          intro y hy; have := this y hy; rw [List.length_drop] at this; omega
        | skip m =>
          have hg : (stepS o ts c t).good := by rw [hs]; trivial
          obtain ⟨_, a2⟩ := W.step_app (W.ends_lf (c :: t)) [] hg
          rw [hs] at a2 h
          have hm : m ≤ t.length := by have : m + 1 ≤ t.length + 1 := a2; omega
          have := ih (t.drop m) (by rw [List.length_drop]; omega) _ _ _ _ h (fun y hy => by rw [List.length_drop]; have := hts y hy; omega)
          intro y hy; have := this y hy; rw [List.length_drop] at this; omega
theorem lex_at_le {l : List Int} {ts : List Tk} (h : lexS l 0 0 [] = .ok ts) : ∀ t ∈ ts, t.at_ ≤ l.length := fun t ht => by
  have := lex_at_all l.length l (Nat.le_refl _) 0 0 [] ts h (by simp) t ht
  omega
theorem tok_ok {Bs : List Int} {ts : List Tok} {x er : Int} (h : TokIs Bs ts x er) (he : er = 0) : ∃ cs ats y us, DecIs Bs cs ats y 0 ∧ lexS cs 0 0 [] = .ok us ∧ ts = placed cs us := by
  cases h with
  | dec _ _ _ _ h h0 => exact absurd he h0
  | bad cs ats x h k er hl => exact absurd he (lex_err cs.length cs (Nat.le_refl _) _ _ _ _ _ hl)
  | ok cs ats x h us hl => exact ⟨cs, ats, x, us, h, hl, rfl⟩
theorem dec_up {Bs cs ats : List Int} {x : Int} (h : DecIs Bs cs ats x 0) : Upto Bs Bs.length cs ∧ Bs.length ≤ 3000 := by
  cases h with
  | ok _ hl hu => exact ⟨hu, hl⟩
/-- The tokens of two texts, a line's end between. -/
theorem tok_lines {a b : List Int} {ta : List Tok} {x : Int} (ha : TokIs a ta x 0) {tb : List Tok} {y er : Int} (hb : TokIs b tb y er) (hl : a.length + 1 + b.length ≤ 3000) :
    if er = 0 then ∃ z, TokIs (a ++ 10 :: b) (ta ++ ⟨18, [], 0, 0, (a.length : Int)⟩ :: tb.map (shT ((a.length : Int) + 1))) z 0 else TokIs (a ++ 10 :: b) [] (y + ((a.length : Int) + 1)) er := by
  obtain ⟨ca, aa, xa, ua, da, la, rfl⟩ := tok_ok ha rfl
  obtain ⟨upa, _⟩ := dec_up da
  have up1 : Upto (a ++ [10]) (a ++ [10]).length (ca ++ [10]) := by
    have := yupto_app upa lf_upto
    rwa [show a.length + ([10] : List Int).length = (a ++ [10]).length by simp] at this
  have hflat : (flat ca).length = a.length := upa.len
  have hab : a ++ 10 :: b = (a ++ [10]) ++ b := by simp
  have hcab : ∀ cb : List Int, ca ++ 10 :: cb = (ca ++ [10]) ++ cb := fun cb => by simp
  have hlen1 : (a ++ [10]).length = a.length + 1 := by simp
  have hf10 : (flat (ca ++ [10])).length = a.length + 1 := by rw [E.flat_app, List.length_append, hflat]; rfl
  have hplc : ∀ (cb : List Int) (i : Nat), plc (ca ++ 10 :: cb) (i + (ca.length + 1)) = plc cb i + (a.length + 1) := fun cb i => by
    unfold plc
    rw [hcab, show i + (ca.length + 1) = (ca ++ [10]).length + i by simp; omega, List.take_length_add_append, E.flat_app, List.length_append, hf10]
    omega
  have hplc0 : ∀ (cb : List Int) (i : Nat), i ≤ ca.length → plc (ca ++ 10 :: cb) i = plc ca i := fun cb i hi => by
    unfold plc
    rw [List.take_append_of_le_length hi]
  cases hb with
  | dec cs ats _ _ h h0 =>
    rw [if_neg h0]
    cases h with
    | long h1 => omega
    | ok _ _ _ => exact absurd rfl h0
    | bad n ds h1 h2 h3 h4 =>
      have hd : DecIs (a ++ 10 :: b) [] [] (((a.length + 1 + n : Nat)) : Int) 3 := by
        refine .bad _ (ca ++ [10] ++ ds) (by simp; omega) (by simp; omega) ?_ ?_
        · rw [hab, ← hlen1]; exact yupto_app up1 h3
        · rw [hab, ← hlen1]; exact ydead_app h4
      have := TokIs.dec [] [] _ _ hd (by decide)
      rwa [show ((a.length + 1 + n : Nat) : Int) = (n : Int) + ((a.length : Int) + 1) by omega] at this
  | bad cb ats _ h k _ hlx =>
    have h0 := lex_err cb.length cb (Nat.le_refl _) _ _ _ _ _ hlx
    rw [if_neg h0]
    obtain ⟨upb, _⟩ := dec_up h
    have hd : DecIs (a ++ 10 :: b) (ca ++ 10 :: cb) _ _ 0 := .ok (ca ++ 10 :: cb) (by simp; omega) (by
      rw [hab, hcab, List.length_append]; exact yupto_app up1 upb)
    have hlex := W.lex_lines (b := cb) la
    rw [hlx] at hlex
    have := TokIs.bad _ _ _ hd _ _ hlex
    rw [hplc] at this
    rwa [show ((plc cb k + (a.length + 1) : Nat) : Int) = ((plc cb k : Nat) : Int) + ((a.length : Int) + 1) by omega] at this
  | ok cb ats xb h ub hlx =>
    rw [if_pos rfl]
    obtain ⟨upb, _⟩ := dec_up h
    have hd : DecIs (a ++ 10 :: b) (ca ++ 10 :: cb) _ _ 0 := .ok (ca ++ 10 :: cb) (by simp; omega) (by
      rw [hab, hcab, List.length_append]; exact yupto_app up1 upb)
    have hlex := W.lex_lines (b := cb) la
    rw [hlx] at hlex
    have ht := TokIs.ok _ _ _ hd _ hlex
    refine ⟨-1, ?_⟩
    have hat : ∀ t ∈ ua, t.at_ ≤ ca.length := lex_at_le la
    have e : placed (ca ++ 10 :: cb) ((ua ++ [⟨18, [], 0, 0, ca.length⟩]) ++ ub.map (W.sh (ca.length + 1))) = placed ca ua ++ ⟨18, [], 0, 0, (a.length : Int)⟩ :: (placed cb ub).map (shT ((a.length : Int) + 1)) := by
      unfold placed
      rw [List.map_append, List.map_append, List.append_assoc]
      congr 1
      · exact List.map_congr_left fun t ht => by rw [hplc0 cb _ (hat t ht)]
      · rw [List.map_cons, List.map_nil, List.cons_append, List.nil_append, List.map_map, List.map_map]
        congr 1
        · rw [hplc0 cb _ (Nat.le_refl _)]
          unfold plc
          rw [List.take_length, hflat]
        · refine List.map_congr_left fun t _ => ?_
          show (⟨t.kind, t.text, t.low, t.high, ((plc (ca ++ 10 :: cb) (t.at_ + (ca.length + 1)) : Nat) : Int)⟩ : Tok) = ⟨t.kind, t.text, t.low, t.high, ((plc cb t.at_ : Nat) : Int) + ((a.length : Int) + 1)⟩
          rw [hplc]
          congr 1
    rw [e] at ht
    exact ht
end Go.Proofs.YtdhighnbbpngpaaGreatDoor
namespace Go.Proofs.YtdhighnbbpngpaaGreatDoor
open Go.RowKit
open E (DecIs)
open W (Tk Lx lexS)
open Y (Nd It Ps shT shP shI isLive takeP failP deepP nextP formP orsP joinP piecesP pieceP bareP setP partsP partP heldP memberP itemP lineP itemsP lastP noTok noName zeroN)

theorem TokIs.one {Bs : List Int} {ts us : List Tok} {x y er fr : Int} (h : TokIs Bs ts x er) (h' : TokIs Bs us y fr) : ts = us ∧ x = y ∧ er = fr := by
  cases h with
  | dec cs ats _ _ h he =>
    cases h' with
    | dec cs' ats' _ _ h2 he2 =>
      obtain ⟨_, _, e3, e4⟩ := h.one h2
      exact ⟨rfl, e3, e4⟩
    | bad cs' ats' x' h2 => exact absurd (h.one h2).2.2.2 he
    | ok cs' ats' x' h2 => exact absurd (h.one h2).2.2.2 he
  | bad cs ats x h k er hl =>
    cases h' with
    | dec cs' ats' _ _ h2 he2 => exact absurd (h2.one h).2.2.2 he2
    | bad cs' ats' x' h2 k' er' hl2 =>
      obtain ⟨e1, _⟩ := h.one h2
      subst e1
      rw [hl] at hl2
      injection hl2 with a1 a2
      subst a1 a2
      exact ⟨rfl, rfl, rfl⟩
    | ok cs' ats' x' h2 us hl2 =>
      obtain ⟨e1, _⟩ := h.one h2
      subst e1
      rw [hl] at hl2
      cases hl2
  | ok cs ats x h ts hl =>
    cases h' with
    | dec cs' ats' _ _ h2 he2 => exact absurd (h2.one h).2.2.2 he2
    | bad cs' ats' x' h2 k' er' hl2 =>
      obtain ⟨e1, _⟩ := h.one h2
      subst e1
      rw [hl] at hl2
      cases hl2
    | ok cs' ats' x' h2 us hl2 =>
      obtain ⟨e1, _⟩ := h.one h2
      subst e1
      rw [hl] at hl2
      injection hl2 with a1
      subst a1
      exact ⟨rfl, rfl, rfl⟩
namespace Y
section
variable (e : Int) (Q : Ps → Prop)
/-- What each step keeps, all keep. -/
structure Inv (n : Nat) : Prop where
  form : ∀ o s, Q s → Q (formP e n o s).2
  ors : ∀ o l s, Q s → Q (orsP e n o l s).2
  join : ∀ o s, Q s → Q (joinP e n o s).2
  pieces : ∀ o l s, Q s → Q (piecesP e n o l s).2
  piece : ∀ o s, Q s → Q (pieceP e n o s).2
  bare : ∀ o s, Q s → Q (bareP e n o s).2
  set : ∀ o s, Q s → Q (setP e n o s).2
  parts : ∀ o l s, Q s → Q (partsP e n o l s).2
  part : ∀ o s, Q s → Q (partP e n o s).2
  held : ∀ o x s, Q s → Q (heldP e n o x s).2
  member : ∀ o s, Q s → Q (memberP e n o s).2
variable (ht : ∀ ks s, Q s → Q (takeP e ks s).2) (hd : ∀ w s, w ≠ 0 → Q s → Q (failP e w s))
include ht hd
theorem inv_all (n : Nat) : Inv e Q n := by
  have hp : ∀ o s, Q s → Q (deepP e o s) := fun o s h => by
    unfold deepP; split
    · exact hd 8 s (by decide) h
    · exact h
  induction n with
  | zero => constructor <;> intros <;> simp only [formP, orsP, joinP, piecesP, pieceP, bareP, setP, partsP, partP, heldP, memberP] <;> assumption
  | succ n ih =>
    obtain ⟨h1, h2, h3, h4, h5, h6, h7, h8, h9, h10, h11⟩ := ih
    constructor
    · intro o s h; rw [formP]; exact h2 _ _ _ (h3 _ _ h)
    · intro o l s h; rw [orsP]; split
      · exact h2 _ _ _ (h3 _ _ (ht _ _ h))
      · exact h
    · intro o s h; rw [joinP]; exact h4 _ _ _ h
    · intro o l s h; rw [piecesP]; split
      · exact h4 _ _ _ (h5 _ _ h)
      · exact h
    · intro o s h; rw [pieceP]; split
      · exact ht _ _ (h6 _ _ h)
      · exact h6 _ _ h
    · intro o s h; rw [bareP]; split
      · exact ht _ _ (h1 _ _ (ht _ _ (hp _ _ h)))
      · split
        · exact h7 _ _ h
        · exact ht _ _ h
    · intro o s h; rw [setP]; exact ht _ _ (h8 _ _ _ (ht _ _ (hp _ _ h)))
    · intro o l s h; rw [partsP]; split
      · exact h8 _ _ _ (h9 _ _ h)
      · exact h
    · intro o s h; rw [partP]; exact h10 _ _ _ (h11 _ _ h)
    · intro o x s h; rw [heldP]; split
      · exact h10 _ _ _ (h11 _ _ (ht _ _ h))
      · exact h
    · intro o s h; rw [memberP]; split
      · exact h7 _ _ h
      · exact ht _ _ h
theorem inv_items (n : Nat) : ∀ (m : Nat) (acc : List It) (s : Ps), Q s → Q (itemsP e n m acc s).2 := by
  have hform := (inv_all e Q ht hd n).form
  have hitem : ∀ s, Q s → Q (itemP e n s).2 := fun s h => by
    unfold itemP
    split
    · exact hform _ _ (ht _ _ (ht _ _ h))
    · split
      · exact hform _ _ (ht _ _ (hform _ _ (ht _ _ h)))
      · exact ht _ _ h
  have hline : ∀ s, Q s → Q (lineP e s) := fun s h => by
    unfold lineP
    split
    · exact h
    · exact ht _ _ h
  intro m
  induction m with
  | zero => intro acc s h; exact h
  | succ m ih =>
    intro acc s h
    rw [itemsP]
    split
    · exact h
    · split
      · exact ih _ _ (ht _ _ h)
      · split
        · exact hd 9 s (by decide) h
        · exact ih _ _ (hline _ (hitem _ h))
end
/-- What is wrong is an error. -/
def Fit (s : Ps) : Prop := ∀ a y, s = .dead a y → y ≠ 0
theorem items_fit (e : Int) (n m : Nat) (acc : List It) (ts : List Tok) : Fit (itemsP e n m acc (.live ts)).2 := by
  refine inv_items e Fit ?_ ?_ n m acc _ (fun a y h => by cases h)
  · intro ks s h a y hh
    rcases s with (_ | ⟨t, u⟩) | ⟨b, z⟩
    · rw [take_nil] at hh; injection hh with _ h2; omega
    · rw [take_cons] at hh
      split at hh
      · cases hh
      · injection hh with _ h2; omega
    · rw [take_dead] at hh; exact h a y hh
  · intro w s hw h a y hh
    rcases s with (_ | ⟨t, u⟩) | ⟨b, z⟩
    · injection hh with _ h2; omega
    · injection hh with _ h2; omega
    · exact h a y hh
theorem item_len (e : Int) (n : Nat) {s : Ps} (hs : s.toks ≠ []) : (itemP e n s).2.toks.length < s.toks.length := by
  obtain ⟨t, v, rfl⟩ : ∃ t v, s = .live (t :: v) := by
    rcases s with (_ | ⟨t, u⟩) | ⟨b, z⟩
    · exact absurd rfl hs
    · exact ⟨t, u, rfl⟩
    · exact absurd rfl hs
  have g1 : (takeP e [1, 2, 19] (.live (t :: v))).2.toks.length < (Ps.live (t :: v)).toks.length := by
    rw [take_cons]; split <;> simp [Ps.toks]
  unfold itemP
  split
  · exact Nat.lt_of_le_of_lt (Nat.le_trans ((len_all e n).form _ _) (take_len _ _ _)) g1
  · split
    · exact Nat.lt_of_le_of_lt (Nat.le_trans ((len_all e n).form _ _) (Nat.le_trans (take_len _ _ _) ((len_all e n).form _ _))) g1
    · exact g1
theorem line_len (e : Int) (s : Ps) : (lineP e s).toks.length ≤ s.toks.length := by
  unfold lineP
  split
  · exact Nat.le_refl _
  · exact take_len _ _ _
/-- More steps than tokens say no more. -/
theorem items_more (e : Int) (n : Nat) : ∀ (m m2 : Nat) (acc : List It) (s : Ps), s.toks.length + 1 ≤ m → s.toks.length + 1 ≤ m2 → itemsP e n m acc s = itemsP e n m2 acc s := by
  intro m
  induction m with
  | zero => intro m2 acc s h; omega
  | succ m ih =>
    intro m2 acc s h h2
    obtain ⟨m2, rfl⟩ : ∃ m1, m2 = m1 + 1 := ⟨m2 - 1, by omega⟩
    rw [itemsP, itemsP]
    by_cases h0 : s.toks = []
    · rw [if_pos h0, if_pos h0]
    · rw [if_neg h0, if_neg h0]
      by_cases h1 : nextP [18] s = true
      · rw [if_pos h1, if_pos h1]
        have := take_less e [18] [18] s h1
        exact ih _ _ _ (by omega) (by omega)
      · rw [if_neg h1, if_neg h1]
        by_cases h3 : acc.length = 100
        · rw [if_pos h3, if_pos h3]
        · rw [if_neg h3, if_neg h3]
          have g1 := item_len e n h0
          have g2 := line_len e (itemP e n s).2
          exact ih _ _ _ (by omega) (by omega)
theorem last_more (e : Int) (t : Tok) (u : List Tok) : lastP e (.live (t :: u)) = .dead t.pos 4 := by
  unfold lastP; rw [if_neg (by simp [Ps.toks])]; rfl
theorem last_dead (e a y : Int) : lastP e (.dead a y) = .dead a y := by
  unfold lastP; rw [if_pos (by rfl)]
theorem last_nil (e : Int) : lastP e (.live []) = .live [] := by
  unfold lastP; rw [if_pos (by rfl)]
theorem last_sh (e d : Int) (s : Ps) : lastP (e + d) (shP d s) = shP d (lastP e s) := by
  have htk : (shP d s).toks = [] ↔ s.toks = [] := by
    rcases s with (_ | ⟨t, u⟩) | ⟨a, y⟩ <;> simp [shP, Ps.toks]
  unfold lastP
  by_cases h0 : s.toks = []
  · rw [if_pos h0, if_pos (htk.2 h0)]
  · rw [if_neg h0, if_neg (fun h => h0 (htk.1 h)), fail_sh]
end Y
theorem all_live {e : Int} {N M : Nat} {ts : List Tok} (h : (allS e N M ts).2.2 = 0) : itemsP e N M [] (.live ts) = ((allS e N M ts).1, .live []) := by
  have hf := Y.items_fit e N M [] ts
  unfold allS at h ⊢
  generalize hk : itemsP e N M [] (.live ts) = k at *
  obtain ⟨l, s⟩ := k
  simp only at h hf ⊢
  rcases s with (_ | ⟨t, u⟩) | ⟨a, y⟩
  · rfl
  · rw [Y.last_more] at h
    exact absurd (show (4 : Int) = 0 from h) (by decide)
  · rw [Y.last_dead] at h
    exact absurd h (hf a y rfl)
/-- The items of two texts, one behind the other. -/
theorem items_lines {a b : List Int} {N M : Nat} {ra rb rz : List It × Int × Int} (ha : ItemsIs a N M ra) (hb : ItemsIs b N M rb) (hz : ItemsIs (a ++ 10 :: b) N M rz)
    (hl : a.length + 1 + b.length ≤ 3000) (hM : a.length + b.length + 2 ≤ M) (h0 : ra.2.2 = 0) :
    rb.2.2 = 9 ∨ rz.2.2 = 9 ∨ (rb.2.2 ≠ 0 ∧ rz.2.2 = rb.2.2 ∧ rz.2.1 = rb.2.1 + ((a.length : Int) + 1)) ∨ (rb.2.2 = 0 ∧ rz.2.2 = 0 ∧ rz.1 = ra.1 ++ rb.1.map (shI ((a.length : Int) + 1))) := by
  cases ha with
  | bad x er h he => exact absurd h0 he
  | ok ta xa hta =>
    have hzl : (((a ++ 10 :: b).length : Nat) : Int) = (b.length : Int) + ((a.length : Int) + 1) := by simp; omega
    have hla := all_live h0
    cases hb with
    | bad x er h he =>
      have ht := tok_lines hta h hl
      rw [if_neg he] at ht
      cases hz with
      | bad y fr h2 he2 =>
        obtain ⟨_, e1, e2⟩ := h2.one ht
        exact .inr (.inr (.inl ⟨he, e2, e1⟩))
      | ok tz xz h2 => exact absurd (h2.one ht).2.2.symm he
    | ok tb xb htb =>
      have ht := tok_lines hta htb hl
      rw [if_pos rfl] at ht
      obtain ⟨z, ht⟩ := ht
      cases hz with
      | bad y fr h2 he2 => exact absurd (h2.one ht).2.2 he2
      | ok tz xz h2 =>
        obtain ⟨e1, _, _⟩ := h2.one ht
        subst e1
        have fa := tok_few hta
        have fb := tok_few htb
        obtain ⟨M', hM', hit⟩ := Y.items_app (l := ⟨18, [], 0, 0, (a.length : Int)⟩) (u := tb.map (shT ((a.length : Int) + 1))) (e' := (((a ++ 10 :: b).length : Nat) : Int)) rfl ta.length ta (Nat.le_refl _) M [] (by omega) hla M (by simp; omega)
        simp only [List.length_map] at hM'
        have hsh := Y.items_sh (b.length : Int) ((a.length : Int) + 1) N (allS a.length N M ta).1 M' [] (allS a.length N M ta).1 (.live tb) (by simp)
        rw [Y.items_more (b.length : Int) N M' M [] (.live tb) (by simpa [Ps.toks] using hM') (by simp [Ps.toks]; omega)] at hsh
        rw [hzl] at hit
        have hfit := Y.items_fit (b.length : Int) N M [] tb
        change itemsP ((b.length : Int) + ((a.length : Int) + 1)) N M [] (.live (ta ++ _ :: tb.map (shT ((a.length : Int) + 1)))) = itemsP _ N M' _ (shP ((a.length : Int) + 1) (.live tb)) at hit
        generalize (allS a.length N M ta).1 = X at *
        unfold allS
        rw [hzl, hit]
        generalize itemsP ((b.length : Int) + ((a.length : Int) + 1)) N M' X (shP ((a.length : Int) + 1) (.live tb)) = kz at *
        generalize itemsP (b.length : Int) N M [] (.live tb) = kb at *
        obtain ⟨lz, sz⟩ := kz
        obtain ⟨lb, sb⟩ := kb
        simp only at hsh hfit ⊢
        rcases hsh with ⟨p, rfl⟩ | ⟨p, rfl⟩ | ⟨rfl, h2⟩
        · rw [Y.last_dead]; exact .inr (.inl rfl)
        · rw [Y.last_dead b.length]; exact .inl rfl
        · rw [Y.last_sh]
          rcases sb with (_ | ⟨t, u⟩) | ⟨p, y⟩
          · have := h2 ⟨[], rfl⟩
            subst this
            rw [Y.last_nil]
            exact .inr (.inr (.inr ⟨rfl, rfl, rfl⟩))
          · rw [Y.last_more]
            exact .inr (.inr (.inl ⟨by simp, rfl, rfl⟩))
          · rw [Y.last_dead]
            exact .inr (.inr (.inl ⟨hfit p y rfl, rfl, rfl⟩))
end Go.Proofs.YtdhighnbbpngpaaGreatDoor
namespace Go.Proofs.YtdhighnbbpngpaaGreatDoor
open Go.RowKit
open E (DecIs)
open Y (Nd It Ps shI takeP failP formP itemP lineP itemsP lastP noTok)

namespace Y
/-- All that is still to be read, and what is wrong, stands in the text. -/
def Here (s : Ps) : Prop := (∀ t ∈ s.toks, 0 ≤ t.pos ∧ t.pos ≤ 3000) ∧ (∀ a y, s = .dead a y → 0 ≤ a ∧ a ≤ 3000)
theorem here_dead {a y : Int} (h : 0 ≤ a ∧ a ≤ 3000) : Here (.dead a y) := ⟨fun t ht => by simp [Ps.toks] at ht, fun b z e => by injection e with e1 _; subst e1; exact h⟩
theorem here_take {e : Int} (he : 0 ≤ e ∧ e ≤ 3000) (ks : List Int) (s : Ps) (h : Here s) : Here (takeP e ks s).2 ∧ 0 ≤ (takeP e ks s).1.pos ∧ (takeP e ks s).1.pos ≤ 3000 := by
  rcases s with (_ | ⟨t, u⟩) | ⟨b, z⟩
  · rw [take_nil]; exact ⟨here_dead he, by show (0 : Int) ≤ 0; omega, by show (0 : Int) ≤ 3000; omega⟩
  · have ht := h.1 t (by simp [Ps.toks])
    rw [take_cons]
    split
    · exact ⟨⟨fun x hx => h.1 x (by simp [Ps.toks] at hx ⊢; exact .inr hx), fun _ _ e => by cases e⟩, ht⟩
    · exact ⟨here_dead ht, by show (0 : Int) ≤ 0; omega, by show (0 : Int) ≤ 3000; omega⟩
  · rw [take_dead]; exact ⟨h, by show (0 : Int) ≤ 0; omega, by show (0 : Int) ≤ 3000; omega⟩
theorem here_fail {e : Int} (he : 0 ≤ e ∧ e ≤ 3000) (w : Int) (s : Ps) (h : Here s) : Here (failP e w s) := by
  rcases s with (_ | ⟨t, u⟩) | ⟨b, z⟩
  · exact here_dead he
  · exact here_dead (h.1 t (by simp [Ps.toks]))
  · exact h
theorem items_here {e : Int} (he : 0 ≤ e ∧ e ≤ 3000) (n : Nat) : ∀ (m : Nat) (acc : List It) (s : Ps), Here s → (∀ x ∈ acc, 0 ≤ x.pos ∧ x.pos ≤ 3000) → Here (itemsP e n m acc s).2 ∧ ∀ x ∈ (itemsP e n m acc s).1, 0 ≤ x.pos ∧ x.pos ≤ 3000 := by
  have ht : ∀ ks s, Here s → Here (takeP e ks s).2 := fun ks s h => (here_take he ks s h).1
  have hform := (inv_all e Here ht (fun w s _ h => here_fail he w s h) n).form
  have hitem : ∀ s, Here s → Here (itemP e n s).2 ∧ 0 ≤ (itemP e n s).1.pos ∧ (itemP e n s).1.pos ≤ 3000 := fun s h => by
    have h1 := here_take he [1, 2, 19] s h
    unfold itemP
    split
    · exact ⟨hform _ _ (ht _ _ h1.1), h1.2⟩
    · split
      · exact ⟨hform _ _ (ht _ _ (hform _ _ h1.1)), h1.2⟩
      · exact h1
  have hline : ∀ s, Here s → Here (lineP e s) := fun s h => by
    unfold lineP
    split
    · exact h
    · exact ht _ _ h
  intro m
  induction m with
  | zero => intro acc s h hx; exact ⟨h, hx⟩
  | succ m ih =>
    intro acc s h hx
    rw [itemsP]
    split
    · exact ⟨h, hx⟩
    · split
      · exact ih _ _ (ht _ _ h) hx
      · split
        · exact ⟨here_fail he 9 s h, hx⟩
        · have h2 := hitem s h
          refine ih _ _ (hline _ h2.1) fun x hm => ?_
          rcases List.mem_append.1 hm with hm | hm
          · exact hx x hm
          · simp at hm; subst hm; exact h2.2
end Y
theorem placed_here {cs : List Int} {ts : List W.Tk} (h : (E.flat cs).length ≤ 3000) : ∀ t ∈ placed cs ts, 0 ≤ t.pos ∧ t.pos ≤ 3000 := fun t ht => by
  obtain ⟨u, _, rfl⟩ := List.mem_map.1 ht
  have := plc_le cs u.at_
  show (0 : Int) ≤ (plc cs u.at_ : Nat) ∧ ((plc cs u.at_ : Nat) : Int) ≤ 3000
  omega
theorem dec_here {Bs cs ats : List Int} {x er : Int} (h : DecIs Bs cs ats x er) : -1 ≤ x ∧ x ≤ 3000 := by
  cases h with
  | long => decide
  | ok => decide
  | bad n ds h1 h2 => omega
/-- Where items stand, and where a text is wrong. -/
theorem items_pos {Bs : List Int} {N M : Nat} {r : List It × Int × Int} (h : ItemsIs Bs N M r) : (-1 ≤ r.2.1 ∧ r.2.1 ≤ 3000) ∧ ∀ x ∈ r.1, 0 ≤ x.pos ∧ x.pos ≤ 3000 := by
  cases h with
  | bad x er h he =>
    refine ⟨?_, fun y hy => by cases hy⟩
    show -1 ≤ x ∧ x ≤ 3000
    generalize ([] : List Tok) = ts at h
    cases h with
    | dec _ _ _ _ h _ => exact dec_here h
    | bad cs ats x h k er hl =>
      obtain ⟨_, e2, e3, _⟩ := dec_ok h rfl
      have := plc_le cs k
      rw [← e2] at this
      omega
    | ok => decide
  | ok ts x h =>
    obtain ⟨cs, ats, y, us, hd, _, rfl⟩ := tok_ok h rfl
    obtain ⟨_, e2, e3, _⟩ := dec_ok hd rfl
    have hp : Y.Here (.live (placed cs us)) := ⟨placed_here (by rw [← e2]; exact e3), fun _ _ e => by cases e⟩
    have he : 0 ≤ (Bs.length : Int) ∧ (Bs.length : Int) ≤ 3000 := by omega
    have h1 := Y.items_here he N M [] _ hp (fun x hx => by cases hx)
    unfold allS
    generalize itemsP (Bs.length : Int) N M [] (.live (placed cs us)) = k at *
    obtain ⟨l, s⟩ := k
    simp only at h1 ⊢
    rcases s with (_ | ⟨t, u⟩) | ⟨a, z⟩
    · rw [Y.last_nil]; exact ⟨⟨by show (-1 : Int) ≤ -1; omega, by show (-1 : Int) ≤ 3000; omega⟩, h1.2⟩
    · rw [Y.last_more]
      have := h1.1.1 t (by simp [Ps.toks])
      exact ⟨⟨by show -1 ≤ t.pos; omega, this.2⟩, fun x hx => by cases hx⟩
    · rw [Y.last_dead]
      have := h1.1.2 a z rfl
      exact ⟨⟨by show -1 ≤ a; omega, this.2⟩, fun x hx => by cases hx⟩
section
variable {w : World} {S : Nat → Prop} {A : Option Addr} {n c : Nat} {l : List It}
theorem RdI6.take (h : RdI6 w S A n c l) {m : Nat} (hm : m ≤ n) : RdI6 w S A m c (l.take m) := by
  obtain ⟨h1, h2, h3, cs, h4, h5⟩ := h
  refine ⟨by rw [List.length_take]; omega, by omega, h3, cs, fun h0 => ?_, fun i x hx => ?_⟩
  · obtain ⟨b, off, e, hb, hc⟩ := h4 (by omega)
    exact ⟨b, off, e, hb, fun i hi => hc i (by omega)⟩
  · have hi : i < m := by have := (List.getElem?_eq_some_iff.1 hx).1; rw [List.length_take] at this; omega
    exact h5 i x (by rwa [List.getElem?_take_of_lt hi] at hx)
theorem RdI6.drop {b off : Nat} (h : RdI6 w S (some ⟨b, off, none⟩) n c l) {m : Nat} (hm : m ≤ n) : RdI6 w S (some ⟨b, off + m * 15, none⟩) (n - m) (c - m) (l.drop m) := by
  obtain ⟨h1, h2, h3, cs, h4, h5⟩ := h
  refine ⟨by rw [List.length_drop]; omega, by omega, by omega, fun i => cs (m + i), fun h0 => ?_, fun i x hx => ?_⟩
  · obtain ⟨b', off', e, hb, hc⟩ := h4 (by omega)
    injection e with e
    injection e with e1 e2 _
    subst e1 e2
    exact ⟨b, off + m * 15, rfl, hb, fun i hi j u hu => by
      have := hc (m + i) (by omega) j u hu
      rw [show off + m * 15 + (i * 15 + j) = off + ((m + i) * 15 + j) by omega]
      exact this⟩
  · exact h5 (m + i) x (by rwa [List.getElem?_drop] at hx)
theorem RdI6.void (A : Option Addr) (h : c ≤ maxLen) : RdI6 w S A 0 c [] := ⟨rfl, Nat.zero_le _, h, fun _ => [], fun h => absurd h (by omega), fun i x hx => by simp at hx⟩
end
theorem core_sh (d : Int) (l : List It) : (l.map (shI d)).map It.core = l.map It.core := by rw [List.map_map]; rfl
end Go.Proofs.YtdhighnbbpngpaaGreatDoor
