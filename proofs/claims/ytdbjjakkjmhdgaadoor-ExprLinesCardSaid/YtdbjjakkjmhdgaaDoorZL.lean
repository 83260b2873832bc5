/- Plain facts on what tokens say: the same, with one more token behind that can't be of it, and within one bracket more, unless it is too deep. -/
import Derived.Test.YtdbjjakkjmhdgaaDoorMA
set_option maxRecDepth 100000
namespace Go.Proofs.YtdbjjakkjmhdgaaDoor
namespace Y

def isLive (s : Ps) : Prop := ∃ ts, s = .live ts
theorem not_live {a y : Int} : ¬ isLive (.dead a y) := fun ⟨_, h⟩ => by cases h
/-- The same, with a token and others behind. -/
def Ext (l : Tok) (u : List Tok) (s t : Ps) : Prop := ∃ ts, s = .live ts ∧ t = .live (ts ++ l :: u)
/-- The same, or too deep. -/
def Rel {α : Type} (d : Nat) (l : Tok) (u : List Tok) (r r' : α × Ps) : Prop := (d = 1 ∧ ∃ a, r'.2 = .dead a 8) ∨ (r'.1 = r.1 ∧ Ext l u r.2 r'.2)
section
variable {l : Tok} {u : List Tok} {e e' : Int}
theorem next_ext {ks : List Int} {s t : Ps} (h : Ext l u s t) (hk : ks.contains l.kind = false) : nextP ks t = nextP ks s := by
  obtain ⟨ts, rfl, rfl⟩ := h
  cases ts with
  | nil => exact hk
  | cons x v => rfl
theorem take_ext {ks : List Int} {s t : Ps} (h : Ext l u s t) (hl : isLive (takeP e ks s).2) : (takeP e' ks t).1 = (takeP e ks s).1 ∧ Ext l u (takeP e ks s).2 (takeP e' ks t).2 := by
  obtain ⟨ts, rfl, rfl⟩ := h
  cases ts with
  | nil => exact absurd hl not_live
  | cons x v =>
    rw [take_cons] at hl ⊢
    rw [List.cons_append, take_cons]
    by_cases hc : ks.contains x.kind = true
    · rw [if_pos hc, if_pos hc]; exact ⟨rfl, v, rfl, rfl⟩
    · rw [if_neg hc] at hl; exact absurd hl not_live
theorem take_live {ks : List Int} {s : Ps} (h : isLive (takeP e ks s).2) : isLive s := by
  cases s with
  | live ts => exact ⟨ts, rfl⟩
  | dead a y => rw [take_dead] at h; exact absurd h not_live
theorem deep_live {o : Nat} {s : Ps} (h : isLive (deepP e o s)) : deepP e o s = s ∧ o ≠ 12 := by
  unfold deepP at h ⊢
  by_cases ho : o = 12
  · rw [if_pos ho] at h
    rcases s with (_ | ⟨t, v⟩) | ⟨a, y⟩ <;> exact absurd h not_live
  · rw [if_neg ho]; exact ⟨rfl, ho⟩
/-- A token that opens, in both. -/
theorem open_ext {d o : Nat} {ks : List Int} {s t : Ps} (hd : d ≤ 1) (h : Ext l u s t) (hl : isLive (takeP e ks (deepP e o s)).2) :
    (d = 1 ∧ ∃ a, deepP e' (o + d) t = .dead a 8) ∨ ((takeP e' ks (deepP e' (o + d) t)).1 = (takeP e ks (deepP e o s)).1 ∧ Ext l u (takeP e ks (deepP e o s)).2 (takeP e' ks (deepP e' (o + d) t)).2) := by
  obtain ⟨h1, h2⟩ := deep_live (take_live hl)
  rw [h1] at hl ⊢
  by_cases ho : o + d = 12
  · left
    refine ⟨by omega, ?_⟩
    obtain ⟨ts, rfl, rfl⟩ := h
    unfold deepP
    rw [if_pos ho]
    cases ts with
    | nil => exact ⟨_, rfl⟩
    | cons x v => exact ⟨_, rfl⟩
  · right
    have : deepP e' (o + d) t = t := by unfold deepP; rw [if_neg ho]
    rw [this]
    exact take_ext h hl
structure ExtA (l : Tok) (u : List Tok) (e e' : Int) (d n : Nat) : Prop where
  form : ∀ o s t, Ext l u s t → isLive (formP e n o s).2 → Rel d l u (formP e n o s) (formP e' n (o + d) t)
  ors : ∀ o k s t, Ext l u s t → isLive (orsP e n o k s).2 → Rel d l u (orsP e n o k s) (orsP e' n (o + d) k t)
  join : ∀ o s t, Ext l u s t → isLive (joinP e n o s).2 → Rel d l u (joinP e n o s) (joinP e' n (o + d) t)
  pieces : ∀ o k s t, Ext l u s t → isLive (piecesP e n o k s).2 → Rel d l u (piecesP e n o k s) (piecesP e' n (o + d) k t)
  piece : ∀ o s t, Ext l u s t → isLive (pieceP e n o s).2 → Rel d l u (pieceP e n o s) (pieceP e' n (o + d) t)
  bare : ∀ o s t, Ext l u s t → isLive (bareP e n o s).2 → Rel d l u (bareP e n o s) (bareP e' n (o + d) t)
  set : ∀ o s t, Ext l u s t → isLive (setP e n o s).2 → Rel d l u (setP e n o s) (setP e' n (o + d) t)
  parts : ∀ o k s t, Ext l u s t → isLive (partsP e n o k s).2 → Rel d l u (partsP e n o k s) (partsP e' n (o + d) k t)
  part : ∀ o s t, Ext l u s t → isLive (partP e n o s).2 → Rel d l u (partP e n o s) (partP e' n (o + d) t)
  held : ∀ o x s t, Ext l u s t → isLive (heldP e n o x s).2 → Rel d l u (heldP e n o x s) (heldP e' n (o + d) x t)
  member : ∀ o s t, Ext l u s t → isLive (memberP e n o s).2 → Rel d l u (memberP e n o s) (memberP e' n (o + d) t)
theorem live_or {s : Ps} : isLive s ∨ ∃ a y, s = .dead a y := by
  cases s with
  | live ts => exact .inl ⟨ts, rfl⟩
  | dead a y => exact .inr ⟨a, y, rfl⟩
theorem ext_all (hk : l.kind = 18 ∨ l.kind = 7) {d : Nat} (hd : d ≤ 1) (n : Nat) : ExtA l u e e' d n := by
  have c1 : ([8] : List Int).contains l.kind = false := by rcases hk with h | h <;> rw [h] <;> decide
  have c2 : ([1, 12, 6, 13] : List Int).contains l.kind = false := by rcases hk with h | h <;> rw [h] <;> decide
  have c3 : ([9, 10, 11] : List Int).contains l.kind = false := by rcases hk with h | h <;> rw [h] <;> decide
  have c4 : ([6] : List Int).contains l.kind = false := by rcases hk with h | h <;> rw [h] <;> decide
  have c5 : ([13] : List Int).contains l.kind = false := by rcases hk with h | h <;> rw [h] <;> decide
  have c6 : ([15, 1, 13] : List Int).contains l.kind = false := by rcases hk with h | h <;> rw [h] <;> decide
  have c7 : ([16, 17] : List Int).contains l.kind = false := by rcases hk with h | h <;> rw [h] <;> decide
  induction n with
  | zero => constructor <;> intros <;> simp only [formP, orsP, joinP, piecesP, pieceP, bareP, setP, partsP, partP, heldP, memberP] <;> exact .inr ⟨rfl, by assumption⟩
  | succ n ih =>
    have D := dead_all e n
    have D' := dead_all e' n
    constructor
    · intro o s t h hl
      rw [formP] at hl ⊢
      rw [formP]
      rcases live_or (s := (joinP e n o s).2) with h1 | ⟨a, y, h1⟩
      · rcases ih.join o s t h h1 with ⟨hd1, a, h2⟩ | ⟨h2, h3⟩
        · exact .inl ⟨hd1, a, by rw [h2]; exact D'.ors _ _ _ _⟩
        · rw [h2]; exact ih.ors _ _ _ _ h3 hl
      · rw [h1, D.ors] at hl; exact absurd hl not_live
    · intro o k s t h hl
      rw [orsP] at hl ⊢
      rw [orsP, next_ext h c1]
      by_cases hx : nextP [8] s = true
      · rw [if_pos hx] at hl ⊢
        rw [if_pos hx]
        rcases live_or (s := (joinP e n o (takeP e [8] s).2).2) with h1 | ⟨a, y, h1⟩
        · have h0 : isLive (takeP e [8] s).2 := by
            rcases live_or (s := (takeP e [8] s).2) with h0 | ⟨a, y, h0⟩
            · exact h0
            · rw [h0, D.join] at h1; exact absurd h1 not_live
          obtain ⟨_, h2⟩ := take_ext (e' := e') h h0
          rcases ih.join o _ _ h2 h1 with ⟨hd1, a, h3⟩ | ⟨h3, h4⟩
          · exact .inl ⟨hd1, a, by rw [h3]; exact D'.ors _ _ _ _⟩
          · rw [h3]; exact ih.ors _ _ _ _ h4 hl
        · rw [h1, D.ors] at hl; exact absurd hl not_live
      · rw [if_neg hx] at hl ⊢
        rw [if_neg hx]; exact .inr ⟨rfl, h⟩
    · intro o s t h hl
      rw [joinP] at hl ⊢
      rw [joinP]
      rcases ih.pieces o [] s t h hl with ⟨hd1, a, h2⟩ | ⟨h2, h3⟩
      · exact .inl ⟨hd1, a, h2⟩
      · exact .inr ⟨by simp only [h2], h3⟩
    · intro o k s t h hl
      rw [piecesP] at hl ⊢
      rw [piecesP, next_ext h c2]
      by_cases hx : nextP [1, 12, 6, 13] s = true
      · rw [if_pos hx] at hl ⊢
        rw [if_pos hx]
        rcases live_or (s := (pieceP e n o s).2) with h1 | ⟨a, y, h1⟩
        · rcases ih.piece o s t h h1 with ⟨hd1, a, h3⟩ | ⟨h3, h4⟩
          · exact .inl ⟨hd1, a, by rw [h3]; exact D'.pieces _ _ _ _⟩
          · rw [h3]; exact ih.pieces _ _ _ _ h4 hl
        · rw [h1, D.pieces] at hl; exact absurd hl not_live
      · rw [if_neg hx] at hl ⊢
        rw [if_neg hx]; exact .inr ⟨rfl, h⟩
    · intro o s t h hl
      rw [pieceP] at hl ⊢
      rw [pieceP]
      have h1 : isLive (bareP e n o s).2 := by
        rcases live_or (s := (bareP e n o s).2) with h1 | ⟨a, y, h1⟩
        · exact h1
        · rw [h1] at hl
          rw [if_neg (by simp)] at hl
          rw [h1] at hl; exact absurd hl not_live
      rcases ih.bare o s t h h1 with ⟨hd1, a, h3⟩ | ⟨h3, h4⟩
      · refine .inl ⟨hd1, a, ?_⟩
        rw [h3, if_neg (by simp)]; exact h3
      · rw [next_ext h4 c3]
        by_cases hx : nextP [9, 10, 11] (bareP e n o s).2 = true
        · rw [if_pos hx] at hl ⊢
          rw [if_pos hx]
          obtain ⟨h5, h6⟩ := take_ext (e' := e') h4 hl
          exact .inr ⟨by simp only [h5, h3], h6⟩
        · rw [if_neg hx] at hl ⊢
          rw [if_neg hx]; exact .inr ⟨h3, h4⟩
    · intro o s t h hl
      rw [bareP] at hl ⊢
      rw [bareP, next_ext h c4, next_ext h c5]
      by_cases hx : nextP [6] s = true
      · rw [if_pos hx] at hl ⊢
        rw [if_pos hx]
        simp only at hl ⊢
        have h1 := take_live hl
        have h0 : isLive (takeP e [6] (deepP e o s)).2 := by
          rcases live_or (s := (takeP e [6] (deepP e o s)).2) with h0 | ⟨a, y, h0⟩
          · exact h0
          · rw [h0, D.form] at h1; exact absurd h1 not_live
        rcases open_ext (e' := e') hd h h0 with ⟨hd1, a, h2⟩ | ⟨_, h2⟩
        · exact .inl ⟨hd1, a, by rw [h2, take_dead, D'.form, take_dead]⟩
        · rw [show o + d + 1 = o + 1 + d by omega]
          rcases ih.form (o + 1) _ _ h2 h1 with ⟨hd1, a, h3⟩ | ⟨h3, h4⟩
          · exact .inl ⟨hd1, a, by rw [h3, take_dead]⟩
          · exact .inr ⟨h3, (take_ext h4 hl).2⟩
      · rw [if_neg hx] at hl ⊢
        rw [if_neg hx]
        by_cases hy : nextP [13] s = true
        · rw [if_pos hy] at hl ⊢
          rw [if_pos hy]; exact ih.set o s t h hl
        · rw [if_neg hy] at hl ⊢
          rw [if_neg hy]
          obtain ⟨h5, h6⟩ := take_ext (e' := e') h hl
          exact .inr ⟨by simp only [h5], h6⟩
    · intro o s t h hl
      rw [setP] at hl ⊢
      rw [setP]
      simp only at hl ⊢
      have h1 := take_live hl
      have h0 : isLive (takeP e [13] (deepP e o s)).2 := by
        rcases live_or (s := (takeP e [13] (deepP e o s)).2) with h0 | ⟨a, y, h0⟩
        · exact h0
        · rw [h0, D.parts] at h1; exact absurd h1 not_live
      rcases open_ext (e' := e') hd h h0 with ⟨hd1, a, h2⟩ | ⟨h2', h2⟩
      · exact .inl ⟨hd1, a, by rw [h2, take_dead, D'.parts, take_dead]⟩
      · rw [show o + d + 1 = o + 1 + d by omega]
        rcases ih.parts (o + 1) [] _ _ h2 h1 with ⟨hd1, a, h3⟩ | ⟨h3, h4⟩
        · exact .inl ⟨hd1, a, by rw [h3, take_dead]⟩
        · exact .inr ⟨by simp only [h2', h3], (take_ext h4 hl).2⟩
    · intro o k s t h hl
      rw [partsP] at hl ⊢
      rw [partsP, next_ext h c6]
      by_cases hx : nextP [15, 1, 13] s = true
      · rw [if_pos hx] at hl ⊢
        rw [if_pos hx]
        rcases live_or (s := (partP e n o s).2) with h1 | ⟨a, y, h1⟩
        · rcases ih.part o s t h h1 with ⟨hd1, a, h3⟩ | ⟨h3, h4⟩
          · exact .inl ⟨hd1, a, by rw [h3]; exact D'.parts _ _ _ _⟩
          · rw [h3]; exact ih.parts _ _ _ _ h4 hl
        · rw [h1, D.parts] at hl; exact absurd hl not_live
      · rw [if_neg hx] at hl ⊢
        rw [if_neg hx]; exact .inr ⟨rfl, h⟩
    · intro o s t h hl
      rw [partP] at hl ⊢
      rw [partP]
      rcases live_or (s := (memberP e n o s).2) with h1 | ⟨a, y, h1⟩
      · rcases ih.member o s t h h1 with ⟨hd1, a, h3⟩ | ⟨h3, h4⟩
        · exact .inl ⟨hd1, a, by rw [h3]; exact D'.held _ _ _ _⟩
        · rw [h3]; exact ih.held _ _ _ _ h4 hl
      · rw [h1, D.held] at hl; exact absurd hl not_live
    · intro o x s t h hl
      rw [heldP] at hl ⊢
      rw [heldP, next_ext h c7]
      by_cases hx : nextP [16, 17] s = true
      · rw [if_pos hx] at hl ⊢
        rw [if_pos hx]
        rcases live_or (s := (memberP e n o (takeP e [16, 17] s).2).2) with h1 | ⟨a, y, h1⟩
        · have h0 : isLive (takeP e [16, 17] s).2 := by
            rcases live_or (s := (takeP e [16, 17] s).2) with h0 | ⟨a, y, h0⟩
            · exact h0
            · rw [h0, D.member] at h1; exact absurd h1 not_live
          obtain ⟨h2', h2⟩ := take_ext (e' := e') h h0
          rcases ih.member o _ _ h2 h1 with ⟨hd1, a, h3⟩ | ⟨h3, h4⟩
          · exact .inl ⟨hd1, a, by rw [h3]; exact D'.held _ _ _ _⟩
          · rw [h3, h2']; exact ih.held _ _ _ _ h4 hl
        · rw [h1, D.held] at hl; exact absurd hl not_live
      · rw [if_neg hx] at hl ⊢
        rw [if_neg hx]; exact .inr ⟨rfl, h⟩
    · intro o s t h hl
      rw [memberP] at hl ⊢
      rw [memberP, next_ext h c5]
      by_cases hy : nextP [13] s = true
      · rw [if_pos hy] at hl ⊢
        rw [if_pos hy]; exact ih.set o s t h hl
      · rw [if_neg hy] at hl ⊢
        rw [if_neg hy]
        obtain ⟨h5, h6⟩ := take_ext (e' := e') h hl
        exact .inr ⟨by simp only [h5], h6⟩
end
end Y
end Go.Proofs.YtdbjjakkjmhdgaaDoor
