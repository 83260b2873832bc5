/- Plain facts on words: the tokens of texts one behind the other, and of a text in brackets. -/
import Derived.Test.YtdbjjakkjmhdgaaDoorWT
set_option maxRecDepth 100000
namespace Go.Proofs.YtdbjjakkjmhdgaaDoor
namespace W

theorem lex_app {z : Int} : ∀ (n : Nat) (l : List Int), l.length ≤ n → ∀ (i o : Nat) (ts ts' : List Tk), Ends z l → lexS l i o ts = .ok ts' → ∀ u, lexS (l ++ z :: u) i o ts = lexS (z :: u) (i + l.length) 0 ts' := by
  intro n
  induction n with
  | zero =>
    intro l hl i o ts ts' _ h u
    obtain rfl : l = [] := List.eq_nil_of_length_eq_zero (by omega)
    rw [lexS_nil] at h
    split at h
    · cases h
    · rename_i ho
      injection h with h
      subst h
      obtain rfl : o = 0 := by omega
      rfl
  | succ n ih =>
    intro l hl i o ts ts' he h u
    cases l with
    | nil =>
      rw [lexS_nil] at h
      split at h
      · cases h
      · rename_i ho
        injection h with h
        subst h
        obtain rfl : o = 0 := by omega
        rfl
    | cons c t =>
      simp only [List.length_cons] at hl
      rw [List.cons_append]
      by_cases hb : c = 32 ∨ c = 9
      · rw [lexS_blank hb] at h ⊢
        rw [ih t (by omega) (i + 1) o ts ts' (he.drop 1) h u, List.length_cons, show i + 1 + t.length = i + (t.length + 1) by omega]
      · rw [lexS_step hb] at h ⊢
        cases hs : stepS o ts c t with
        | bad k e => rw [hs] at h; cases h
        | tok k x lo hi m =>
          have hg : (stepS o ts c t).good := by rw [hs]; trivial
          obtain ⟨a1, a2⟩ := step_app he u hg
          rw [hs] at a1 a2 h
          rw [a1]
          simp only at h ⊢
          have hm : m ≤ t.length := by have : m + 1 ≤ t.length + 1 := a2; omega
          rw [drop_app hm, ih (t.drop m) (by rw [List.length_drop]; omega) _ _ _ ts' ((he.drop 1).drop m) h u, List.length_drop, List.length_cons, show i + m + 1 + (t.length - m) = i + (t.length + 1) by omega]
        | skip m =>
          have hg : (stepS o ts c t).good := by rw [hs]; trivial
          obtain ⟨a1, a2⟩ := step_app he u hg
          rw [hs] at a1 a2 h
          rw [a1]
          simp only at h ⊢
          have hm : m ≤ t.length := by have : m + 1 ≤ t.length + 1 := a2; omega
          rw [drop_app hm, ih (t.drop m) (by rw [List.length_drop]; omega) _ _ _ ts' ((he.drop 1).drop m) h u, List.length_drop, List.length_cons, show i + m + 1 + (t.length - m) = i + (t.length + 1) by omega]
/-- A token further on. -/
def sh (d : Nat) (t : Tk) : Tk := ⟨t.kind, t.text, t.low, t.high, t.at_ + d⟩
def shL (d : Nat) (pre : List Tk) : Lx → Lx
  | .ok r => .ok (pre ++ r.map (sh d))
  | .bad k e => .bad (k + d) e
theorem last_sh (d : Nat) (pre ts : List Tk) (h : ts ≠ []) : lastK (pre ++ ts.map (sh d)) = lastK ts := by
  unfold lastK
  rw [List.getLast?_append, List.getLast?_map]
  cases hg : ts.getLast? with
  | none => simp at hg; exact absurd hg h
  | some t => rfl
theorem lex_sh (d : Nat) (pre : List Tk) : ∀ (n : Nat) (l : List Int), l.length ≤ n → ∀ (i o : Nat) (ts : List Tk), (0 < o → ts ≠ []) → lexS l (i + d) o (pre ++ ts.map (sh d)) = shL d pre (lexS l i o ts) := by
  intro n
  induction n with
  | zero =>
    intro l hl i o ts _
    obtain rfl : l = [] := List.eq_nil_of_length_eq_zero (by omega)
    rw [lexS_nil, lexS_nil]
    split <;> rfl
  | succ n ih =>
    intro l hl i o ts hne
    cases l with
    | nil =>
      rw [lexS_nil, lexS_nil]
      split <;> rfl
    | cons c t =>
      simp only [List.length_cons] at hl
      by_cases hb : c = 32 ∨ c = 9
      · rw [lexS_blank hb, lexS_blank hb, show i + d + 1 = i + 1 + d by omega]
        exact ih t (by omega) _ _ _ hne
      · have hst : stepS o (pre ++ ts.map (sh d)) c t = stepS o ts c t := by
          unfold stepS
          split
          · rename_i ho; rw [last_sh d pre ts (hne ho)]
          · rfl
        rw [lexS_step hb, lexS_step hb, hst]
        cases stepS o ts c t with
        | bad k e => show Lx.bad (i + d + k) e = .bad (i + k + d) e; rw [show i + d + k = i + k + d by omega]
        | tok k x lo hi m =>
          simp only
          have e : pre ++ ts.map (sh d) ++ [(⟨k, x, lo, hi, i + d⟩ : Tk)] = pre ++ (ts ++ [(⟨k, x, lo, hi, i⟩ : Tk)]).map (sh d) := by rw [List.map_append, List.append_assoc]; rfl
          rw [e, show i + d + m + 1 = i + m + 1 + d by omega]
          exact ih _ (by rw [List.length_drop]; omega) _ _ _ (fun _ => by simp)
        | skip m =>
          simp only
          rw [show i + d + m + 1 = i + m + 1 + d by omega]
          exact ih _ (by rw [List.length_drop]; omega) _ _ _ hne
theorem lex_from (d : Nat) (pre : List Tk) (l : List Int) : lexS l d 0 pre = shL d pre (lexS l 0 0 []) := by
  have := lex_sh d pre l.length l (Nat.le_refl _) 0 0 [] (fun h => absurd h (by omega))
  simpa using this
/-- Tokens of two texts, a line feed between. -/
theorem lex_lines {a b : List Int} {ts : List Tk} (h : lexS a 0 0 [] = .ok ts) : lexS (a ++ 10 :: b) 0 0 [] = shL (a.length + 1) (ts ++ [⟨18, [], 0, 0, a.length⟩]) (lexS b 0 0 []) := by
  rw [lex_app a.length a (Nat.le_refl _) 0 0 [] ts (ends_lf a) h b, Nat.zero_add, lexS_step (by decide)]
  have e : stepS 0 ts 10 b = .tok 18 [] 0 0 0 := by unfold stepS outS; rfl
  rw [e]
  simp only [List.drop_zero, Nat.add_zero]
  exact lex_from _ _ _
/-- Tokens of a text in brackets. -/
theorem lex_brackets {b : List Int} {ts : List Tk} (hn : 35 ∉ b) (h : lexS b 0 0 [] = .ok ts) : lexS (40 :: (b ++ [41])) 0 0 [] = .ok ((⟨6, [], 0, 0, 0⟩ : Tk) :: (ts ++ [(⟨7, [], 0, 0, b.length⟩ : Tk)]).map (sh 1)) := by
  rw [lexS_step (by decide)]
  have e : stepS 0 [] 40 (b ++ [41]) = .tok 6 [] 0 0 0 := by unfold stepS outS; rfl
  rw [e]
  simp only [List.drop_zero, Nat.add_zero, Nat.zero_add, List.nil_append]
  have e0 : opn 6 0 = 0 := rfl
  rw [e0, lex_from, lex_app b.length b (Nat.le_refl _) 0 0 [] ts (ends_shut hn) h [], lexS_step (by decide)]
  have e2 : stepS 0 ts 41 [] = .tok 7 [] 0 0 0 := by unfold stepS outS; rfl
  rw [e2]
  simp only [List.drop_zero, Nat.add_zero, Nat.zero_add]
  have e3 : opn 7 0 = 0 := rfl
  rw [e3, lexS_nil, if_neg (by decide)]
  rfl
end W
end Go.Proofs.YtdbjjakkjmhdgaaDoor
