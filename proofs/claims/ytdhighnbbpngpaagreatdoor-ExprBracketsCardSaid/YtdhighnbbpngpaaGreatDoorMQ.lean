/- Plain facts on words: texts one behind the other. Plain facts on words: the tokens of texts one behind the other, and of a text in brackets. -/
import Derived.Test.YtdhighnbbpngpaaGreatDoorWM2
set_option maxRecDepth 100000
namespace Go.Proofs.YtdhighnbbpngpaaGreatDoor
namespace W
open Q (plainB R readS numS uS escS)

/-- A character that no token goes on with, behind a text. -/
structure Ends (z : Int) (l : List Int) : Prop where
  nm : nmB z = false
  dg : dgB z = false
  lt : ltB z = false
  n46 : z ≠ 46
  n94 : z ≠ 94
  n45 : z ≠ 45
  note : z = 10 ∨ 35 ∉ l
theorem ends_lf (l : List Int) : Ends 10 l := ⟨by decide, by decide, by decide, by decide, by decide, by decide, .inl rfl⟩
theorem ends_shut {l : List Int} (h : 35 ∉ l) : Ends 41 l := ⟨by decide, by decide, by decide, by decide, by decide, by decide, .inr h⟩
theorem Ends.drop {z : Int} {l : List Int} (h : Ends z l) (k : Nat) : Ends z (l.drop k) := ⟨h.nm, h.dg, h.lt, h.n46, h.n94, h.n45, h.note.imp_right fun hn hm => hn (List.mem_of_mem_drop hm)⟩
theorem tw_app {p : Int → Bool} {z : Int} (hz : p z = false) (t u : List Int) : (t ++ z :: u).takeWhile p = t.takeWhile p := by
  induction t with
  | nil => rw [List.nil_append, List.takeWhile_cons_of_neg (by rw [hz]; decide)]; rfl
  | cons c t ih =>
    rw [List.cons_append]
    cases hc : p c with
    | true => rw [List.takeWhile_cons_of_pos hc, List.takeWhile_cons_of_pos hc, ih]
    | false => rw [List.takeWhile_cons_of_neg (by rw [hc]; decide), List.takeWhile_cons_of_neg (by rw [hc]; decide)]
theorem many_app {p : Int → Bool} {z : Int} (hz : p z = false) (t u : List Int) : many p (t ++ z :: u) = many p t := by unfold many; rw [tw_app hz]
theorem get_app {z x : Int} (hx : z ≠ x) {t : List Int} {k : Nat} (hk : k ≤ t.length) (u : List Int) : (t ++ z :: u)[k]? = some x ↔ t[k]? = some x := by
  rcases Nat.lt_or_ge k t.length with h | h
  · rw [List.getElem?_append_left h]
  · have e : k = t.length := by omega
    subst e
    rw [List.getElem?_append_right (Nat.le_refl _), Nat.sub_self, List.getElem?_eq_none (Nat.le_refl _)]
    simp [hx]
theorem drop_app {z : Int} {t : List Int} {k : Nat} (hk : k ≤ t.length) (u : List Int) : (t ++ z :: u).drop k = t.drop k ++ z :: u := List.drop_append_of_le_length hk
theorem part_app {z : Int} (hd : dgB z = false) (h46 : z ≠ 46) (l u : List Int) : partN (l ++ z :: u) = partN l := by
  unfold partN
  rw [many_app hd]
  have hle := many_le dgB l
  simp only [get_app h46 hle u]
  split
  · rename_i h
    have := (List.getElem?_eq_some_iff.1 h).1
    rw [drop_app (by omega), many_app hd]
  · rfl
theorem num_app {z : Int} (hd : dgB z = false) (h46 : z ≠ 46) {c : Int} (t u : List Int) : numB (c :: t ++ z :: u) = numB (c :: t) := by
  unfold numB
  rw [many_app hd, part_app hd h46]
  have hle := many_le dgB (c :: t)
  have e1 : (c :: t ++ z :: u)[0]? = (c :: t)[0]? := rfl
  have e2 : (c :: t ++ z :: u).take (many dgB (c :: t)) = (c :: t).take (many dgB (c :: t)) := List.take_append_of_le_length hle
  have e3 : ((c :: t ++ z :: u).drop (many dgB (c :: t) + 1)).take (partN (c :: t)) = ((c :: t).drop (many dgB (c :: t) + 1)).take (partN (c :: t)) := by
    unfold partN
    split
    · rename_i h
      have h1 := (List.getElem?_eq_some_iff.1 h).1
      rw [drop_app (by omega), List.take_append_of_le_length (many_le _ _)]
    · rfl
  rw [e1, e2, e3]
theorem nums_app : ∀ (l : List Int) (d : Nat) (v : Int) (p : Nat) (c : Int) (n : Nat) (u : List Int), numS l d v p = .ok c n → numS (l ++ u) d v p = .ok c n
  | [], d, v, p, c, n, u, h => by simp [numS] at h
  | x :: t, d, v, p, c, n, u, h => by
    rw [List.cons_append, numS]
    rw [numS] at h
    split at h
    · rename_i h1; rw [if_pos h1]; exact h
    · rename_i h1
      rw [if_neg h1]
      split at h
      · cases h
      · rename_i h2; rw [if_neg h2]; exact nums_app t _ _ _ _ _ u h
theorem reads_app {l : List Int} {p : Nat} {c : Int} {n : Nat} (u : List Int) (h : readS l p = .ok c n) : readS (l ++ u) p = .ok c n := by
  cases l with
  | nil => simp [readS] at h
  | cons x t =>
    rw [List.cons_append, readS]
    rw [readS] at h
    split at h
    · rename_i h1
      rw [if_pos h1]
      cases t with
      | nil => simp [escS] at h
      | cons y t2 =>
        rw [List.cons_append, escS]
        rw [escS] at h
        split at h
        · rename_i h2
          rw [if_pos h2]
          cases t2 with
          | nil => simp [uS] at h
          | cons z t3 =>
            rw [List.cons_append, uS]
            rw [uS] at h
            split at h
            · rename_i h3; rw [if_pos h3]; exact nums_app _ _ _ _ _ _ u h
            · cases h
        · rename_i h2; rw [if_neg h2]; exact h
    · rename_i h1; rw [if_neg h1]; exact h
theorem head_app {z x : Int} (hx : z ≠ x) (hm : x ≠ -1) (t u : List Int) : (t ++ z :: u).headD (-1) = x ↔ t.headD (-1) = x := by
  cases t with
  | nil => simp; exact ⟨fun h => absurd h hx, fun h => absurd h.symm hm⟩
  | cons c t => rfl
theorem ch_app {z : Int} {l : List Int} {k : Nat} {c : Int} {n : Nat} (u : List Int) (h : chS l k = .ok c n) : chS (l ++ z :: u) k = .ok c n ∧ n ≤ l.length ∧ k < n := by
  unfold chS at h ⊢
  have hk : k < l.length := by
    rcases Nat.lt_or_ge k l.length with h1 | h1
    · exact h1
    · rw [List.drop_eq_nil_of_le h1] at h
      have hm : markB (([] : List Int).headD (-1)) = false := by decide
      rw [hm] at h
      simp [readS] at h
  rw [drop_app (by omega)]
  have hhd : (l.drop k ++ z :: u).headD (-1) = (l.drop k).headD (-1) := by
    rw [List.drop_eq_getElem_cons hk]; rfl
  rw [hhd]
  split at h
  · cases h
  · rename_i hm
    rw [if_neg hm]
    cases hr : readS (l.drop k) k with
    | ok c' n' =>
      rw [hr] at h
      simp only at h
      have h1 := reads_app (z :: u) hr
      rw [h1]
      have h2 := Q.read_in hr
      rw [List.length_drop] at h2
      injection h with e1 e2
      subst e1 e2
      exact ⟨rfl, by omega, h2.2.1⟩
    | bad e =>
      rw [hr] at h
      simp only at h
      split at h <;> cases h
theorem chars_app {z : Int} (h45 : z ≠ 45) {l : List Int} {k : Int} {x : List Int} {lo hi : Int} {m : Nat} (u : List Int) (h : charsS l = .tok k x lo hi m) : charsS (l ++ z :: u) = .tok k x lo hi m ∧ m + 1 ≤ l.length := by
  unfold charsS at h ⊢
  cases h0 : chS l 0 with
  | bad k e => rw [h0] at h; cases h
  | ok lo' n =>
    obtain ⟨a1, a2, a3⟩ := ch_app (z := z) u h0
    rw [h0] at h
    rw [a1]
    simp only at h ⊢
    unfold hiS at h ⊢
    rw [drop_app a2]
    have hh := head_app h45 (by decide) (l.drop n) u
    simp only [hh]
    by_cases h1 : (l.drop n).headD (-1) = 45
    · rw [if_pos h1] at h
      cases h2 : chS l (n + 1) with
      | bad k e => rw [h2] at h; cases h
      | ok hi' m' =>
        obtain ⟨b1, b2, b3⟩ := ch_app (z := z) u h2
        rw [h2] at h
        rw [if_pos h1, b1]
        simp only at h ⊢
        refine ⟨h, ?_⟩
        split at h
        · cases h
        · injection h with _ _ _ _ e5
          omega
    · rw [if_neg h1] at h ⊢
      simp only at h ⊢
      refine ⟨h, ?_⟩
      split at h
      · cases h
      · injection h with _ _ _ _ e5
        omega
/-- A step is as it was, whatever stands behind a character that no token goes on with. -/
def St.good : St → Prop
  | .tok _ _ _ _ _ => True
  | .skip _ => True
  | .bad _ _ => False
def St.len : St → Nat
  | .tok _ _ _ _ m => m + 1
  | .skip m => m + 1
  | .bad _ _ => 0
theorem name_app {z : Int} {t : List Int} (h : Ends z t) (u : List Int) : nameS (t ++ z :: u) = nameS t ∧ (nameS t).len ≤ t.length + 1 := by
  have hl : ltB ((t ++ z :: u).headD (-1)) = ltB (t.headD (-1)) := by
    cases t with
    | nil => simp [h.lt]; rfl
    | cons c t => rfl
  have hle := many_le nmB t
  unfold nameS
  rw [hl, many_app h.nm, tw_app h.nm]
  refine ⟨rfl, ?_⟩
  split
  · split
    · exact Nat.zero_le _
    · show many nmB t + 1 ≤ _; omega
  · exact Nat.zero_le _
theorem set_app {z : Int} (h : z ≠ 94) (t u : List Int) : setS (t ++ z :: u) = setS t ∧ (setS t).len ≤ t.length + 1 := by
  unfold setS
  have hh := head_app h (by decide) t u
  simp only [hh]
  refine ⟨trivial, ?_⟩
  split
  · rename_i h1
    cases t with
    | nil => simp at h1
    | cons c t => show 2 ≤ _; simp
  · show 1 ≤ _; omega
theorem numT_app {z : Int} (hd : dgB z = false) (h46 : z ≠ 46) (c : Int) (t u : List Int) : numT (c :: t ++ z :: u) = numT (c :: t) ∧ (numT (c :: t)).len ≤ t.length + 1 := by
  unfold numT
  rw [num_app hd h46]
  refine ⟨rfl, ?_⟩
  split
  · rename_i h
    have h1 := num_le (c :: t)
    have h2 := num_pos h
    show (numB (c :: t)).2.1 - 1 + 1 ≤ _
    rw [List.length_cons] at h1
    omega
  · exact Nat.zero_le _
theorem note_app (t u : List Int) : noteS (35 :: t ++ 10 :: u) = noteS (35 :: t) := by
  unfold noteS
  rw [tw_app (by decide), many_app (by decide)]
theorem note_len (t : List Int) : (noteS (35 :: t)).len ≤ t.length + 1 := by
  have h1 := many_le noLf (35 :: t)
  have h2 : many noLf (35 :: t) = many noLf t + 1 := many_cons (by decide) t
  rw [List.length_cons] at h1
  unfold noteS
  split
  · split
    · show many noLf (35 :: t) - 1 + 1 ≤ _; omega
    · exact Nat.zero_le _
  · show many noLf (35 :: t) - 1 + 1 ≤ _; omega
theorem step_app {z : Int} {o : Nat} {ts : List Tk} {c : Int} {t : List Int} (h : Ends z (c :: t)) (u : List Int) (hg : (stepS o ts c t).good) : stepS o ts c (t ++ z :: u) = stepS o ts c t ∧ (stepS o ts c t).len ≤ t.length + 1 := by
  have ht : Ends z t := h.drop 1
  unfold stepS at hg ⊢
  split
  · rename_i ho
    rw [if_pos ho] at hg
    unfold inS at hg ⊢
    split
    · exact name_app ht u
    · rename_i h1
      rw [if_neg h1] at hg
      split
      · exact set_app h.n94 t u
      · rename_i h2
        rw [if_neg h2] at hg
        split
        · exact ⟨rfl, by show 1 ≤ _; omega⟩
        · rename_i h3
          rw [if_neg h3] at hg
          split
          · exact ⟨rfl, by show 1 ≤ _; omega⟩
          · rename_i h4
            rw [if_neg h4] at hg
            split
            · refine ⟨rfl, ?_⟩
              split
              · show 1 ≤ _; omega
              · exact Nat.zero_le _
            · rename_i h5
              rw [if_neg h5] at hg
              cases hr : charsS (c :: t) with
              | tok k x lo hi m =>
                obtain ⟨a1, a2⟩ := chars_app h.n45 u hr
                rw [← List.cons_append, a1]
                exact ⟨rfl, by rw [List.length_cons] at a2; exact a2⟩
              | skip m =>
                exfalso
                unfold charsS at hr
                split at hr
                · cases hr
                · split at hr
                  · cases hr
                  · split at hr <;> cases hr
              | bad k e => rw [hr] at hg; exact hg.elim
  · rename_i ho
    rw [if_neg ho] at hg
    unfold outS at hg ⊢
    split
    · exact name_app ht u
    · rename_i h1
      rw [if_neg h1] at hg
      split
      · exact numT_app h.dg h.n46 c t u
      · rename_i h2
        rw [if_neg h2] at hg
        split
        · exact set_app h.n94 t u
        · rename_i h3
          rw [if_neg h3] at hg
          split
          · rename_i h4
            subst h4
            rcases h.note with rfl | hn
            · exact ⟨note_app t u, note_len t⟩
            · exact absurd (by simp) hn
          · refine ⟨rfl, ?_⟩
            split
            · exact Nat.zero_le _
            · show 1 ≤ _; omega
end W
end Go.Proofs.YtdhighnbbpngpaaGreatDoor
namespace Go.Proofs.YtdhighnbbpngpaaGreatDoor
namespace W

theorem lex_app {z : Int} : ∀ (n : Nat) (l : List Int), l.length ≤ n → ∀ (i o : Nat) (ts ts' : List Tk), Ends z l → lexS l i o ts = .ok ts' → ∀ u, lexS (l ++ z :: u) i o ts = lexS (z :: u) (i + l.length) 0 ts' := by
  intro n
  induction n with
  | zero =>
    intro l hl i o ts ts' _ h u
    obtain rfl : l = [] := List.eq_nil_of_length_eq_zero (by omega)
    rw [lexS_nil] at h
    split at h
    · cases h
    · rename_i ho
      injection h with h
      subst h
      obtain rfl : o = 0 := by omega
      rfl
  | succ n ih =>
    intro l hl i o ts ts' he h u
    cases l with
    | nil =>
      rw [lexS_nil] at h
      split at h
      · cases h
      · rename_i ho
        injection h with h
        subst h
        obtain rfl : o = 0 := by omega
        rfl
    | cons c t =>
      simp only [List.length_cons] at hl
      rw [List.cons_append]
      by_cases hb : c = 32 ∨ c = 9
      · rw [lexS_blank hb] at h ⊢
        rw [ih t (by omega) (i + 1) o ts ts' (he.drop 1) h u, List.length_cons, show i + 1 + t.length = i + (t.length + 1) by omega]
      · rw [lexS_step hb] at h ⊢
        cases hs : stepS o ts c t with
        | bad k e => rw [hs] at h; cases h
        | tok k x lo hi m =>
          have hg : (stepS o ts c t).good := by rw [hs]; trivial
          obtain ⟨a1, a2⟩ := step_app he u hg
          rw [hs] at a1 a2 h
          rw [a1]
          simp only at h ⊢
          have hm : m ≤ t.length := by have : m + 1 ≤ t.length + 1 := a2; omega
          rw [drop_app hm, ih (t.drop m) (by rw [List.length_drop]; omega) _ _ _ ts' ((he.drop 1).drop m) h u, List.length_drop, List.length_cons, show i + m + 1 + (t.length - m) = i + (t.length + 1) by omega]
        | skip m =>
          have hg : (stepS o ts c t).good := by rw [hs]; trivial
          obtain ⟨a1, a2⟩ := step_app he u hg
          rw [hs] at a1 a2 h
          rw [a1]
          simp only at h ⊢
          have hm : m ≤ t.length := by have : m + 1 ≤ t.length + 1 := a2; omega
          rw [drop_app hm, ih (t.drop m) (by rw [List.length_drop]; omega) _ _ _ ts' ((he.drop 1).drop m) h u, List.length_drop, List.length_cons, show i + m + 1 + (t.length - m) = i + (t.length + 1) by omega]
/-- A token further on. -/
def sh (d : Nat) (t : Tk) : Tk := ⟨t.kind, t.text, t.low, t.high, t.at_ + d⟩
def shL (d : Nat) (pre : List Tk) : Lx → Lx
  | .ok r => .ok (pre ++ r.map (sh d))
  | .bad k e => .bad (k + d) e
theorem last_sh (d : Nat) (pre ts : List Tk) (h : ts ≠ []) : lastK (pre ++ ts.map (sh d)) = lastK ts := by
  unfold lastK
  rw [List.getLast?_append, List.getLast?_map]
  cases hg : ts.getLast? with
  | none => simp at hg; exact absurd hg h
  | some t => rfl
theorem lex_sh (d : Nat) (pre : List Tk) : ∀ (n : Nat) (l : List Int), l.length ≤ n → ∀ (i o : Nat) (ts : List Tk), (0 < o → ts ≠ []) → lexS l (i + d) o (pre ++ ts.map (sh d)) = shL d pre (lexS l i o ts) := by
  intro n
  induction n with
  | zero =>
    intro l hl i o ts _
    obtain rfl : l = [] := List.eq_nil_of_length_eq_zero (by omega)
    rw [lexS_nil, lexS_nil]
    split <;> rfl
  | succ n ih =>
    intro l hl i o ts hne
    cases l with
    | nil =>
      rw [lexS_nil, lexS_nil]
      split <;> rfl
    | cons c t =>
      simp only [List.length_cons] at hl
      by_cases hb : c = 32 ∨ c = 9
      · rw [lexS_blank hb, lexS_blank hb, show i + d + 1 = i + 1 + d by omega]
        exact ih t (by omega) _ _ _ hne
      · have hst : stepS o (pre ++ ts.map (sh d)) c t = stepS o ts c t := by
          unfold stepS
          split
          · rename_i ho; rw [last_sh d pre ts (hne ho)]
          · rfl
        rw [lexS_step hb, lexS_step hb, hst]
        cases stepS o ts c t with
        | bad k e => show Lx.bad (i + d + k) e = .bad (i + k + d) e; rw [show i + d + k = i + k + d by omega]
        | tok k x lo hi m =>
          simp only
          have e : pre ++ ts.map (sh d) ++ [(⟨k, x, lo, hi, i + d⟩ : Tk)] = pre ++ (ts ++ [(⟨k, x, lo, hi, i⟩ : Tk)]).map (sh d) := by rw [List.map_append, List.append_assoc]; rfl
          rw [e, show i + d + m + 1 = i + m + 1 + d by omega]
          exact ih _ (by rw [List.length_drop]; omega) _ _ _ (fun _ => by simp)
        | skip m =>
          simp only
          rw [show i + d + m + 1 = i + m + 1 + d by omega]
          exact ih _ (by rw [List.length_drop]; omega) _ _ _ hne
theorem lex_from (d : Nat) (pre : List Tk) (l : List Int) : lexS l d 0 pre = shL d pre (lexS l 0 0 []) := by
  have := lex_sh d pre l.length l (Nat.le_refl _) 0 0 [] (fun h => absurd h (by omega))
  simpa using this
/-- Tokens of two texts, a line feed between. -/
theorem lex_lines {a b : List Int} {ts : List Tk} (h : lexS a 0 0 [] = .ok ts) : lexS (a ++ 10 :: b) 0 0 [] = shL (a.length + 1) (ts ++ [⟨18, [], 0, 0, a.length⟩]) (lexS b 0 0 []) := by
  rw [lex_app a.length a (Nat.le_refl _) 0 0 [] ts (ends_lf a) h b, Nat.zero_add, lexS_step (by decide)]
  have e : stepS 0 ts 10 b = .tok 18 [] 0 0 0 := by unfold stepS outS; rfl
  rw [e]
  simp only [List.drop_zero, Nat.add_zero]
  exact lex_from _ _ _
/-- Tokens of a text in brackets. -/
theorem lex_brackets {b : List Int} {ts : List Tk} (hn : 35 ∉ b) (h : lexS b 0 0 [] = .ok ts) : lexS (40 :: (b ++ [41])) 0 0 [] = .ok ((⟨6, [], 0, 0, 0⟩ : Tk) :: (ts ++ [(⟨7, [], 0, 0, b.length⟩ : Tk)]).map (sh 1)) := by
  rw [lexS_step (by decide)]
  have e : stepS 0 [] 40 (b ++ [41]) = .tok 6 [] 0 0 0 := by unfold stepS outS; rfl
  rw [e]
  simp only [List.drop_zero, Nat.add_zero, Nat.zero_add, List.nil_append]
  have e0 : opn 6 0 = 0 := rfl
  rw [e0, lex_from, lex_app b.length b (Nat.le_refl _) 0 0 [] ts (ends_shut hn) h [], lexS_step (by decide)]
  have e2 : stepS 0 ts 41 [] = .tok 7 [] 0 0 0 := by unfold stepS outS; rfl
  rw [e2]
  simp only [List.drop_zero, Nat.add_zero, Nat.zero_add]
  have e3 : opn 7 0 = 0 := rfl
  rw [e3, lexS_nil, if_neg (by decide)]
  rfl
end W
end Go.Proofs.YtdhighnbbpngpaaGreatDoor
