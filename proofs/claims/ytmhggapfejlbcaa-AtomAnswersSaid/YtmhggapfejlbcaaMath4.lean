/- Plain facts on edges: a rising list of places, put in one by one, between two of which nothing changes; no program stands in this text. -/
import Derived.Test.YtmhggapfejlbcaaMath2
namespace Go.Proofs.Ytmhggapfejlbcaa.M

/-- R is L with x put in where it belongs, once. -/
def IsPut (L : List Int) (x : Int) (R : List Int) : Prop :=
  ∃ k, k ≤ L.length ∧ (∀ j y, j < k → L[j]? = some y → y < x) ∧ (∀ y, L[k]? = some y → x ≤ y) ∧ (L[k]? = some x → R = L) ∧ (L[k]? ≠ some x → R = L.take k ++ x :: L.drop k)
def Rise (L : List Int) : Prop := L.Pairwise (· < ·)

theorem IsPut.mem {L R : List Int} {x : Int} (h : IsPut L x R) : ∀ y, y ∈ R ↔ y ∈ L ∨ y = x := by
  obtain ⟨k, hk, h1, h2, h3, h4⟩ := h
  intro y
  by_cases e : L[k]? = some x
  · rw [h3 e]
    constructor
    · exact .inl
    · rintro (h | rfl)
      · exact h
      · exact List.mem_of_getElem? e
  · rw [h4 e]
    have : y ∈ L ↔ y ∈ L.take k ∨ y ∈ L.drop k := by rw [← List.mem_append, List.take_append_drop]
    rw [this]
    simp only [List.mem_append, List.mem_cons]
    constructor
    · rintro (h | h | h)
      · exact .inl (.inl h)
      · exact .inr h
      · exact .inl (.inr h)
    · rintro ((h | h) | h)
      · exact .inl h
      · exact .inr (.inr h)
      · exact .inr (.inl h)
theorem IsPut.len {L R : List Int} {x : Int} (h : IsPut L x R) : R.length ≤ L.length + 1 := by
  obtain ⟨k, hk, h1, h2, h3, h4⟩ := h
  by_cases e : L[k]? = some x
  · rw [h3 e]; omega
  · rw [h4 e]; simp; omega
theorem IsPut.rise {L R : List Int} {x : Int} (h : IsPut L x R) (hL : Rise L) : Rise R := by
  obtain ⟨k, hk, h1, h2, h3, h4⟩ := h
  by_cases e : L[k]? = some x
  · rw [h3 e]; exact hL
  · rw [h4 e]
    unfold Rise at hL ⊢
    have hd : (L.take k ++ L.drop k).Pairwise (· < ·) := by rw [List.take_append_drop]; exact hL
    rw [List.pairwise_append] at hd ⊢
    obtain ⟨d1, d2, d3⟩ := hd
    have hb : ∀ y ∈ L.drop k, x < y := by
      intro y hy
      cases hz : L[k]? with
      | none =>
        have : L.length ≤ k := List.getElem?_eq_none_iff.1 hz
        rw [List.drop_eq_nil_of_le this] at hy; simp at hy
      | some z =>
        have hz1 := h2 z hz
        have hzx : x < z := by
          rcases Int.lt_or_eq_of_le hz1 with g | g
          · exact g
          · subst g; exact absurd hz e
        obtain ⟨hkl, hzz⟩ := List.getElem?_eq_some_iff.1 hz
        rw [List.drop_eq_getElem_cons hkl, hzz] at hy d2
        rcases List.mem_cons.1 hy with rfl | hy
        · exact hzx
        · have := (List.pairwise_cons.1 d2).1 y hy; omega
    refine ⟨d1, List.pairwise_cons.2 ⟨hb, d2⟩, fun y hy z hz => ?_⟩
    have hyx : y < x := by
      obtain ⟨j, hj⟩ := List.getElem?_of_mem hy
      rw [List.getElem?_take] at hj
      by_cases g : j < k
      · rw [if_pos g] at hj; exact h1 j y g hj
      · rw [if_neg g] at hj; cases hj
    rcases List.mem_cons.1 hz with rfl | hz
    · exact hyx
    · have := hb z hz; omega

/-- The places at which the ranges S may begin or have ended. -/
structure EdgeOf (S : List Rg) (E : List Int) : Prop where
  rise : Rise E
  rng : ∀ y ∈ E, 0 ≤ y ∧ y ≤ 1114111
  zero : (0 : Int) ∈ E
  lows : ∀ r ∈ S, 0 ≤ r.1 → r.1 ≤ 1114111 → r.1 ∈ E
  highs : ∀ r ∈ S, -1 ≤ r.2 → r.2 < 1114111 → r.2 + 1 ∈ E
  len : E.length ≤ 1 + 2 * S.length
theorem EdgeOf.start : EdgeOf [] [0] := ⟨List.pairwise_singleton _ _, by simp, by simp, by simp, by simp, by simp⟩
def putIf (p : Prop) (E : List Int) (x : Int) (R : List Int) : Prop := (p → IsPut E x R) ∧ (¬ p → R = E)
theorem EdgeOf.step {S : List Rg} {E E1 E2 : List Int} {r : Rg} (h : EdgeOf S E) (h1 : putIf (0 ≤ r.1 ∧ r.1 ≤ 1114111) E r.1 E1) (h2 : putIf (-1 ≤ r.2 ∧ r.2 < 1114111) E1 (r.2 + 1) E2) : EdgeOf (S ++ [r]) E2 := by
  have a1 : Rise E1 ∧ (∀ y ∈ E1, 0 ≤ y ∧ y ≤ 1114111) ∧ (∀ y ∈ E, y ∈ E1) ∧ (0 ≤ r.1 → r.1 ≤ 1114111 → r.1 ∈ E1) ∧ E1.length ≤ E.length + 1 := by
    by_cases p : 0 ≤ r.1 ∧ r.1 ≤ 1114111
    · have q := h1.1 p
      refine ⟨q.rise h.rise, fun y hy => ?_, fun y hy => (q.mem y).2 (.inl hy), fun _ _ => (q.mem _).2 (.inr rfl), q.len⟩
      rcases (q.mem y).1 hy with g | rfl
      · exact h.rng y g
      · exact p
    · rw [h1.2 p]; exact ⟨h.rise, h.rng, fun y hy => hy, fun g1 g2 => absurd ⟨g1, g2⟩ p, by omega⟩
  obtain ⟨b1, b2, b3, b4, b5⟩ := a1
  have a2 : Rise E2 ∧ (∀ y ∈ E2, 0 ≤ y ∧ y ≤ 1114111) ∧ (∀ y ∈ E1, y ∈ E2) ∧ (-1 ≤ r.2 → r.2 < 1114111 → r.2 + 1 ∈ E2) ∧ E2.length ≤ E1.length + 1 := by
    by_cases p : -1 ≤ r.2 ∧ r.2 < 1114111
    · have q := h2.1 p
      refine ⟨q.rise b1, fun y hy => ?_, fun y hy => (q.mem y).2 (.inl hy), fun _ _ => (q.mem _).2 (.inr rfl), q.len⟩
      rcases (q.mem y).1 hy with g | rfl
      · exact b2 y g
      · omega
    · rw [h2.2 p]; exact ⟨b1, b2, fun y hy => hy, fun g1 g2 => absurd ⟨g1, g2⟩ p, by omega⟩
  obtain ⟨c1, c2, c3, c4, c5⟩ := a2
  refine ⟨c1, c2, c3 _ (b3 _ h.zero), fun x hx g1 g2 => ?_, fun x hx g1 g2 => ?_, by have := h.len; simp; omega⟩
  · rcases List.mem_append.1 hx with hx | hx
    · exact c3 _ (b3 _ (h.lows x hx g1 g2))
    · simp at hx; subst hx; exact c3 _ (b4 g1 g2)
  · rcases List.mem_append.1 hx with hx | hx
    · exact c3 _ (b3 _ (h.highs x hx g1 g2))
    · simp at hx; subst hx; exact c4 g1 g2

/-- The ranges that are looked at. -/
def usable (l : List Rg) : List Rg := if l.length ≤ 400 then l else []
/-- Where the stretch at the i-th edge ends. -/
def nextE (E : List Int) (i : Nat) : Int := match E[i + 1]? with | some y => y | none => 1114112
theorem next_gt {S : List Rg} {E : List Int} (h : EdgeOf S E) {i : Nat} {f : Int} (hf : E[i]? = some f) : f < nextE E i ∧ nextE E i ≤ 1114112 ∧ 0 ≤ f ∧ f ≤ 1114111 := by
  have r := h.rng f (List.mem_of_getElem? hf)
  unfold nextE
  cases hg : E[i + 1]? with
  | none => simp only []; omega
  | some y =>
    have ry := h.rng y (List.mem_of_getElem? hg)
    obtain ⟨i1, e1⟩ := List.getElem?_eq_some_iff.1 hf
    obtain ⟨i2, e2⟩ := List.getElem?_eq_some_iff.1 hg
    have := List.pairwise_iff_getElem.1 h.rise i (i + 1) i1 i2 (by omega)
    simp only []; omega
theorem no_edge {S : List Rg} {E : List Int} (h : EdgeOf S E) {i : Nat} {f y : Int} (hf : E[i]? = some f) (hy : y ∈ E) (h1 : f < y) (h2 : y < nextE E i) : False := by
  obtain ⟨j, hj⟩ := List.getElem?_of_mem hy
  obtain ⟨i1, e1⟩ := List.getElem?_eq_some_iff.1 hf
  obtain ⟨j1, e2⟩ := List.getElem?_eq_some_iff.1 hj
  have hp := List.pairwise_iff_getElem.1 h.rise
  have hij : i < j := by
    rcases Nat.lt_trichotomy i j with g | g | g
    · exact g
    · subst g; rw [e1] at e2; omega
    · have := hp j i j1 i1 g; omega
  unfold nextE at h2
  cases hg : E[i + 1]? with
  | none => have := List.getElem?_eq_none_iff.1 hg; omega
  | some z =>
    rw [hg] at h2
    simp only [] at h2
    obtain ⟨i2, e3⟩ := List.getElem?_eq_some_iff.1 hg
    by_cases g : j = i + 1
    · subst g; rw [e3] at e2; omega
    · have := hp (i + 1) j i2 j1 (by omega); omega
theorem edge_cov {S l : List Rg} {E : List Int} (h : EdgeOf S E) (hl : ∀ r ∈ l, r ∈ S) {i : Nat} {f c : Int} (hf : E[i]? = some f) (h1 : f ≤ c) (h2 : c < nextE E i) : covb l c = covb l f := by
  obtain ⟨n1, n2, n3, n4⟩ := next_gt h hf
  have key : ∀ r ∈ l, inR r c = inR r f := by
    intro r hr
    have hS := hl r hr
    rw [Bool.eq_iff_iff, inR_iff, inR_iff]
    have k1 : r.1 ≤ c → r.1 ≤ f := fun g => by
      by_cases e : r.1 ≤ f
      · exact e
      · exact (no_edge h hf (h.lows r hS (by omega) (by omega)) (by omega) (by omega)).elim
    have k2 : f ≤ r.2 → c ≤ r.2 := fun g => by
      by_cases e : c ≤ r.2
      · exact e
      · exact (no_edge h hf (h.highs r hS (by omega) (by omega)) (by omega) (by omega)).elim
    constructor
    · rintro ⟨a, b⟩; exact ⟨k1 a, by omega⟩
    · rintro ⟨a, b⟩; exact ⟨by omega, k2 b⟩
  clear hl
  induction l with
  | nil => rfl
  | cons r t ih => simp only [covb]; rw [key r (by simp), ih fun x hx => key x (by simp [hx])]
theorem edge_has {S l : List Rg} {E : List Int} (h : EdgeOf S E) (hl : ∀ r ∈ usable l, r ∈ S) {i : Nat} {f c : Int} (hf : E[i]? = some f) (h1 : f ≤ c) (h2 : c < nextE E i) : hasB l c = hasB l f := by
  obtain ⟨n1, n2, n3, n4⟩ := next_gt h hf
  unfold hasB
  by_cases g : l.length ≤ 400
  · have e : usable l = l := by unfold usable; rw [if_pos g]
    rw [edge_cov h (by rwa [e] at hl) hf h1 h2]
    have : isch c = isch f := by rw [(isch_iff c).2 (by omega), (isch_iff f).2 (by omega)]
    rw [this]
  · rw [decide_eq_false g]; rfl
theorem edge_first {S : List Rg} {E : List Int} (h : EdgeOf S E) : E[0]? = some 0 := by
  obtain ⟨j, hj⟩ := List.getElem?_of_mem h.zero
  obtain ⟨j1, e1⟩ := List.getElem?_eq_some_iff.1 hj
  have h0 : 0 < E.length := by omega
  have r := h.rng E[0] (List.getElem_mem h0)
  rcases Nat.eq_zero_or_pos j with g | g
  · subst g; exact hj
  · have := List.pairwise_iff_getElem.1 h.rise 0 j h0 j1 g; omega
end Go.Proofs.Ytmhggapfejlbcaa.M
