/- Plain facts on counting: how many characters a least list has, how many ranges, and how many ranges a set made of two sets has at most; no program stands in this text. -/
import Derived.Test.YtmhggapfejlbcaaMath2
namespace Go.Proofs.Ytmhggapfejlbcaa.M

def cnt : Nat → (Int → Bool) → Nat
  | 0, _ => 0
  | n + 1, p => cnt n p + if p (n : Int) then 1 else 0
theorem cnt_mono {n : Nat} {p q : Int → Bool} (h : ∀ c, p c = true → q c = true) : cnt n p ≤ cnt n q := by
  induction n with
  | zero => simp [cnt]
  | succ n ih =>
    simp only [cnt]
    by_cases hp : p (n : Int) = true
    · rw [if_pos hp, if_pos (h _ hp)]; omega
    · rw [if_neg hp]; omega
theorem cnt_congr {n : Nat} {p q : Int → Bool} (h : ∀ c, p c = q c) : cnt n p = cnt n q := by
  have : p = q := funext h
  rw [this]
theorem cnt_or_and (n : Nat) (p q : Int → Bool) : cnt n (fun c => p c || q c) + cnt n (fun c => p c && q c) = cnt n p + cnt n q := by
  induction n with
  | zero => simp [cnt]
  | succ n ih =>
    simp only [cnt]
    rcases Bool.eq_false_or_eq_true (p (n : Int)) with hp | hp <;> rcases Bool.eq_false_or_eq_true (q (n : Int)) with hq | hq <;> simp [hp, hq] <;> omega
theorem cnt_or_le (n : Nat) (p q : Int → Bool) : cnt n (fun c => p c || q c) ≤ cnt n p + cnt n q := by
  have := cnt_or_and n p q; omega
theorem cnt_none {n : Nat} {p : Int → Bool} (h : ∀ c, p c = false) : cnt n p = 0 := by
  induction n with
  | zero => rfl
  | succ n ih => simp [cnt, ih, h]
theorem cnt_add {n : Nat} {p q : Int → Bool} (h : ∀ c, (p c && q c) = false) : cnt n (fun c => p c || q c) = cnt n p + cnt n q := by
  have h1 := cnt_or_and n p q
  have h2 : cnt n (fun c => p c && q c) = 0 := cnt_none h
  omega
theorem cnt_inR (n : Nat) (r : Rg) (h0 : 0 ≤ r.1) : (cnt n (inR r) : Int) = max 0 (min (r.2 + 1) n - r.1) := by
  induction n with
  | zero => simp [cnt]; omega
  | succ n ih =>
    simp only [cnt]
    by_cases h : inR r (n : Int) = true
    · rw [if_pos h]; rw [inR_iff] at h; omega
    · rw [if_neg h]; have h' : ¬ (r.1 ≤ (n : Int) ∧ (n : Int) ≤ r.2) := fun e => h ((inR_iff r _).2 e)
      omega
theorem cnt_eq (n : Nat) (x : Int) (h0 : 0 ≤ x) (h1 : x < n) : cnt n (fun c => decide (c = x)) = 1 := by
  have h := cnt_inR n (x, x) h0
  have e : cnt n (inR (x, x)) = cnt n (fun c => decide (c = x)) := cnt_congr fun c => by
    rw [Bool.eq_iff_iff, inR_iff]; simp; omega
  rw [e] at h
  simp only at h
  omega

/-- How many characters. -/
def szF (L : List Rg) : Int := (L.map fun r => r.2 - r.1 + 1).sum
theorem szF_cnt {lo : Int} {L : List Rg} (h : LF lo L) (h0 : 0 ≤ lo) (n : Nat) (hn : 1114112 ≤ n) : szF L = cnt n (covb L) := by
  induction L generalizing lo with
  | nil => rw [cnt_none (p := covb []) (fun _ => rfl)]; rfl
  | cons r t ih =>
    obtain ⟨h1, h2, h3, h4⟩ := h
    have e : cnt n (covb (r :: t)) = cnt n (inR r) + cnt n (covb t) := by
      have : cnt n (fun c => inR r c || covb t c) = _ := cnt_add (p := inR r) (q := covb t) fun c => by
        by_cases g : c ≤ r.2
        · rw [LF_low h4 (by omega)]; simp
        · rw [(inR_not r c).2 (by omega)]; rfl
      exact this
    have i1 := ih h4 (by omega)
    have i2 := cnt_inR n r (by omega)
    rw [e]
    simp only [szF, List.map_cons, List.sum_cons] at *
    omega

/-- Where ranges begin, and where they have ended. -/
def st (L : List Rg) (c : Int) : Bool := covb L c && !covb L (c - 1)
def en (L : List Rg) (c : Int) : Bool := covb L (c - 1) && !covb L c
theorem st_cons {lo : Int} {r : Rg} {t : List Rg} (h : LF lo (r :: t)) (c : Int) : st (r :: t) c = (decide (c = r.1) || st t c) := by
  obtain ⟨h1, h2, h3, h4⟩ := h
  unfold st
  simp only [covb]
  by_cases g1 : c < r.1
  · rw [(inR_not r c).2 (by omega), (inR_not r (c - 1)).2 (by omega), LF_low h4 (by omega), decide_eq_false (by omega)]; rfl
  · by_cases g2 : c = r.1
    · rw [(inR_iff r c).2 (by omega), (inR_not r (c - 1)).2 (by omega), LF_low h4 (c := c - 1) (by omega), decide_eq_true g2]; simp
    · by_cases g3 : c ≤ r.2
      · rw [(inR_iff r c).2 (by omega), (inR_iff r (c - 1)).2 (by omega), LF_low h4 (c := c) (by omega), decide_eq_false g2]; simp
      · rw [(inR_not r c).2 (by omega), decide_eq_false g2]
        by_cases g4 : c = r.2 + 1
        · rw [LF_low h4 (c := c) (by omega)]; simp
        · rw [(inR_not r (c - 1)).2 (by omega)]; simp
theorem en_cons {lo : Int} {r : Rg} {t : List Rg} (h : LF lo (r :: t)) (c : Int) : en (r :: t) c = (decide (c = r.2 + 1) || en t c) := by
  obtain ⟨h1, h2, h3, h4⟩ := h
  unfold en
  simp only [covb]
  by_cases g1 : c < r.1 + 1
  · rw [(inR_not r (c - 1)).2 (by omega), LF_low h4 (c := c - 1) (by omega), decide_eq_false (by omega)]; simp
  · by_cases g3 : c ≤ r.2
    · rw [(inR_iff r c).2 (by omega), LF_low h4 (c := c - 1) (by omega), decide_eq_false (by omega)]; simp
    · by_cases g4 : c = r.2 + 1
      · rw [(inR_not r c).2 (by omega), (inR_iff r (c - 1)).2 (by omega), LF_low h4 (c := c) (by omega), decide_eq_true g4]; simp
      · rw [(inR_not r c).2 (by omega), (inR_not r (c - 1)).2 (by omega), decide_eq_false g4]; simp
theorem len_st {lo : Int} {L : List Rg} (h : LF lo L) (h0 : 0 ≤ lo) (n : Nat) (hn : 1114113 ≤ n) : L.length = cnt n (st L) := by
  induction L generalizing lo with
  | nil => rw [cnt_none (p := st []) (fun _ => rfl)]; rfl
  | cons r t ih =>
    have hh := h
    obtain ⟨h1, h2, h3, h4⟩ := h
    rw [cnt_congr (st_cons hh), cnt_add (p := fun c => decide (c = r.1)) (q := st t), cnt_eq n r.1 (by omega) (by omega), ← ih h4 (by omega), List.length_cons]
    · omega
    · intro c
      by_cases g : c = r.1
      · rw [g]; unfold st; rw [LF_low h4 (c := r.1) (by omega)]; simp
      · rw [decide_eq_false g]; rfl
theorem len_en {lo : Int} {L : List Rg} (h : LF lo L) (h0 : 0 ≤ lo) (n : Nat) (hn : 1114113 ≤ n) : L.length = cnt n (en L) := by
  induction L generalizing lo with
  | nil => rw [cnt_none (p := en []) (fun _ => rfl)]; rfl
  | cons r t ih =>
    have hh := h
    obtain ⟨h1, h2, h3, h4⟩ := h
    rw [cnt_congr (en_cons hh), cnt_add (p := fun c => decide (c = r.2 + 1)) (q := en t), cnt_eq n (r.2 + 1) (by omega) (by omega), ← ih h4 (by omega), List.length_cons]
    · omega
    · intro c
      by_cases g : c = r.2 + 1
      · rw [g]; unfold en; rw [LF_low h4 (c := r.2 + 1 - 1) (by omega)]; simp
      · rw [decide_eq_false g]; rfl
theorem big : ∃ n : Nat, 1114113 ≤ n := ⟨1114113, Nat.le_refl _⟩

/-- How many ranges a set made of two has at most. -/
theorem len_two {a b R : List Rg} {tl : Bool → Bool → Bool} (ha : LF 0 a) (hb : LF 0 b) (hR : LF 0 R) (hc : ∀ c, covb R c = tl (covb a c) (covb b c))
    (h : ∀ p q p' q', (tl p q && !(tl p' q')) = true → ((p && !p') || (q && !q')) = true) : R.length ≤ a.length + b.length := by
  obtain ⟨n, hn⟩ := big
  rw [len_st ha (Int.le_refl 0) n hn, len_st hb (Int.le_refl 0) n hn, len_st hR (Int.le_refl 0) n hn]
  refine Nat.le_trans (cnt_mono fun c hs => ?_) (cnt_or_le n (st a) (st b))
  unfold st at hs ⊢
  rw [hc, hc] at hs
  exact h _ _ _ _ hs
theorem len_less {a b R : List Rg} (ha : LF 0 a) (hb : LF 0 b) (hR : LF 0 R) (hc : ∀ c, covb R c = (covb a c && !covb b c)) : R.length ≤ a.length + b.length := by
  obtain ⟨n, hn⟩ := big
  rw [len_st ha (Int.le_refl 0) n hn, len_en hb (Int.le_refl 0) n hn, len_st hR (Int.le_refl 0) n hn]
  refine Nat.le_trans (cnt_mono fun c hs => ?_) (cnt_or_le n (st a) (en b))
  unfold st at hs
  unfold st en
  rw [hc, hc] at hs
  generalize covb a c = p at *
  generalize covb a (c - 1) = p' at *
  generalize covb b c = q at *
  generalize covb b (c - 1) = q' at *
  revert hs; cases p <;> cases p' <;> cases q <;> cases q' <;> simp
theorem len_not {a R : List Rg} (ha : LF 0 a) (hR : LF 0 R) (hc : ∀ c, covb R c = (isch c && !covb a c)) : R.length ≤ a.length + 1 := by
  obtain ⟨n, hn⟩ := big
  rw [len_en ha (Int.le_refl 0) n hn, len_st hR (Int.le_refl 0) n hn]
  have h1 := cnt_or_le n (en a) (fun c => decide (c = 0))
  rw [cnt_eq n 0 (by omega) (by omega)] at h1
  refine Nat.le_trans (cnt_mono fun c hs => ?_) h1
  unfold st at hs
  rw [hc, hc] at hs
  unfold en
  by_cases g : c = 0
  · rw [decide_eq_true g]; simp
  · rw [decide_eq_false g, Bool.or_false]
    cases h2 : isch c with
    | false => rw [h2] at hs; simp at hs
    | true =>
      have : isch (c - 1) = true := by rw [isch_iff] at h2 ⊢; omega
      rw [h2, this] at hs
      revert hs
      cases covb a c <;> cases covb a (c - 1) <;> simp
end Go.Proofs.Ytmhggapfejlbcaa.M
