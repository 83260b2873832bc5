/- Plain facts on lists of ranges of whole numbers: when a list is least, what it covers, and that what it covers names it; no program stands in this text. -/
namespace Go.Proofs.Ytmhggapfejlbcaa.M

abbrev Rg := Int × Int
def inR (r : Rg) (c : Int) : Bool := decide (r.1 ≤ c) && decide (c ≤ r.2)
def covb : List Rg → Int → Bool
  | [], _ => false
  | r :: t, c => inR r c || covb t c
def isch (c : Int) : Bool := decide (0 ≤ c) && decide (c ≤ 1114111)
def hasB (l : List Rg) (c : Int) : Bool := decide (l.length ≤ 400) && (isch c && covb l c)
def LF : Int → List Rg → Prop
  | _, [] => True
  | lo, r :: t => lo ≤ r.1 ∧ r.1 ≤ r.2 ∧ r.2 ≤ 1114111 ∧ LF (r.2 + 2) t

theorem inR_iff (r : Rg) (c : Int) : inR r c = true ↔ r.1 ≤ c ∧ c ≤ r.2 := by simp [inR]
theorem inR_not (r : Rg) (c : Int) : inR r c = false ↔ c < r.1 ∨ r.2 < c := by
  rw [← Bool.not_eq_true, inR_iff]; omega
theorem isch_iff (c : Int) : isch c = true ↔ 0 ≤ c ∧ c ≤ 1114111 := by simp [isch]
theorem covb_append (a b : List Rg) (c : Int) : covb (a ++ b) c = (covb a c || covb b c) := by
  induction a with
  | nil => simp [covb]
  | cons r t ih => simp [covb, ih, Bool.or_assoc]
theorem covb_perm {a b : List Rg} (h : a.Perm b) (c : Int) : covb a c = covb b c := by
  induction h with
  | nil => rfl
  | cons x _ ih => simp [covb, ih]
  | swap x y l => simp only [covb]; rw [← Bool.or_assoc, ← Bool.or_assoc, Bool.or_comm (inR y c)]
  | trans _ _ h1 h2 => rw [h1, h2]
theorem covb_iff (l : List Rg) (c : Int) : covb l c = true ↔ ∃ r ∈ l, r.1 ≤ c ∧ c ≤ r.2 := by
  induction l with
  | nil => simp [covb]
  | cons r t ih => simp [covb, ih, inR_iff]

theorem LF_mono {lo lo' : Int} {L : List Rg} (h : LF lo L) (hl : lo' ≤ lo) : LF lo' L := by
  cases L with
  | nil => trivial
  | cons r t => exact ⟨by have := h.1; omega, h.2⟩
theorem LF_cov {lo : Int} {L : List Rg} (h : LF lo L) {c : Int} (hc : covb L c = true) : lo ≤ c ∧ c ≤ 1114111 := by
  induction L generalizing lo with
  | nil => simp [covb] at hc
  | cons r t ih =>
    obtain ⟨h1, h2, h3, h4⟩ := h
    simp only [covb, Bool.or_eq_true, inR_iff] at hc
    rcases hc with hc | hc
    · omega
    · have := ih h4 hc; omega
theorem LF_low {lo : Int} {L : List Rg} (h : LF lo L) {c : Int} (hc : c < lo) : covb L c = false := by
  rw [← Bool.not_eq_true]; intro h'; have := LF_cov h h'; omega
theorem LF_high {lo : Int} {L : List Rg} (h : LF lo L) {c : Int} (hc : 1114111 < c) : covb L c = false := by
  rw [← Bool.not_eq_true]; intro h'; have := LF_cov h h'; omega
theorem LF_isch {lo : Int} {L : List Rg} (h : LF lo L) (h0 : 0 ≤ lo) (c : Int) : covb L c = (isch c && covb L c) := by
  cases hc : covb L c with
  | false => simp
  | true => have := LF_cov h hc; simp [isch]; omega
theorem LF_head {lo : Int} {r : Rg} {t : List Rg} (h : LF lo (r :: t)) : covb (r :: t) r.1 = true := by
  simp only [covb, Bool.or_eq_true, inR_iff]; left; have := h.2.1; omega

/-- What a least list covers names it. -/
theorem LF_ext {lo lo' : Int} {L M : List Rg} (hL : LF lo L) (hM : LF lo' M) (h : ∀ c, covb L c = covb M c) : L = M := by
  induction L generalizing M lo lo' with
  | nil =>
    cases M with
    | nil => rfl
    | cons s u => have := h s.1; rw [LF_head hM] at this; simp [covb] at this
  | cons r t ih =>
    cases M with
    | nil => have := h r.1; rw [LF_head hL] at this; simp [covb] at this
    | cons s u =>
      obtain ⟨l1, l2, l3, l4⟩ := hL
      obtain ⟨m1, m2, m3, m4⟩ := hM
      have e1 : r.1 = s.1 := by
        have a1 : covb (s :: u) r.1 = true := by rw [← h]; simp only [covb, Bool.or_eq_true, inR_iff]; left; omega
        have a2 : covb (r :: t) s.1 = true := by rw [h]; simp only [covb, Bool.or_eq_true, inR_iff]; left; omega
        simp only [covb, Bool.or_eq_true, inR_iff] at a1 a2
        rcases a1 with a1 | a1
        · rcases a2 with a2 | a2
          · omega
          · have := LF_cov l4 a2; omega
        · have := LF_cov m4 a1
          rcases a2 with a2 | a2
          · omega
          · have := LF_cov l4 a2; omega
      have e2 : r.2 = s.2 := by
        rcases Int.lt_trichotomy r.2 s.2 with g | g | g
        · have a1 : covb (r :: t) (r.2 + 1) = true := by rw [h]; simp only [covb, Bool.or_eq_true, inR_iff]; left; omega
          simp only [covb, Bool.or_eq_true, inR_iff] at a1
          rcases a1 with a1 | a1
          · omega
          · have := LF_cov l4 a1; omega
        · exact g
        · have a1 : covb (s :: u) (s.2 + 1) = true := by rw [← h]; simp only [covb, Bool.or_eq_true, inR_iff]; left; omega
          simp only [covb, Bool.or_eq_true, inR_iff] at a1
          rcases a1 with a1 | a1
          · omega
          · have := LF_cov m4 a1; omega
      have e : r = s := Prod.ext e1 e2
      subst e
      congr 1
      refine ih l4 m4 fun c => ?_
      have hc := h c
      simp only [covb] at hc
      by_cases g : c ≤ r.2
      · rw [LF_low l4 (by omega), LF_low m4 (by omega)]
      · have : inR r c = false := by rw [inR_not]; omega
        simpa [this] using hc

/-- Where a least list may go on. -/
def endOf : Int → List Rg → Int
  | lo, [] => lo
  | _, r :: t => endOf (r.2 + 2) t
theorem LF_append (lo : Int) (L M : List Rg) : LF lo (L ++ M) ↔ LF lo L ∧ LF (endOf lo L) M := by
  induction L generalizing lo with
  | nil => simp [LF, endOf]
  | cons r t ih => simp only [List.cons_append, LF, endOf, ih, and_assoc]
theorem endOf_append (lo : Int) (L : List Rg) (r : Rg) : endOf lo (L ++ [r]) = r.2 + 2 := by
  induction L generalizing lo with
  | nil => rfl
  | cons s t ih => simp only [List.cons_append, endOf, ih]

/-- A least list and a range behind it, that may touch its last one or lie within it. -/
def joinL (L : List Rg) (r : Rg) : List Rg :=
  match L.getLast? with
  | some s => if r.1 ≤ s.2 + 1 then L.dropLast ++ [(s.1, max s.2 r.2)] else L ++ [r]
  | none => [r]
theorem joinL_nil (r : Rg) : joinL [] r = [r] := rfl
theorem joinL_snoc (I : List Rg) (s r : Rg) : joinL (I ++ [s]) r = if r.1 ≤ s.2 + 1 then I ++ [(s.1, max s.2 r.2)] else I ++ [s] ++ [r] := by
  simp [joinL]
theorem joinL_len (L : List Rg) (r : Rg) : (joinL L r).length ≤ L.length + 1 ∧ 1 ≤ (joinL L r).length := by
  rcases List.eq_nil_or_concat L with rfl | ⟨I, s, rfl⟩
  · simp [joinL_nil]
  · rw [List.concat_eq_append, joinL_snoc]; split <;> simp
/-- Every range of a list begins at most at a number. -/
def lowsLe (L : List Rg) (x : Int) : Prop := ∀ s, L.getLast? = some s → s.1 ≤ x
theorem joinL_ok {L : List Rg} {r : Rg} (hL : LF 0 L) (hlow : lowsLe L r.1) (h0 : 0 ≤ r.1) (h1 : r.1 ≤ r.2) (h2 : r.2 ≤ 1114111) :
    LF 0 (joinL L r) ∧ (∀ c, covb (joinL L r) c = (covb L c || inR r c)) ∧ lowsLe (joinL L r) r.1 := by
  rcases List.eq_nil_or_concat L with rfl | ⟨I, s, rfl⟩
  · rw [joinL_nil]; exact ⟨⟨h0, h1, h2, trivial⟩, fun c => by simp [covb], fun s hs => by simp at hs; subst hs; omega⟩
  · rw [List.concat_eq_append] at *
    have hs : s.1 ≤ r.1 := hlow s (by simp)
    obtain ⟨hI, hs1, hs2, hs3, _⟩ := (LF_append 0 I [s]).1 hL
    rw [joinL_snoc]
    by_cases g : r.1 ≤ s.2 + 1
    · rw [if_pos g]
      refine ⟨(LF_append 0 I _).2 ⟨hI, ⟨hs1, ?_, ?_, trivial⟩⟩, fun c => ?_, fun x hx => ?_⟩
      · show s.1 ≤ max s.2 r.2; omega
      · show max s.2 r.2 ≤ 1114111; omega
      · rw [covb_append, covb_append, Bool.or_assoc]
        congr 1
        rw [Bool.eq_iff_iff]
        simp only [covb, Bool.or_eq_true, inR_iff, Bool.false_eq_true, or_false]
        omega
      · simp at hx; subst hx; exact hs
    · rw [if_neg g]
      refine ⟨(LF_append 0 (I ++ [s]) _).2 ⟨hL, ?_⟩, fun c => ?_, fun x hx => ?_⟩
      · rw [endOf_append]; exact ⟨by omega, h1, h2, trivial⟩
      · rw [covb_append (I ++ [s])]; simp [covb]
      · simp at hx; subst hx; omega

/-- Joined one after another. -/
def joinAll (L M : List Rg) : List Rg := M.foldl joinL L
theorem joinAll_take (M : List Rg) (k : Nat) (h : k < M.length) : joinAll [] (M.take (k + 1)) = joinL (joinAll [] (M.take k)) M[k] := by
  unfold joinAll; rw [List.take_succ_eq_append_getElem h, List.foldl_append]; rfl
theorem joinAll_len (L M : List Rg) : (joinAll L M).length ≤ L.length + M.length := by
  unfold joinAll
  induction M generalizing L with
  | nil => simp
  | cons r t ih => simp only [List.foldl_cons, List.length_cons]; have := ih (joinL L r); have := (joinL_len L r).1; omega
def okR (r : Rg) : Prop := 0 ≤ r.1 ∧ r.1 ≤ r.2 ∧ r.2 ≤ 1114111
theorem joinAll_ok {L M : List Rg} (hL : LF 0 L) (hlow : ∀ r ∈ M, lowsLe L r.1) (hM : ∀ r ∈ M, okR r) (hs : M.Pairwise (fun x y => x.1 ≤ y.1)) :
    LF 0 (joinAll L M) ∧ ∀ c, covb (joinAll L M) c = (covb L c || covb M c) := by
  unfold joinAll
  induction M generalizing L with
  | nil => exact ⟨hL, fun c => by simp [covb]⟩
  | cons r t ih =>
    obtain ⟨r0, r1, r2⟩ := hM r (by simp)
    obtain ⟨j1, j2, j3⟩ := joinL_ok hL (hlow r (by simp)) r0 r1 r2
    rw [List.pairwise_cons] at hs
    obtain ⟨i1, i2⟩ := ih j1 (fun x hx s hs' => by have := j3 s hs'; have := hs.1 x hx; omega) (fun x hx => hM x (by simp [hx])) hs.2
    exact ⟨i1, fun c => by rw [List.foldl_cons, i2, j2]; simp [covb, Bool.or_assoc]⟩

/-- Each range cut to characters; those that have none are dropped. -/
def clipR (r : Rg) : Rg := (max r.1 0, min r.2 1114111)
def clipL (l : List Rg) : List Rg := (l.map clipR).filter fun r => decide (r.1 ≤ r.2)
theorem clipL_ok (l : List Rg) : ∀ r ∈ clipL l, okR r := by
  intro r hr
  simp only [clipL, List.mem_filter, List.mem_map, decide_eq_true_eq] at hr
  obtain ⟨⟨x, _, rfl⟩, h⟩ := hr
  simp only [clipR] at h ⊢
  exact ⟨by omega, h, by show min x.2 1114111 ≤ 1114111; omega⟩
theorem clipL_cov (l : List Rg) (c : Int) : covb (clipL l) c = (isch c && covb l c) := by
  rw [Bool.eq_iff_iff, Bool.and_eq_true, covb_iff, covb_iff, isch_iff]
  simp only [clipL, List.mem_filter, List.mem_map, decide_eq_true_eq]
  constructor
  · rintro ⟨_, ⟨⟨x, hx, rfl⟩, h⟩, h1, h2⟩
    simp only [clipR] at h h1 h2
    exact ⟨by omega, x, hx, by omega⟩
  · rintro ⟨h0, x, hx, h1⟩
    exact ⟨clipR x, ⟨⟨x, hx, rfl⟩, by simp only [clipR]; omega⟩, by simp only [clipR]; omega⟩
theorem clipL_len (l : List Rg) : (clipL l).length ≤ l.length := by
  unfold clipL; exact Nat.le_trans (List.length_filter_le _ _) (by simp)
theorem clipL_snoc (l : List Rg) (r : Rg) : clipL (l ++ [r]) = clipL l ++ if (clipR r).1 ≤ (clipR r).2 then [clipR r] else [] := by
  unfold clipL; rw [List.map_append, List.filter_append]; congr 1
  by_cases h : (clipR r).1 ≤ (clipR r).2 <;> simp [h]
theorem clipL_take (l : List Rg) (k : Nat) (h : k < l.length) : clipL (l.take (k + 1)) = clipL (l.take k) ++ if (clipR l[k]).1 ≤ (clipR l[k]).2 then [clipR l[k]] else [] := by
  rw [List.take_succ_eq_append_getElem h, clipL_snoc]

/-- The least list of a set. -/
def plainL (l : List Rg) : List Rg := if l.length ≤ 400 then joinAll [] ((clipL l).mergeSort fun x y => decide (x.1 ≤ y.1)) else []
theorem sort_pair (M : List Rg) : (M.mergeSort fun x y => decide (x.1 ≤ y.1)).Pairwise fun x y => x.1 ≤ y.1 := by
  have := List.pairwise_mergeSort (le := fun x y : Rg => decide (x.1 ≤ y.1)) (by intro a b c; simp; omega) (by intro a b; simp; omega) M
  exact this.imp (by simp)
/-- What joining gives of any sorted arrangement of the cut ranges. -/
theorem joined_is {l M : List Rg} (hp : M.Perm (clipL l)) (hs : M.Pairwise fun x y => x.1 ≤ y.1) :
    LF 0 (joinAll [] M) ∧ (∀ c, covb (joinAll [] M) c = (isch c && covb l c)) ∧ (joinAll [] M).length ≤ l.length := by
  obtain ⟨h1, h2⟩ := joinAll_ok (L := []) (M := M) trivial (fun _ _ s hs' => by simp at hs') (fun r hr => clipL_ok l r (hp.mem_iff.1 hr)) hs
  refine ⟨h1, fun c => ?_, ?_⟩
  · rw [h2, covb_perm hp, clipL_cov]; simp [covb]
  · have := joinAll_len [] M; have := hp.length_eq; have := clipL_len l; simp at *; omega
theorem plainL_ok (l : List Rg) : LF 0 (plainL l) ∧ (∀ c, covb (plainL l) c = hasB l c) ∧ (plainL l).length ≤ l.length := by
  unfold plainL
  by_cases h : l.length ≤ 400
  · rw [if_pos h]
    obtain ⟨h1, h2, h3⟩ := joined_is (l := l) (List.mergeSort_perm _ _) (sort_pair (clipL l))
    exact ⟨h1, fun c => by rw [h2]; simp [hasB, h], h3⟩
  · rw [if_neg h]; exact ⟨trivial, fun c => by simp [hasB, h, covb], by simp⟩
theorem plainL_of {l M : List Rg} (h : l.length ≤ 400) (hp : M.Perm (clipL l)) (hs : M.Pairwise fun x y => x.1 ≤ y.1) : joinAll [] M = plainL l := by
  obtain ⟨h1, h2, _⟩ := joined_is hp hs
  obtain ⟨p1, p2, _⟩ := plainL_ok l
  exact LF_ext h1 p1 fun c => by rw [h2, p2]; simp [hasB, h]
theorem plainL_is {l R : List Rg} (hR : LF 0 R) (h : ∀ c, covb R c = hasB l c) : plainL l = R := by
  obtain ⟨p1, p2, _⟩ := plainL_ok l
  exact LF_ext p1 hR fun c => by rw [p2, h]
theorem hasB_least {R : List Rg} (hR : LF 0 R) (h : R.length ≤ 400) (c : Int) : hasB R c = covb R c := by
  rw [hasB, decide_eq_true h, Bool.true_and, ← LF_isch hR (by omega)]
theorem hasB_isch (l : List Rg) (c : Int) : hasB l c = (isch c && hasB l c) := by
  cases h : isch c <;> simp [hasB, h]

end Go.Proofs.Ytmhggapfejlbcaa.M
