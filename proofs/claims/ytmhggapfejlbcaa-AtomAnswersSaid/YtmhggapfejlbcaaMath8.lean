/- Plain facts on atoms of sets: what an answer of Of says of them, how long they are, what one set more does, and that the order of sets says nothing; no program stands in this text. -/
import Derived.Test.YtmhggapfejlbcaaMath7
namespace Go.Proofs.Ytmhggapfejlbcaa.M

theorem unlike_le {ls R : List (List Rg)} (h : IsAtoms ls R) {cs : List Int} (h1 : ∀ c ∈ cs, isch c = true) (h2 : cs.Pairwise fun x y => likeB ls x y = false) : cs.length ≤ R.length := by
  have : ∀ (l : List Int), (∀ c ∈ l, isch c = true) → l.Pairwise (fun x y => likeB ls x y = false) → ∃ js : List Nat, js.length = l.length ∧ js.Nodup ∧ (∀ j ∈ js, j < R.length) ∧ ∀ j ∈ js, ∃ c ∈ l, ∃ a, R[j]? = some a ∧ covb a c = true := by
    intro l
    induction l with
    | nil => exact fun _ _ => ⟨[], rfl, List.nodup_nil, by simp, by simp⟩
    | cons c t ih =>
      intro hs hp
      rw [List.pairwise_cons] at hp
      obtain ⟨js, j1, j2, j3, j4⟩ := ih (fun x hx => hs x (by simp [hx])) hp.2
      obtain ⟨a, ha, hac⟩ := h.all c (hs c (by simp))
      obtain ⟨i, hi⟩ := List.getElem?_of_mem ha
      refine ⟨i :: js, by simp [j1], List.nodup_cons.2 ⟨fun hm => ?_, j2⟩, fun j hj => ?_, fun j hj => ?_⟩
      · obtain ⟨d, hd, b, hb, hbd⟩ := j4 i hm
        rw [hi] at hb; injection hb with hb; subst hb
        have := h.like a ha c d hac hbd
        rw [hp.1 d hd] at this; cases this
      · rcases List.mem_cons.1 hj with rfl | hj
        · exact (List.getElem?_eq_some_iff.1 hi).1
        · exact j3 j hj
      · rcases List.mem_cons.1 hj with rfl | hj
        · exact ⟨c, by simp, a, hi, hac⟩
        · obtain ⟨d, hd, x⟩ := j4 j hj
          exact ⟨d, by simp [hd], x⟩
  obtain ⟨js, j1, j2, j3, _⟩ := this cs h1 h2
  have := nodup_bound R.length js j2 j3
  omega
theorem IsAtoms.low_isch {ls R : List (List Rg)} (h : IsAtoms ls R) {a : List Rg} (ha : a ∈ R) : isch (low a) = true ∧ covb a (low a) = true := by
  obtain ⟨h1, h2⟩ := h.least a ha
  have hc := low_cov h1 h2
  have := LF_cov h1 hc
  exact ⟨by rw [isch_iff]; omega, hc⟩
theorem IsAtoms.lows_apart {ls R : List (List Rg)} (h : IsAtoms ls R) : (R.map low).Pairwise fun x y => likeB ls x y = false := by
  rw [List.pairwise_map]
  refine h.rise.imp_of_mem fun {a b} ha hb hab => ?_
  rw [← Bool.not_eq_true]
  intro hl
  have := h.same a ha b hb _ _ (h.low_isch ha).2 (h.low_isch hb).2 hl
  rw [this] at hab; omega
theorem atoms_few {ls R : List (List Rg)} (h : IsAtoms ls R) (hn : ¬ TooMany ls) : R.length ≤ 200 := by
  rcases Nat.lt_or_ge 200 R.length with g | g
  · refine absurd ⟨(R.map low).take 201, by simp; omega, fun c hc => ?_, h.lows_apart.sublist (List.take_sublist _ _)⟩ hn
    obtain ⟨a, ha, rfl⟩ := List.mem_map.1 (List.mem_of_mem_take hc)
    exact (h.low_isch ha).1
  · exact g
/-- What an answer says. -/
structure Got (ls R : List (List Rg)) : Prop where
  sets : ls.length ≤ 60
  short : ∀ l ∈ ls, l.length ≤ 400
  atoms : IsAtoms ls R
  few : R.length ≤ 200
  narrow : ∀ a ∈ R, a.length ≤ 400
theorem spec_got {ls R : List (List Rg)} (h : OfSpec ls (some R)) : Got ls R := by
  obtain ⟨h1, h2, h3, h4⟩ := h
  have k1 : ls.length ≤ 60 := by
    rcases Nat.lt_or_ge 60 ls.length with g | g
    · cases h1 g
    · exact g
  have k2 : ∀ l ∈ ls, l.length ≤ 400 := fun l hl => by
    rcases Nat.lt_or_ge 400 l.length with g | g
    · cases h2 ⟨l, hl, g⟩
    · exact g
  have k3 : ¬ TooMany ls := fun g => by cases h3 g
  obtain ⟨R', hR, q1, q2⟩ := h4 k1 k2 k3
  have k4 : ∀ a ∈ R', a.length ≤ 400 := fun l hl => by
    rcases Nat.lt_or_ge 400 l.length with g | g
    · cases q1 ⟨l, hl, g⟩
    · exact g
  have e := q2 k4
  injection e with e
  subst e
  exact ⟨k1, k2, hR, atoms_few hR k3, k4⟩
theorem spec_miss {ls : List (List Rg)} (h : OfSpec ls none) (h1 : ls.length ≤ 60) (h2 : ∀ l ∈ ls, l.length ≤ 400) (h3 : ∀ R, IsAtoms ls R → ∀ a ∈ R, a.length ≤ 400) : TooMany ls := by
  rcases Classical.em (TooMany ls) with g | g
  · exact g
  · obtain ⟨R, hR, _, q2⟩ := h.2.2.2 h1 h2 g
    cases q2 (h3 R hR)
/-! ### how long an atom is -/
theorem flip_edge : ∀ {L : List Rg} {lo : Int}, LF lo L → ∀ c : Int, covb L (c - 1) ≠ covb L c → ∃ r ∈ L, c = r.1 ∨ c = r.2 + 1
  | [], _, _, c, h => absurd rfl h
  | r :: t, lo, h, c, hc => by
    obtain ⟨h1, h2, h3, h4⟩ := h
    by_cases g1 : c = r.1
    · exact ⟨r, by simp, .inl g1⟩
    · by_cases g2 : c = r.2 + 1
      · exact ⟨r, by simp, .inr g2⟩
      · have e : inR r (c - 1) = inR r c := by
          rw [Bool.eq_iff_iff, inR_iff, inR_iff]; omega
        obtain ⟨x, hx, h⟩ := flip_edge h4 c (fun e2 => hc (by simp [covb, e, e2]))
        exact ⟨x, by simp [hx], h⟩
theorem nodup_sub {α : Type} [DecidableEq α] : ∀ {l m : List α}, l.Nodup → (∀ x ∈ l, x ∈ m) → l.length ≤ m.length
  | [], m, _, _ => Nat.zero_le _
  | x :: t, m, hn, hs => by
    rw [List.nodup_cons] at hn
    have hx := hs x (by simp)
    have h1 := nodup_sub (l := t) (m := m.erase x) hn.2 fun y hy => by
      have hne : y ≠ x := fun e => hn.1 (e ▸ hy)
      exact (List.mem_erase_of_ne hne).2 (hs y (by simp [hy]))
    rw [List.length_erase_of_mem hx] at h1
    have := List.length_pos_of_mem hx
    simp; omega
/-- The places between the ranges of a least list. -/
def inner : List Rg → List Int
  | [] => []
  | [_] => []
  | r :: s :: t => (r.2 + 1) :: s.1 :: inner (s :: t)
theorem inner_len : ∀ (L : List Rg), L ≠ [] → (inner L).length + 2 = 2 * L.length
  | [], h => absurd rfl h
  | [_], _ => rfl
  | r :: s :: t, _ => by have := inner_len (s :: t) (by simp); simp [inner] at *; omega
theorem inner_ok : ∀ {L : List Rg} {lo : Int}, LF lo L → (inner L).Pairwise (fun x y => x < y) ∧ (∀ x ∈ inner L, lo < x ∧ x ≤ 1114111 ∧ covb L (x - 1) ≠ covb L x)
  | [], _, _ => ⟨List.Pairwise.nil, by simp [inner]⟩
  | [_], _, _ => ⟨List.Pairwise.nil, by simp [inner]⟩
  | r :: s :: t, lo, h => by
    obtain ⟨h1, h2, h3, h4⟩ := h
    obtain ⟨i1, i2⟩ := inner_ok (L := s :: t) (lo := s.1) ⟨Int.le_refl _, h4.2⟩
    have hs1 := h4.1
    have hs2 := h4.2.1
    have hs3 := h4.2.2.1
    have hc := edge_flip (L := r :: s :: t) (lo := lo) ⟨h1, h2, h3, h4⟩
    refine ⟨?_, fun x hx => ?_⟩
    · simp only [inner, List.pairwise_cons, List.mem_cons]
      refine ⟨?_, ?_, i1⟩
      · rintro y (rfl | hy)
        · omega
        · have := (i2 y hy).1; omega
      · intro y hy
        exact (i2 y hy).1
    · simp only [inner, List.mem_cons] at hx
      rcases hx with rfl | rfl | hx
      · exact ⟨by omega, by omega, hc r (by simp) _ (.inr rfl)⟩
      · exact ⟨by omega, by omega, hc s (by simp) _ (.inl rfl)⟩
      · obtain ⟨a1, a2, a3⟩ := i2 x hx
        refine ⟨by omega, a2, ?_⟩
        have e1 : inR r (x - 1) = false := by rw [inR_not]; omega
        have e2 : inR r x = false := by rw [inR_not]; omega
        have g1 : covb (r :: s :: t) (x - 1) = covb (s :: t) (x - 1) := by show (inR r (x - 1) || covb (s :: t) (x - 1)) = _; rw [e1]; rfl
        have g2 : covb (r :: s :: t) x = covb (s :: t) x := by show (inR r x || covb (s :: t) x) = _; rw [e2]; rfl
        rw [g1, g2]; exact a3
def places (ls : List (List Rg)) : List Int := ls.flatMap fun l => (plainL l).flatMap fun r => [r.1, r.2 + 1]
theorem places_len : ∀ (ls : List (List Rg)), (places ls).length ≤ 2 * (ls.map List.length).sum
  | [] => by simp [places]
  | l :: t => by
    have ih := places_len t
    have h1 := (plainL_ok l).2.2
    have h2 : ∀ L : List Rg, (L.flatMap fun r => [r.1, r.2 + 1]).length = 2 * L.length := fun L => by
      induction L with
      | nil => rfl
      | cons r u ih => simp only [List.flatMap_cons, List.length_append, List.length_cons, List.length_nil, ih]; omega
    simp only [places, List.flatMap_cons, List.length_append, h2, List.map_cons, List.sum_cons]
    simp only [places] at ih
    omega
theorem tells_place {ls : List (List Rg)} {c : Int} (h : likeB ls (c - 1) c = false) : c ∈ places ls := by
  unfold likeB at h
  rw [List.all_eq_false] at h
  obtain ⟨l, hl, hn⟩ := h
  obtain ⟨p1, p2, _⟩ := plainL_ok l
  obtain ⟨r, hr, hc⟩ := flip_edge p1 c (by rw [p2, p2]; intro e; rw [e] at hn; simp at hn)
  unfold places
  rw [List.mem_flatMap]
  refine ⟨l, hl, List.mem_flatMap.2 ⟨r, hr, ?_⟩⟩
  rcases hc with rfl | rfl <;> simp
theorem IsAtoms.flip {ls R : List (List Rg)} (h : IsAtoms ls R) {a : List Rg} (ha : a ∈ R) {c : Int} (h0 : 0 < c) (h1 : c ≤ 1114111) (hc : covb a (c - 1) ≠ covb a c) : likeB ls (c - 1) c = false := by
  rw [← Bool.not_eq_true]
  intro hl
  apply hc
  have i1 : isch (c - 1) = true := by rw [isch_iff]; omega
  have i2 : isch c = true := by rw [isch_iff]; omega
  rw [Bool.eq_iff_iff]
  constructor
  · intro h2
    obtain ⟨b, hb, hbc⟩ := h.all c i2
    rw [h.same a ha b hb _ _ h2 hbc hl]; exact hbc
  · intro h2
    obtain ⟨b, hb, hbc⟩ := h.all (c - 1) i1
    rw [h.same a ha b hb _ _ h2 hbc (like_symm hl)]; exact hbc
/-- An atom has at most one range more than all sets together. -/
theorem atom_len {ls R : List (List Rg)} (h : IsAtoms ls R) {a : List Rg} (ha : a ∈ R) : a.length ≤ (ls.map List.length).sum + 1 := by
  obtain ⟨h1, h2⟩ := h.least a ha
  obtain ⟨i1, i2⟩ := inner_ok h1
  have hn : (inner a).Nodup := by
    rw [List.nodup_iff_pairwise_ne]
    exact i1.imp fun hxy e => by omega
  have := nodup_sub hn (m := places ls) fun x hx => by
    obtain ⟨x1, x2, x3⟩ := i2 x hx
    exact tells_place (h.flip ha x1 x2 x3)
  have h3 := inner_len a h2
  have h4 := places_len ls
  omega
/-! ### one set more -/
theorem like_more {ls : List (List Rg)} {m : List Rg} (x y : Int) : likeB (ls ++ [m]) x y = (likeB ls x y && (hasB m x == hasB m y)) := by simp [likeB]
theorem many_more {ls : List (List Rg)} {m : List Rg} (h : TooMany ls) : TooMany (ls ++ [m]) := by
  obtain ⟨cs, h1, h2, h3⟩ := h
  exact ⟨cs, h1, h2, h3.imp fun {x y} hxy => by rw [like_more, hxy]; rfl⟩
/-- An atom of more sets lies in one. -/
theorem more_within {ls R R' : List (List Rg)} {m : List Rg} (h : IsAtoms ls R) (h' : IsAtoms (ls ++ [m]) R') {b : List Rg} (hb : b ∈ R') : ∃ a ∈ R, covb a (low b) = true ∧ ∀ c, covb b c = true → covb a c = true := by
  obtain ⟨a, ha, hac⟩ := h.all _ (h'.low_isch hb).1
  refine ⟨a, ha, hac, fun c hc => ?_⟩
  have hic : isch c = true := by rw [isch_iff]; have := LF_cov (h'.least b hb).1 hc; omega
  obtain ⟨a', ha', hac'⟩ := h.all c hic
  have hl := h'.like b hb _ _ (h'.low_isch hb).2 hc
  rw [like_more, Bool.and_eq_true] at hl
  rw [h.same a ha a' ha' _ _ hac hac' hl.1]; exact hac'
theorem more_ge {ls R R' : List (List Rg)} {m : List Rg} (h : IsAtoms ls R) (h' : IsAtoms (ls ++ [m]) R') : R.length ≤ R'.length := by
  have := unlike_le h' (cs := R.map low) (fun c hc => by obtain ⟨a, ha, rfl⟩ := List.mem_map.1 hc; exact (h.low_isch ha).1) (h.lows_apart.imp fun {x y} hxy => by rw [like_more, hxy]; rfl)
  simpa using this
theorem more_le {ls R R' : List (List Rg)} {m : List Rg} (h : IsAtoms ls R) (h' : IsAtoms (ls ++ [m]) R') : R'.length ≤ 2 * R.length := by
  have hidx : ∀ b ∈ R', ∃ i, i < R.length ∧ ∃ a, R[i]? = some a ∧ covb a (low b) = true := fun b hb => by
    obtain ⟨a, ha, hac, _⟩ := more_within h h' hb
    obtain ⟨i, hi⟩ := List.getElem?_of_mem ha
    exact ⟨i, (List.getElem?_eq_some_iff.1 hi).1, a, hi, hac⟩
  have : ∀ (l : List (List Rg)), (∀ b ∈ l, b ∈ R') → l.Pairwise (fun a b => low a < low b) → ∃ js : List Nat, js.length = l.length ∧ js.Nodup ∧ (∀ j ∈ js, j < 2 * R.length) ∧ ∀ j ∈ js, ∃ b ∈ l, ∃ a, R[j / 2]? = some a ∧ covb a (low b) = true ∧ (hasB m (low b) = true ↔ j % 2 = 1) := by
    intro l
    induction l with
    | nil => exact fun _ _ => ⟨[], rfl, List.nodup_nil, by simp, by simp⟩
    | cons b t ih =>
      intro hs hp
      rw [List.pairwise_cons] at hp
      obtain ⟨js, j1, j2, j3, j4⟩ := ih (fun x hx => hs x (by simp [hx])) hp.2
      obtain ⟨i, hi, a, hia, hac⟩ := hidx b (hs b (by simp))
      have hk : ∃ k, k < 2 * R.length ∧ k / 2 = i ∧ (hasB m (low b) = true ↔ k % 2 = 1) := by
        cases hm : hasB m (low b) with
        | true => exact ⟨2 * i + 1, by omega, by omega, by simp⟩
        | false => exact ⟨2 * i, by omega, by omega, by simp⟩
      obtain ⟨k, k1, k2, k3⟩ := hk
      refine ⟨k :: js, by simp [j1], List.nodup_cons.2 ⟨fun hmem => ?_, j2⟩, fun j hj => ?_, fun j hj => ?_⟩
      · obtain ⟨d, hd, a', ha', hac', hmd⟩ := j4 k hmem
        rw [k2, hia] at ha'; injection ha' with ha'; subst ha'
        have e1 : hasB m (low b) = hasB m (low d) := by rw [Bool.eq_iff_iff, k3, hmd]
        have hl : likeB (ls ++ [m]) (low b) (low d) = true := by
          rw [like_more, h.like a (List.mem_of_getElem? hia) _ _ hac hac', e1]; simp
        have := h'.same b (hs b (by simp)) d (hs d (by simp [hd])) _ _ (h'.low_isch (hs b (by simp))).2 (h'.low_isch (hs d (by simp [hd]))).2 hl
        have h2 := hp.1 d hd
        rw [this] at h2; omega
      · rcases List.mem_cons.1 hj with rfl | hj
        · exact k1
        · exact j3 j hj
      · rcases List.mem_cons.1 hj with rfl | hj
        · exact ⟨b, by simp, a, by rw [k2]; exact hia, hac, k3⟩
        · obtain ⟨d, hd, x⟩ := j4 j hj
          exact ⟨d, by simp [hd], x⟩
  obtain ⟨js, j1, j2, j3, _⟩ := this R' (fun b hb => hb) h'.rise
  have := nodup_bound (2 * R.length) js j2 j3
  omega
/-! ### the same parting -/
def SameParting (ls ls' : List (List Rg)) : Prop := ∀ x y, isch x = true → isch y = true → likeB ls x y = likeB ls' x y
theorem SameParting.symm {ls ls' : List (List Rg)} (h : SameParting ls ls') : SameParting ls' ls := fun x y hx hy => (h x y hx hy).symm
theorem IsAtoms.turn {ls ls' R : List (List Rg)} (h : IsAtoms ls R) (hs : SameParting ls ls') : IsAtoms ls' R := by
  have hi : ∀ a ∈ R, ∀ c, covb a c = true → isch c = true := fun a ha c hc => by rw [isch_iff]; have := LF_cov (h.least a ha).1 hc; omega
  refine ⟨h.least, h.all, fun a ha b hb c d hc hd hl => h.same a ha b hb c d hc hd ?_, fun a ha c d hc hd => ?_, h.rise⟩
  · rw [hs c d (hi a ha c hc) (hi b hb d hd)]; exact hl
  · rw [← hs c d (hi a ha c hc) (hi a ha d hd)]; exact h.like a ha c d hc hd
theorem many_turn {ls ls' : List (List Rg)} (h : TooMany ls) (hs : SameParting ls ls') : TooMany ls' := by
  obtain ⟨cs, h1, h2, h3⟩ := h
  exact ⟨cs, h1, h2, h3.imp_of_mem fun {x y} hx hy hxy => by rw [← hs x y (h2 x hx) (h2 y hy)]; exact hxy⟩
theorem spec_turn {ls ls' : List (List Rg)} {r r' : Option (List (List Rg))} (h : OfSpec ls r) (h' : OfSpec ls' r') (hs : SameParting ls ls') (h1 : ls.length ≤ 60) (h2 : ∀ l ∈ ls, l.length ≤ 400) (h3 : ls'.length ≤ 60) (h4 : ∀ l ∈ ls', l.length ≤ 400) : r = r' := by
  refine h.ext ?_
  refine ⟨fun g => by omega, fun ⟨l, hl, g⟩ => by have := h2 l hl; omega, fun g => h'.2.2.1 (many_turn g hs), fun _ _ hn => ?_⟩
  obtain ⟨R, hR, q1, q2⟩ := h'.2.2.2 h3 h4 fun g => hn (many_turn g hs.symm)
  exact ⟨R, hR.turn hs.symm, q1, q2⟩
end Go.Proofs.Ytmhggapfejlbcaa.M
