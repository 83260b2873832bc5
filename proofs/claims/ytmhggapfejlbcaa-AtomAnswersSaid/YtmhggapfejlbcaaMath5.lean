/- Plain facts on atoms: characters that no set tells apart, parted into least lists in the order of their least ones; there is one such list alone; no program stands in this text. -/
import Derived.Test.YtmhggapfejlbcaaMath4
namespace Go.Proofs.Ytmhggapfejlbcaa.M

/-- Are two characters not told apart? -/
def likeB (ls : List (List Rg)) (x y : Int) : Bool := ls.all fun l => hasB l x == hasB l y
theorem like_iff (ls : List (List Rg)) (x y : Int) : likeB ls x y = true ↔ ∀ l ∈ ls, hasB l x = hasB l y := by simp [likeB]
theorem like_refl (ls : List (List Rg)) (x : Int) : likeB ls x x = true := by simp [like_iff]
theorem like_symm {ls : List (List Rg)} {x y : Int} (h : likeB ls x y = true) : likeB ls y x = true := by
  rw [like_iff] at *; exact fun l hl => (h l hl).symm
theorem like_trans {ls : List (List Rg)} {x y z : Int} (h : likeB ls x y = true) (h' : likeB ls y z = true) : likeB ls x z = true := by
  rw [like_iff] at *; exact fun l hl => (h l hl).trans (h' l hl)

/-- The least character of a list that is not empty. -/
def low (a : List Rg) : Int := match a with | [] => -1 | r :: _ => r.1
structure IsAtoms (ls : List (List Rg)) (R : List (List Rg)) : Prop where
  least : ∀ a ∈ R, LF 0 a ∧ a ≠ []
  all : ∀ c, isch c = true → ∃ a ∈ R, covb a c = true
  same : ∀ a ∈ R, ∀ b ∈ R, ∀ c d, covb a c = true → covb b d = true → likeB ls c d = true → a = b
  like : ∀ a ∈ R, ∀ c d, covb a c = true → covb a d = true → likeB ls c d = true
  rise : R.Pairwise fun a b => low a < low b

theorem low_cov {a : List Rg} (h : LF 0 a) (hn : a ≠ []) : covb a (low a) = true := by
  cases a with
  | nil => exact absurd rfl hn
  | cons r t => exact LF_head h
theorem sorted_ext {α : Type} (key : α → Int) : ∀ {L M : List α}, L.Pairwise (fun x y => key x < key y) → M.Pairwise (fun x y => key x < key y) → (∀ x, x ∈ L ↔ x ∈ M) → L = M
  | [], [], _, _, _ => rfl
  | [], y :: u, _, _, h => absurd ((h y).2 (by simp)) (by simp)
  | x :: t, [], _, _, h => absurd ((h x).1 (by simp)) (by simp)
  | x :: t, y :: u, hL, hM, h => by
    rw [List.pairwise_cons] at hL hM
    have e : x = y := by
      rcases List.mem_cons.1 ((h x).1 (by simp)) with e | hx
      · exact e
      · rcases List.mem_cons.1 ((h y).2 (by simp)) with e | hy
        · exact e.symm
        · have := hL.1 y hy; have := hM.1 x hx; omega
    subst e
    congr 1
    refine sorted_ext key hL.2 hM.2 fun z => ?_
    constructor
    · intro hz
      rcases List.mem_cons.1 ((h z).1 (by simp [hz])) with e | hz'
      · subst e; have := hL.1 z hz; omega
      · exact hz'
    · intro hz
      rcases List.mem_cons.1 ((h z).2 (by simp [hz])) with e | hz'
      · subst e; have := hM.1 z hz; omega
      · exact hz'
theorem atoms_sub {ls R R' : List (List Rg)} (h : IsAtoms ls R) (h' : IsAtoms ls R') : ∀ a ∈ R, a ∈ R' := by
  intro a ha
  obtain ⟨hL, hn⟩ := h.least a ha
  have hc := low_cov hL hn
  have hi : isch (low a) = true := by rw [isch_iff]; have := LF_cov hL hc; omega
  obtain ⟨b, hb, hbc⟩ := h'.all _ hi
  have hbL := (h'.least b hb).1
  have e : a = b := by
    refine LF_ext hL hbL fun d => ?_
    rw [Bool.eq_iff_iff]
    constructor
    · intro hd
      have hid : isch d = true := by rw [isch_iff]; have := LF_cov hL hd; omega
      obtain ⟨b', hb', hbd⟩ := h'.all d hid
      have : b = b' := h'.same b hb b' hb' _ _ hbc hbd (h.like a ha _ _ hc hd)
      rw [this]; exact hbd
    · intro hd
      have hid : isch d = true := by rw [isch_iff]; have := LF_cov hbL hd; omega
      obtain ⟨a', ha', had⟩ := h.all d hid
      have : a = a' := h.same a ha a' ha' _ _ hc had (h'.like b hb _ _ hbc hd)
      rw [this]; exact had
  rw [e]; exact hb
/-- There is one list of atoms alone. -/
theorem atoms_ext {ls R R' : List (List Rg)} (h : IsAtoms ls R) (h' : IsAtoms ls R') : R = R' :=
  sorted_ext low h.rise h'.rise fun a => ⟨atoms_sub h h' a, atoms_sub h' h a⟩

/-- There are more than 200 that are told apart, each from each. -/
def TooMany (ls : List (List Rg)) : Prop := ∃ cs : List Int, cs.length = 201 ∧ (∀ c ∈ cs, isch c = true) ∧ cs.Pairwise fun x y => likeB ls x y = false
theorem nodup_bound (n : Nat) : ∀ (l : List Nat), l.Nodup → (∀ x ∈ l, x < n) → l.length ≤ n := by
  induction n with
  | zero =>
    intro l _ h
    cases l with
    | nil => simp
    | cons x t => exact absurd (h x (by simp)) (by omega)
  | succ n ih =>
    intro l hn h
    by_cases hm : n ∈ l
    · have h1 := ih (l.erase n) (hn.erase n) fun x hx => by
        have h2 := (hn.mem_erase_iff).1 hx
        have := h x h2.2
        have := h2.1
        omega
      rw [List.length_erase_of_mem hm] at h1
      omega
    · have := ih l hn fun x hx => by
        have h1 := h x hx
        have : x ≠ n := fun e => hm (e ▸ hx)
        omega
      omega
theorem few_atoms {ls R : List (List Rg)} (h : IsAtoms ls R) (hl : R.length ≤ 200) : ¬ TooMany ls := by
  rintro ⟨cs, hc1, hc2, hc3⟩
  have hidx : ∀ c ∈ cs, ∃ i, i < R.length ∧ ∃ a, R[i]? = some a ∧ covb a c = true := fun c hc => by
    obtain ⟨a, ha, hac⟩ := h.all c (hc2 c hc)
    obtain ⟨i, hi⟩ := List.getElem?_of_mem ha
    exact ⟨i, (List.getElem?_eq_some_iff.1 hi).1, a, hi, hac⟩
  have : ∀ (l : List Int), (∀ c ∈ l, c ∈ cs) → l.Pairwise (fun x y => likeB ls x y = false) → ∃ js : List Nat, js.length = l.length ∧ js.Nodup ∧ (∀ j ∈ js, j < R.length) ∧ ∀ j ∈ js, ∃ c ∈ l, ∃ a, R[j]? = some a ∧ covb a c = true := by
    intro l
    induction l with
    | nil => exact fun _ _ => ⟨[], rfl, List.nodup_nil, by simp, by simp⟩
    | cons c t ih =>
      intro hs hp
      rw [List.pairwise_cons] at hp
      obtain ⟨js, j1, j2, j3, j4⟩ := ih (fun x hx => hs x (by simp [hx])) hp.2
      obtain ⟨i, hi, a, ha, hac⟩ := hidx c (hs c (by simp))
      refine ⟨i :: js, by simp [j1], List.nodup_cons.2 ⟨fun hm => ?_, j2⟩, fun j hj => ?_, fun j hj => ?_⟩
      · obtain ⟨d, hd, b, hb, hbd⟩ := j4 i hm
        rw [ha] at hb; injection hb with hb; subst hb
        have := h.like a (List.mem_of_getElem? ha) c d hac hbd
        rw [hp.1 d hd] at this; cases this
      · rcases List.mem_cons.1 hj with rfl | hj
        · exact hi
        · exact j3 j hj
      · rcases List.mem_cons.1 hj with rfl | hj
        · exact ⟨c, by simp, a, ha, hac⟩
        · obtain ⟨d, hd, x⟩ := j4 j hj
          exact ⟨d, by simp [hd], x⟩
  obtain ⟨js, j1, j2, j3, _⟩ := this cs (fun c hc => hc) hc3
  have := nodup_bound R.length js j2 j3
  omega

/-- What Of is said to answer: none (too many), or the atoms. -/
def OfSpec (ls : List (List Rg)) (res : Option (List (List Rg))) : Prop :=
  (60 < ls.length → res = none) ∧ ((∃ l ∈ ls, 400 < l.length) → res = none) ∧ (TooMany ls → res = none) ∧
  (ls.length ≤ 60 → (∀ l ∈ ls, l.length ≤ 400) → ¬ TooMany ls → ∃ R, IsAtoms ls R ∧ ((∃ a ∈ R, 400 < a.length) → res = none) ∧ ((∀ a ∈ R, a.length ≤ 400) → res = some R))
theorem OfSpec.ext {ls : List (List Rg)} {r r' : Option (List (List Rg))} (h : OfSpec ls r) (h' : OfSpec ls r') : r = r' := by
  obtain ⟨a1, a2, a3, a4⟩ := h
  obtain ⟨b1, b2, b3, b4⟩ := h'
  by_cases c1 : 60 < ls.length
  · rw [a1 c1, b1 c1]
  · by_cases c2 : ∃ l ∈ ls, 400 < l.length
    · rw [a2 c2, b2 c2]
    · by_cases c3 : TooMany ls
      · rw [a3 c3, b3 c3]
      · have c2' : ∀ l ∈ ls, l.length ≤ 400 := fun l hl => by
          rcases Nat.lt_or_ge 400 l.length with g | g
          · exact absurd ⟨l, hl, g⟩ c2
          · exact g
        obtain ⟨R, hR, p1, p2⟩ := a4 (by omega) c2' c3
        obtain ⟨R', hR', q1, q2⟩ := b4 (by omega) c2' c3
        have e := atoms_ext hR hR'
        subst e
        by_cases c4 : ∃ a ∈ R, 400 < a.length
        · rw [p1 c4, q1 c4]
        · have c4' : ∀ a ∈ R, a.length ≤ 400 := fun l hl => by
            rcases Nat.lt_or_ge 400 l.length with g | g
            · exact absurd ⟨l, hl, g⟩ c4
            · exact g
          rw [p2 c4', q2 c4']

/-- The classes of all characters ahead of the place f: each of rising pieces. -/
structure Classes (ls : List (List Rg)) (f : Int) (C : List (List Rg)) : Prop where
  ok : ∀ a ∈ C, a ≠ [] ∧ (∀ r ∈ a, okR r ∧ r.2 < f) ∧ a.Pairwise fun x y => x.2 < y.1
  all : ∀ c, 0 ≤ c → c < f → ∃ a ∈ C, covb a c = true
  like : ∀ a ∈ C, ∀ c, covb a c = true → likeB ls (low a) c = true
  apart : C.Pairwise fun a b => likeB ls (low a) (low b) = false
  rise : C.Pairwise fun a b => low a < low b
theorem Classes.start (ls : List (List Rg)) : Classes ls 0 [] := ⟨by simp, fun c h1 h2 => by omega, by simp, List.Pairwise.nil, List.Pairwise.nil⟩
theorem pieces_low {a : List Rg} {f : Int} (hn : a ≠ []) (ho : ∀ r ∈ a, okR r ∧ r.2 < f) : 0 ≤ low a ∧ low a < f := by
  cases a with
  | nil => exact absurd rfl hn
  | cons r t => have := ho r (by simp); simp only [low]; unfold okR at this; omega
theorem low_append {a : List Rg} (r : Rg) (hn : a ≠ []) : low (a ++ [r]) = low a := by
  cases a with
  | nil => exact absurd rfl hn
  | cons s t => rfl
/-- A piece that is like a class is put behind it. -/
theorem Classes.put {ls : List (List Rg)} {f g : Int} {C : List (List Rg)} (h : Classes ls f C) (h0 : 0 ≤ f) (hg : f < g) (hg2 : g ≤ 1114112) (hl : ∀ c, f ≤ c → c < g → likeB ls f c = true) {k : Nat} {a : List Rg} (hk : C[k]? = some a) (hlk : likeB ls (low a) f = true) :
    Classes ls g (C.set k (a ++ [(f, g - 1)])) := by
  have ha := List.mem_of_getElem? hk
  obtain ⟨hkl, hka⟩ := List.getElem?_eq_some_iff.1 hk
  obtain ⟨hn, ho, hp⟩ := h.ok a ha
  have hlow : low (a ++ [(f, g - 1)]) = low a := low_append _ hn
  have hmem : ∀ b ∈ C.set k (a ++ [(f, g - 1)]), b = a ++ [(f, g - 1)] ∨ b ∈ C := fun b hb => by
    rcases List.mem_or_eq_of_mem_set hb with h | h
    · exact .inr h
    · exact .inl h
  have hlows : (C.set k (a ++ [(f, g - 1)])).map low = C.map low := by
    rw [List.map_set, hlow, ← hka]
    apply List.ext_getElem (by simp)
    intro i h1 h2
    simp only [List.getElem_set, List.getElem_map]
    split
    · rename_i e; subst e; rfl
    · rfl
  refine ⟨fun b hb => ?_, fun c h1 h2 => ?_, fun b hb c hc => ?_, ?_, ?_⟩
  · rcases hmem b hb with rfl | hb
    · refine ⟨by simp, fun r hr => ?_, ?_⟩
      · rcases List.mem_append.1 hr with hr | hr
        · have := ho r hr; exact ⟨this.1, by omega⟩
        · simp at hr; subst hr; exact ⟨⟨h0, by show f ≤ g - 1; omega, by show g - 1 ≤ _; omega⟩, by show g - 1 < g; omega⟩
      · rw [List.pairwise_append]
        exact ⟨hp, List.pairwise_singleton _ _, fun x hx y hy => by simp at hy; subst hy; have := (ho x hx).2; show x.2 < f; omega⟩
    · obtain ⟨b1, b2, b3⟩ := h.ok b hb
      exact ⟨b1, fun r hr => ⟨(b2 r hr).1, by have := (b2 r hr).2; omega⟩, b3⟩
  · by_cases e : c < f
    · obtain ⟨b, hb, hbc⟩ := h.all c h1 e
      obtain ⟨i, hi⟩ := List.getElem?_of_mem hb
      by_cases hik : i = k
      · subst hik
        rw [hk] at hi; injection hi with hi; subst hi
        exact ⟨_, List.mem_set hkl _, by rw [covb_append, hbc]; rfl⟩
      · refine ⟨b, List.mem_of_getElem? (i := i) ?_, hbc⟩
        rw [List.getElem?_set_ne (Ne.symm hik)]; exact hi
    · exact ⟨_, List.mem_set hkl _, by rw [covb_append]; simp [covb, inR]; right; omega⟩
  · rcases hmem b hb with rfl | hb
    · rw [hlow]
      rw [covb_append] at hc
      rcases Bool.or_eq_true_iff.1 hc with hc | hc
      · exact h.like a ha c hc
      · simp only [covb, Bool.or_false, inR_iff] at hc
        exact like_trans hlk (hl c hc.1 (by have : c ≤ g - 1 := hc.2; omega))
    · exact h.like b hb c hc
  · have := h.apart
    rw [← List.pairwise_map (f := low) (R := fun x y => likeB ls x y = false)] at this ⊢
    rw [hlows]; exact this
  · have := h.rise
    rw [← List.pairwise_map (f := low) (R := fun x y : Int => x < y)] at this ⊢
    rw [hlows]; exact this
/-- A piece that is like none is a class of its own. -/
theorem Classes.new {ls : List (List Rg)} {f g : Int} {C : List (List Rg)} (h : Classes ls f C) (h0 : 0 ≤ f) (hg : f < g) (hg2 : g ≤ 1114112) (hl : ∀ c, f ≤ c → c < g → likeB ls f c = true) (hno : ∀ a ∈ C, likeB ls (low a) f = false) :
    Classes ls g (C ++ [[(f, g - 1)]]) := by
  refine ⟨fun b hb => ?_, fun c h1 h2 => ?_, fun b hb c hc => ?_, ?_, ?_⟩
  · rcases List.mem_append.1 hb with hb | hb
    · obtain ⟨b1, b2, b3⟩ := h.ok b hb
      exact ⟨b1, fun r hr => ⟨(b2 r hr).1, by have := (b2 r hr).2; omega⟩, b3⟩
    · simp at hb; subst hb
      exact ⟨by simp, fun r hr => by simp at hr; subst hr; exact ⟨⟨h0, by show f ≤ g - 1; omega, by show g - 1 ≤ _; omega⟩, by show g - 1 < g; omega⟩, List.pairwise_singleton _ _⟩
  · by_cases e : c < f
    · obtain ⟨b, hb, hbc⟩ := h.all c h1 e
      exact ⟨b, by simp [hb], hbc⟩
    · exact ⟨[(f, g - 1)], by simp, by simp [covb, inR]; omega⟩
  · rcases List.mem_append.1 hb with hb | hb
    · exact h.like b hb c hc
    · simp at hb; subst hb
      simp only [covb, Bool.or_false, inR_iff] at hc
      exact hl c hc.1 (by have : c ≤ g - 1 := hc.2; omega)
  · rw [List.pairwise_append]
    exact ⟨h.apart, List.pairwise_singleton _ _, fun a ha b hb => by simp at hb; subst hb; exact hno a ha⟩
  · rw [List.pairwise_append]
    refine ⟨h.rise, List.pairwise_singleton _ _, fun a ha b hb => ?_⟩
    simp at hb; subst hb
    obtain ⟨a1, a2, _⟩ := h.ok a ha
    exact (pieces_low a1 a2).2
/-- Rising pieces, joined where they touch. -/
def wholeL (a : List Rg) : List Rg := joinAll [] a
theorem whole_ok {a : List Rg} {f : Int} (hn : a ≠ []) (ho : ∀ r ∈ a, okR r ∧ r.2 < f) (hp : a.Pairwise fun x y => x.2 < y.1) : LF 0 (wholeL a) ∧ (∀ c, covb (wholeL a) c = covb a c) ∧ wholeL a ≠ [] ∧ low (wholeL a) = low a := by
  obtain ⟨h1, h2⟩ := joinAll_ok (L := []) (M := a) trivial (fun _ _ s hs => by simp at hs) (fun r hr => (ho r hr).1) (hp.imp_of_mem fun {x y} hx hy h => by have := (ho x hx).1; unfold okR at this; omega)
  have hc : ∀ c, covb (wholeL a) c = covb a c := fun c => by unfold wholeL; rw [h2]; simp [covb]
  cases a with
  | nil => exact absurd rfl hn
  | cons r t =>
    have hr := (ho r (by simp)).1
    have hr1 : covb (r :: t) r.1 = true := by simp only [covb, Bool.or_eq_true, inR_iff]; left; unfold okR at hr; omega
    have hne : wholeL (r :: t) ≠ [] := fun e => by have := hc r.1; rw [e, hr1] at this; simp [covb] at this
    refine ⟨h1, hc, hne, ?_⟩
    have hlc : covb (wholeL (r :: t)) (low (wholeL (r :: t))) = true := low_cov h1 hne
    rw [hc] at hlc
    rw [covb_iff] at hlc
    obtain ⟨s, hs, hs1, hs2⟩ := hlc
    have hge : r.1 ≤ low (wholeL (r :: t)) := by
      rcases List.mem_cons.1 hs with rfl | hs
      · exact hs1
      · have := (List.pairwise_cons.1 hp).1 s hs; unfold okR at hr; omega
    have hle : low (wholeL (r :: t)) ≤ r.1 := by
      have h3 : covb (wholeL (r :: t)) r.1 = true := by rw [hc]; exact hr1
      cases hw : wholeL (r :: t) with
      | nil => exact absurd hw hne
      | cons s' t' =>
        rw [hw] at h3
        have hL : LF 0 (s' :: t') := by rw [← hw]; exact h1
        have := LF_cov (lo := s'.1) (L := s' :: t') ⟨Int.le_refl _, hL.2⟩ h3
        exact this.1
    show low (wholeL (r :: t)) = r.1
    omega
theorem Classes.done {ls : List (List Rg)} {C : List (List Rg)} (h : Classes ls 1114112 C) : IsAtoms ls (C.map wholeL) := by
  have hw : ∀ a ∈ C, LF 0 (wholeL a) ∧ (∀ c, covb (wholeL a) c = covb a c) ∧ wholeL a ≠ [] ∧ low (wholeL a) = low a := fun a ha => by
    obtain ⟨h1, h2, h3⟩ := h.ok a ha; exact whole_ok h1 h2 h3
  have hap : ∀ a ∈ C, ∀ b ∈ C, likeB ls (low a) (low b) = true → a = b := fun a ha b hb e => by
    obtain ⟨i, hi⟩ := List.getElem?_of_mem ha
    obtain ⟨j, hj⟩ := List.getElem?_of_mem hb
    obtain ⟨i1, i2⟩ := List.getElem?_eq_some_iff.1 hi
    obtain ⟨j1, j2⟩ := List.getElem?_eq_some_iff.1 hj
    have hp := List.pairwise_iff_getElem.1 h.apart
    rcases Nat.lt_trichotomy i j with g | g | g
    · have := hp i j i1 j1 g; rw [i2, j2, e] at this; cases this
    · subst g; rw [hi] at hj; injection hj
    · have := hp j i j1 i1 g; rw [i2, j2, like_symm e] at this; cases this
  refine ⟨fun x hx => ?_, fun c hc => ?_, fun x hx y hy c d hc hd hl => ?_, fun x hx c d hc hd => ?_, ?_⟩
  · obtain ⟨a, ha, rfl⟩ := List.mem_map.1 hx; exact ⟨(hw a ha).1, (hw a ha).2.2.1⟩
  · rw [isch_iff] at hc
    obtain ⟨a, ha, hac⟩ := h.all c hc.1 (by omega)
    exact ⟨_, List.mem_map.2 ⟨a, ha, rfl⟩, by rw [(hw a ha).2.1]; exact hac⟩
  · obtain ⟨a, ha, rfl⟩ := List.mem_map.1 hx
    obtain ⟨b, hb, rfl⟩ := List.mem_map.1 hy
    rw [(hw a ha).2.1] at hc
    rw [(hw b hb).2.1] at hd
    rw [hap a ha b hb (like_trans (h.like a ha c hc) (like_trans hl (like_symm (h.like b hb d hd))))]
  · obtain ⟨a, ha, rfl⟩ := List.mem_map.1 hx
    rw [(hw a ha).2.1] at hc hd
    exact like_trans (like_symm (h.like a ha c hc)) (h.like a ha d hd)
  · rw [List.pairwise_map]
    exact h.rise.imp_of_mem fun {a b} ha hb hab => by rw [(hw a ha).2.2.2, (hw b hb).2.2.2]; exact hab
/-- A piece that is like none of 200 classes: there are too many. -/
theorem Classes.many {ls : List (List Rg)} {f : Int} {C : List (List Rg)} (h : Classes ls f C) (h0 : 0 ≤ f) (hf : f ≤ 1114111) (hC : C.length = 200) (hno : ∀ a ∈ C, likeB ls (low a) f = false) : TooMany ls := by
  refine ⟨C.map low ++ [f], by simp [hC], fun c hc => ?_, ?_⟩
  · rcases List.mem_append.1 hc with hc | hc
    · obtain ⟨a, ha, rfl⟩ := List.mem_map.1 hc
      obtain ⟨a1, a2, _⟩ := h.ok a ha
      have := pieces_low a1 a2
      rw [isch_iff]; omega
    · simp at hc; subst hc; rw [isch_iff]; omega
  · rw [List.pairwise_append]
    refine ⟨List.pairwise_map.2 h.apart, List.pairwise_singleton _ _, fun x hx y hy => ?_⟩
    simp at hy; subst hy
    obtain ⟨a, ha, rfl⟩ := List.mem_map.1 hx
    exact hno a ha
end Go.Proofs.Ytmhggapfejlbcaa.M
