/- Plain facts on the pieces in which no set changes: edges that turn sets on and off, owners, and the atoms that pieces of the same owners make; no program stands in this text. -/
import Derived.Test.YtmhggapfejlbcaaMath5
namespace Go.Proofs.Ytmhggapfejlbcaa.M

/-- An edge: a place, and a set's number. -/
abbrev Ed := Int × Nat
/-- Is the number of the j-th set's edges odd? -/
def odd (j : Nat) : List Ed → Bool
  | [] => false
  | e :: t => Bool.xor (e.2 == j) (odd j t)
theorem odd_append (j : Nat) (a b : List Ed) : odd j (a ++ b) = Bool.xor (odd j a) (odd j b) := by
  induction a with
  | nil => simp [odd]
  | cons e t ih => simp [odd, ih, Bool.xor_assoc]
theorem odd_perm {a b : List Ed} (h : a.Perm b) (j : Nat) : odd j a = odd j b := by
  induction h with
  | nil => rfl
  | cons x _ ih => simp [odd, ih]
  | swap x y l => simp only [odd]; rw [← Bool.xor_assoc, ← Bool.xor_assoc, Bool.xor_comm (y.2 == j)]
  | trans _ _ h1 h2 => rw [h1, h2]
theorem odd_other {j n : Nat} (h : n ≠ j) : ∀ {E : List Ed}, (∀ e ∈ E, e.2 = n) → odd j E = false
  | [], _ => rfl
  | e :: t, hE => by
    have h1 := hE e (by simp)
    have h2 := odd_other h (E := t) fun x hx => hE x (by simp [hx])
    simp [odd, h1, h2, h]
/-- The edges of a least list. -/
def oneF (n : Nat) (L : List Rg) : List Ed := L.flatMap fun r => [(r.1, n), (r.2 + 1, n)]
theorem oneF_set (n : Nat) (L : List Rg) : ∀ e ∈ oneF n L, e.2 = n := by
  intro e he
  simp only [oneF, List.mem_flatMap] at he
  obtain ⟨r, _, h⟩ := he
  simp at h
  rcases h with rfl | rfl <;> rfl
def upTo (c : Int) (E : List Ed) : List Ed := E.filter fun e => decide (e.1 ≤ c)
theorem one_cov (n : Nat) (c : Int) : ∀ {L : List Rg} {lo : Int}, LF lo L → odd n (upTo c (oneF n L)) = covb L c
  | [], _, _ => rfl
  | r :: t, lo, h => by
    obtain ⟨h1, h2, h3, h4⟩ := h
    have ih := one_cov n c h4
    have e : oneF n (r :: t) = (r.1, n) :: (r.2 + 1, n) :: oneF n t := rfl
    have hl : c ≤ r.2 + 1 → covb t c = false := fun g => LF_low h4 (by omega)
    rw [e]
    unfold upTo at ih ⊢
    by_cases g1 : r.1 ≤ c
    · by_cases g2 : r.2 + 1 ≤ c
      · have : inR r c = false := by rw [inR_not]; omega
        simp [List.filter_cons, g1, g2, odd, ih, covb, this]
      · have : inR r c = true := by rw [inR_iff]; omega
        simp [List.filter_cons, g1, g2, odd, ih, covb, this, hl (by omega)]
    · have : inR r c = false := by rw [inR_not]; omega
      have g2 : ¬ r.2 + 1 ≤ c := by omega
      simp [List.filter_cons, g1, g2, ih, covb, this]
/-- The edges of the first m sets. -/
def edgesTo (ls : List (List Rg)) (m : Nat) : List Ed := (List.range m).flatMap fun i => oneF i (plainL (ls.getD i []))
theorem edgesTo_succ (ls : List (List Rg)) (m : Nat) : edgesTo ls (m + 1) = edgesTo ls m ++ oneF m (plainL (ls.getD m [])) := by
  simp [edgesTo, List.range_succ]
theorem odd_edges (ls : List (List Rg)) (j : Nat) (c : Int) (m : Nat) : odd j (upTo c (edgesTo ls m)) = (decide (j < m) && hasB (ls.getD j []) c) := by
  induction m with
  | zero => simp [edgesTo, upTo, odd]
  | succ m ih =>
    have e : upTo c (edgesTo ls (m + 1)) = upTo c (edgesTo ls m) ++ upTo c (oneF m (plainL (ls.getD m []))) := by rw [edgesTo_succ]; simp [upTo]
    rw [e, odd_append, ih]
    obtain ⟨p1, p2, _⟩ := plainL_ok (ls.getD m [])
    by_cases h : m = j
    · subst h
      rw [one_cov m c p1, p2]
      simp
    · have : odd j (upTo c (oneF m (plainL (ls.getD m [])))) = false := odd_other h fun x hx => oneF_set m _ x (List.mem_filter.1 hx).1
      rw [this, Bool.xor_false]
      have : decide (j < m + 1) = decide (j < m) := by rw [decide_eq_decide]; omega
      rw [this]
/-- Which sets have a character. -/
def ow (ls : List (List Rg)) (c : Int) : List Bool := (List.range 60).map fun j => hasB (ls.getD j []) c
def whoL (E : List Ed) : List Bool := (List.range 60).map fun j => odd j E
theorem ow_len (ls : List (List Rg)) (c : Int) : (ow ls c).length = 60 := by simp [ow]
theorem who_len (E : List Ed) : (whoL E).length = 60 := by simp [whoL]
theorem who_get (E : List Ed) (j : Nat) (h : j < 60) : (whoL E)[j]? = some (odd j E) := by simp [whoL, h]
theorem who_start : whoL [] = List.replicate 60 false := by unfold whoL; rfl
theorem who_turn (E : List Ed) (e : Ed) (h : e.2 < 60) : whoL (E ++ [e]) = (whoL E).set e.2 (!odd e.2 E) := by
  apply List.ext_getElem?; intro i
  by_cases hi : i < 60
  · rw [who_get _ i hi, odd_append]
    by_cases g : e.2 = i
    · subst g
      rw [List.getElem?_set_self (by rw [who_len]; exact hi)]
      simp [odd]
    · rw [List.getElem?_set_ne g, who_get _ i hi]
      have : (e.2 == i) = false := by simpa using g
      simp [odd, this]
  · rw [List.getElem?_eq_none (by rw [who_len]; omega), List.getElem?_eq_none (by simp [who_len]; omega)]
theorem like_ow {ls : List (List Rg)} (h : ls.length ≤ 60) (x y : Int) : likeB ls x y = true ↔ ow ls x = ow ls y := by
  rw [like_iff]
  constructor
  · intro hl
    unfold ow
    apply List.map_congr_left
    intro j _
    by_cases g : j < ls.length
    · rw [List.getD_eq_getElem?_getD, List.getElem?_eq_getElem g]; exact hl _ (List.getElem_mem g)
    · rw [List.getD_eq_getElem?_getD, List.getElem?_eq_none (by omega)]; show hasB [] x = hasB [] y; simp [hasB, covb]
  · intro he l hl
    obtain ⟨j, hj⟩ := List.getElem?_of_mem hl
    have hj' := (List.getElem?_eq_some_iff.1 hj).1
    have h1 : (ow ls x)[j]? = (ow ls y)[j]? := by rw [he]
    simp only [ow, List.getElem?_map, List.getElem?_range (show j < 60 by omega), Option.map_some, List.getD_eq_getElem?_getD, hj, Option.getD_some] at h1
    injection h1
theorem like_ow_no {ls : List (List Rg)} (h : ls.length ≤ 60) {x y : Int} (hn : ow ls x ≠ ow ls y) : likeB ls x y = false := by
  rw [← Bool.not_eq_true, like_ow h]; exact hn
/-- All edges, rising. -/
structure IsE (ls : List (List Rg)) (E : List Ed) : Prop where
  perm : E.Perm (edgesTo ls ls.length)
  sort : E.Pairwise fun x y => x.1 ≤ y.1
theorem edge_what {ls : List (List Rg)} {m : Nat} {e : Ed} (h : e ∈ edgesTo ls m) : e.2 < m ∧ ∃ r ∈ plainL (ls.getD e.2 []), e.1 = r.1 ∨ e.1 = r.2 + 1 := by
  simp only [edgesTo, List.mem_flatMap, List.mem_range] at h
  obtain ⟨i, hi, h⟩ := h
  have h2 := oneF_set i _ e h
  subst h2
  simp only [oneF, List.mem_flatMap] at h
  obtain ⟨r, hr, h⟩ := h
  simp at h
  rcases h with h | h
  · exact ⟨hi, r, hr, .inl (by rw [h])⟩
  · exact ⟨hi, r, hr, .inr (by rw [h])⟩
theorem edge_flip : ∀ {L : List Rg} {lo : Int}, LF lo L → ∀ r ∈ L, ∀ c : Int, (c = r.1 ∨ c = r.2 + 1) → covb L (c - 1) ≠ covb L c
  | s :: t, lo, h, r, hr, c, hc => by
    obtain ⟨h1, h2, h3, h4⟩ := h
    rcases List.mem_cons.1 hr with rfl | hr
    · rcases hc with rfl | rfl
      · have a1 : inR r (r.1 - 1) = false := by rw [inR_not]; omega
        have a2 : inR r r.1 = true := by rw [inR_iff]; omega
        have a3 : covb t (r.1 - 1) = false := LF_low h4 (by omega)
        simp [covb, a1, a2, a3]
      · have e1 : r.2 + 1 - 1 = r.2 := by omega
        rw [e1]
        have a1 : inR r r.2 = true := by rw [inR_iff]; omega
        have a2 : inR r (r.2 + 1) = false := by rw [inR_not]; omega
        have a3 : covb t (r.2 + 1) = false := LF_low h4 (by omega)
        simp [covb, a1, a2, a3]
    · have ih := edge_flip h4 r hr c hc
      have hm := LF_mem h4 r hr
      have hlo : s.2 + 2 ≤ r.1 ∧ r.1 ≤ r.2 := by
        have := LF_cov h4 (c := r.1) (by rw [covb_iff]; exact ⟨r, hr, Int.le_refl _, by omega⟩)
        omega
      have a1 : inR s (c - 1) = false := by rw [inR_not]; omega
      have a2 : inR s c = false := by rw [inR_not]; omega
      simpa [covb, a1, a2] using ih
theorem edge_range {L : List Rg} (h : LF 0 L) {r : Rg} (hr : r ∈ L) : 0 ≤ r.1 ∧ r.1 ≤ r.2 ∧ r.2 ≤ 1114111 := by
  have hm := LF_mem h r hr
  have := LF_cov h (c := r.1) (by rw [covb_iff]; exact ⟨r, hr, Int.le_refl _, by omega⟩)
  omega
theorem edge_turns {ls : List (List Rg)} (hl : ls.length ≤ 60) {e : Ed} (h : e ∈ edgesTo ls ls.length) : ow ls (e.1 - 1) ≠ ow ls e.1 ∧ 0 ≤ e.1 ∧ e.1 ≤ 1114112 ∧ e.2 < 60 := by
  obtain ⟨h1, r, hr, h2⟩ := edge_what h
  obtain ⟨p1, p2, _⟩ := plainL_ok (ls.getD e.2 [])
  have hm := edge_range p1 hr
  refine ⟨fun he => ?_, by omega, by omega, by omega⟩
  have := edge_flip p1 r hr e.1 h2
  rw [p2, p2] at this
  apply this
  have h3 : (ow ls (e.1 - 1))[e.2]? = (ow ls e.1)[e.2]? := by rw [he]
  simp only [ow, List.getElem?_map, List.getElem?_range (show e.2 < 60 by omega), Option.map_some] at h3
  injection h3
theorem who_is {ls : List (List Rg)} (hl : ls.length ≤ 60) {E pre post : List Ed} (h : IsE ls E) (he : E = pre ++ post) {c : Int} (h1 : ∀ e ∈ pre, e.1 ≤ c) (h2 : ∀ e ∈ post, c < e.1) : whoL pre = ow ls c := by
  unfold whoL ow
  apply List.map_congr_left
  intro j hj
  have hu : upTo c E = pre := by
    rw [he]; unfold upTo
    rw [List.filter_append, List.filter_eq_self.2 (fun e h => by simpa using h1 e h), List.filter_eq_nil_iff.2 (fun e h => by have := h2 e h; simp; omega), List.append_nil]
  have hp : odd j (upTo c E) = odd j (upTo c (edgesTo ls ls.length)) := odd_perm (h.perm.filter _) j
  rw [← hu, hp, odd_edges]
  by_cases g : j < ls.length
  · simp [g]
  · have : ls.getD j [] = [] := by rw [List.getD_eq_getElem?_getD, List.getElem?_eq_none (by omega)]; rfl
    rw [this]; simp [hasB, covb]

abbrev Pc := Rg × List Bool
/-- The pieces from a place on, edge by edge. -/
def pcs (ls : List (List Rg)) : Int → List Ed → List Pc
  | f, [] => if f ≤ 1114111 then [((f, 1114111), ow ls f)] else []
  | f, e :: t => if f < e.1 then ((f, e.1 - 1), ow ls f) :: pcs ls e.1 t else pcs ls f t
theorem pcs_len (ls : List (List Rg)) : ∀ (E : List Ed) (f : Int), (pcs ls f E).length ≤ E.length + 1
  | [], f => by unfold pcs; split <;> simp
  | e :: t, f => by
    unfold pcs
    split
    · have := pcs_len ls t e.1; simp; omega
    · have := pcs_len ls t f; simp; omega
/-- Pieces that follow one another from a place to the last character, each of one owner, no two neighbours alike. -/
def Run (ls : List (List Rg)) : Int → List Pc → Prop
  | f, [] => f = 1114112
  | f, x :: t => x.1.1 = f ∧ f ≤ x.1.2 ∧ x.1.2 ≤ 1114111 ∧ (∀ c, f ≤ c → c ≤ x.1.2 → ow ls c = x.2) ∧ (t ≠ [] → ow ls (x.1.2 + 1) ≠ x.2) ∧ Run ls (x.1.2 + 1) t
theorem pcs_run {ls : List (List Rg)} (hl : ls.length ≤ 60) {E : List Ed} (h : IsE ls E) : ∀ (post pre : List Ed) (f : Int), E = pre ++ post → (∀ e ∈ pre, e.1 ≤ f) → (∀ e ∈ post, f ≤ e.1) → f ≤ 1114112 → Run ls f (pcs ls f post)
  | [], pre, f, he, h1, _, hf => by
    unfold pcs
    split
    · rename_i g
      refine ⟨rfl, g, Int.le_refl _, fun c c1 _ => ?_, fun hn => absurd rfl hn, rfl⟩
      show ow ls c = ow ls f
      rw [← who_is hl h he (c := c) (fun e he => by have := h1 e he; omega) (by simp), ← who_is hl h he (c := f) h1 (by simp)]
    · show f = 1114112; omega
  | e :: t, pre, f, he, h1, h2, hf => by
    have hs : (e :: t).Pairwise fun x y => x.1 ≤ y.1 := by have := h.sort; rw [he, List.pairwise_append] at this; exact this.2.1
    rw [List.pairwise_cons] at hs
    have hm : e ∈ edgesTo ls ls.length := h.perm.mem_iff.1 (by rw [he]; simp)
    obtain ⟨t1, t2, t3, _⟩ := edge_turns hl hm
    have he' : E = (pre ++ [e]) ++ t := by rw [he]; simp
    have h0 : f ≤ e.1 := h2 e (by simp)
    unfold pcs
    split
    · rename_i g
      have hall : ∀ c, f ≤ c → c < e.1 → ow ls c = ow ls f := fun c c1 c2 => by
        rw [← who_is hl h he (c := c) (fun x hx => by have := h1 x hx; omega) (fun x hx => by
            rcases List.mem_cons.1 hx with rfl | hx
            · exact c2
            · have := hs.1 x hx; omega),
          ← who_is hl h he (c := f) h1 (fun x hx => by
            rcases List.mem_cons.1 hx with rfl | hx
            · exact g
            · have := hs.1 x hx; omega)]
      have ee : e.1 - 1 + 1 = e.1 := by omega
      refine ⟨rfl, by show f ≤ e.1 - 1; omega, by show e.1 - 1 ≤ 1114111; omega, fun c c1 c2 => hall c c1 (by have : c ≤ e.1 - 1 := c2; omega), fun _ hw => t1 ?_, ?_⟩
      · rw [hall (e.1 - 1) (by omega) (by omega)]
        have hw' : ow ls (e.1 - 1 + 1) = ow ls f := hw
        rw [ee] at hw'; exact hw'.symm
      · show Run ls (e.1 - 1 + 1) _
        rw [ee]
        refine pcs_run hl h t (pre ++ [e]) e.1 he' (fun x hx => ?_) hs.1 t3
        rcases List.mem_append.1 hx with hx | hx
        · have := h1 x hx; omega
        · simp at hx; subst hx; exact Int.le_refl _
    · rename_i g
      refine pcs_run hl h t (pre ++ [e]) f he' (fun x hx => ?_) (fun x hx => h2 x (by simp [hx])) hf
      rcases List.mem_append.1 hx with hx | hx
      · exact h1 x hx
      · simp at hx; subst hx; omega

/-- The owners in the order in which they are met. -/
def keys : List Pc → List (List Bool)
  | [] => []
  | x :: t => x.2 :: (keys t).filter fun o => decide (o ≠ x.2)
def cls (l : List Pc) (o : List Bool) : List Rg := (l.filter fun x => decide (x.2 = o)).map (·.1)
def atomsOf (l : List Pc) : List (List Rg) := (keys l).map (cls l)
theorem mem_keys {o : List Bool} : ∀ {l : List Pc}, o ∈ keys l ↔ ∃ x ∈ l, x.2 = o
  | [] => by simp [keys]
  | x :: t => by
    have ih := mem_keys (o := o) (l := t)
    simp only [keys, List.mem_cons, List.mem_filter, ih, decide_eq_true_eq]
    constructor
    · rintro (rfl | ⟨⟨y, hy, rfl⟩, _⟩)
      · exact ⟨x, .inl rfl, rfl⟩
      · exact ⟨y, .inr hy, rfl⟩
    · rintro ⟨y, rfl | hy, rfl⟩
      · exact .inl rfl
      · by_cases g : y.2 = x.2
        · exact .inl g
        · exact .inr ⟨⟨y, hy, rfl⟩, g⟩
theorem nodup_keys : ∀ (l : List Pc), (keys l).Nodup
  | [] => List.nodup_nil
  | x :: t => by
    unfold keys
    rw [List.nodup_cons]
    exact ⟨fun h => by simp at h, (nodup_keys t).sublist List.filter_sublist⟩
theorem keys_snoc (x : Pc) : ∀ (l : List Pc), keys (l ++ [x]) = if x.2 ∈ keys l then keys l else keys l ++ [x.2]
  | [] => by simp [keys]
  | y :: t => by
    have ih := keys_snoc x t
    have e : keys (y :: t ++ [x]) = y.2 :: (keys (t ++ [x])).filter fun o => decide (o ≠ y.2) := rfl
    rw [e, ih]
    by_cases g : x.2 ∈ keys t
    · have g2 : x.2 ∈ keys (y :: t) := by
        rw [mem_keys] at g ⊢; obtain ⟨z, hz, h⟩ := g; exact ⟨z, by simp [hz], h⟩
      rw [if_pos g, if_pos g2]; rfl
    · rw [if_neg g]
      by_cases g3 : x.2 = y.2
      · have g2 : x.2 ∈ keys (y :: t) := by rw [mem_keys]; exact ⟨y, by simp, g3.symm⟩
        rw [if_pos g2, List.filter_append]
        simp [g3, keys]
      · have g2 : x.2 ∉ keys (y :: t) := by
          rw [mem_keys] at g ⊢
          rintro ⟨z, hz, h⟩
          rcases List.mem_cons.1 hz with rfl | hz
          · exact g3 h.symm
          · exact g ⟨z, hz, h⟩
        rw [if_neg g2, List.filter_append]
        simp [g3, keys]
theorem cls_snoc (l : List Pc) (x : Pc) (o : List Bool) : cls (l ++ [x]) o = cls l o ++ if x.2 = o then [x.1] else [] := by
  unfold cls
  rw [List.filter_append, List.map_append]
  by_cases h : x.2 = o <;> simp [h]
theorem cls_none {l : List Pc} {o : List Bool} (h : o ∉ keys l) : cls l o = [] := by
  unfold cls
  rw [List.map_eq_nil_iff, List.filter_eq_nil_iff]
  intro x hx hc
  exact h (mem_keys.2 ⟨x, hx, by simpa using hc⟩)
theorem atoms_new {l : List Pc} {x : Pc} (h : x.2 ∉ keys l) : atomsOf (l ++ [x]) = atomsOf l ++ [[x.1]] := by
  unfold atomsOf
  rw [keys_snoc, if_neg h, List.map_append]
  congr 1
  · apply List.map_congr_left
    intro o ho
    rw [cls_snoc, if_neg (fun e : x.2 = o => h (by rw [e]; exact ho)), List.append_nil]
  · simp [cls_snoc, cls_none h]
theorem atoms_at {l : List Pc} {o : List Bool} {k : Nat} (h : (keys l)[k]? = some o) : (atomsOf l)[k]? = some (cls l o) := by
  simp [atomsOf, h]
theorem atoms_known {l : List Pc} {x : Pc} {k : Nat} (h : (keys l)[k]? = some x.2) : atomsOf (l ++ [x]) = (atomsOf l).set k (cls l x.2 ++ [x.1]) := by
  have hm := List.mem_of_getElem? h
  obtain ⟨hk, hx⟩ := List.getElem?_eq_some_iff.1 h
  unfold atomsOf
  rw [keys_snoc, if_pos hm]
  apply List.ext_getElem (by simp)
  intro i h1 h2
  have hi : i < (keys l).length := by simpa using h1
  simp only [List.getElem_map, List.getElem_set, cls_snoc]
  by_cases e : k = i
  · subst e; rw [if_pos hx.symm, if_pos rfl, hx]
  · rw [if_neg e, if_neg, List.append_nil]
    intro e2
    have := (List.nodup_iff_pairwise_ne.1 (nodup_keys l))
    rw [List.pairwise_iff_getElem] at this
    rcases Nat.lt_or_ge k i with g | g
    · exact this k i hk hi g (by rw [hx, e2])
    · exact this i k hi hk (by omega) (by rw [hx, e2])
theorem key_idx {l : List Pc} {o : List Bool} {i k : Nat} (h1 : (keys l)[i]? = some o) (h2 : (keys l)[k]? = some o) : i = k := by
  obtain ⟨a1, a2⟩ := List.getElem?_eq_some_iff.1 h1
  obtain ⟨b1, b2⟩ := List.getElem?_eq_some_iff.1 h2
  have := (List.nodup_iff_pairwise_ne.1 (nodup_keys l))
  rw [List.pairwise_iff_getElem] at this
  rcases Nat.lt_trichotomy i k with g | g | g
  · exact absurd (a2.trans b2.symm) (this i k a1 b1 g)
  · exact g
  · exact absurd (b2.trans a2.symm) (this k i b1 a1 g)

theorem run_each {ls : List (List Rg)} : ∀ {xs : List Pc} {f : Int}, Run ls f xs → ∀ x ∈ xs, f ≤ x.1.1 ∧ x.1.1 ≤ x.1.2 ∧ x.1.2 ≤ 1114111 ∧ ∀ c, x.1.1 ≤ c → c ≤ x.1.2 → ow ls c = x.2
  | y :: t, f, h, x, hx => by
    obtain ⟨h1, h2, h3, h4, _, h5⟩ := h
    rcases List.mem_cons.1 hx with rfl | hx
    · rw [h1]; exact ⟨Int.le_refl _, h2, h3, h4⟩
    · obtain ⟨a1, a2⟩ := run_each h5 x hx
      exact ⟨by omega, a2⟩
theorem run_all {ls : List (List Rg)} : ∀ {xs : List Pc} {f : Int}, Run ls f xs → ∀ c, f ≤ c → c ≤ 1114111 → ∃ x ∈ xs, x.1.1 ≤ c ∧ c ≤ x.1.2
  | [], f, h, c, h1, h2 => by have : f = 1114112 := h; omega
  | y :: t, f, h, c, h1, h2 => by
    obtain ⟨g1, g2, g3, g4, _, g5⟩ := h
    by_cases e : c ≤ y.1.2
    · exact ⟨y, by simp, by omega, e⟩
    · obtain ⟨x, hx, h3⟩ := run_all g5 c (by omega) h2
      exact ⟨x, by simp [hx], h3⟩
theorem run_rise {ls : List (List Rg)} : ∀ {xs : List Pc} {f : Int}, Run ls f xs → xs.Pairwise fun x y => x.1.1 < y.1.1
  | [], _, _ => List.Pairwise.nil
  | y :: t, f, h => by
    obtain ⟨g1, g2, g3, g4, _, g5⟩ := h
    rw [List.pairwise_cons]
    exact ⟨fun x hx => by have := (run_each g5 x hx).1; omega, run_rise g5⟩
theorem run_cls {ls : List (List Rg)} (o : List Bool) : ∀ {xs : List Pc} {f : Int}, Run ls f xs → LF f (cls xs o) ∧ (ow ls f ≠ o → LF (f + 1) (cls xs o))
  | [], f, _ => ⟨trivial, fun _ => trivial⟩
  | y :: t, f, h => by
    obtain ⟨g1, g2, g3, g4, g6, g5⟩ := h
    obtain ⟨i1, i2⟩ := run_cls o g5
    have hy : ow ls f = y.2 := g4 f (Int.le_refl _) g2
    by_cases e : y.2 = o
    · have ec : cls (y :: t) o = y.1 :: cls t o := by simp [cls, e]
      rw [ec]
      refine ⟨⟨by omega, by omega, g3, ?_⟩, fun hn => absurd (hy.trans e) hn⟩
      by_cases ht : t = []
      · subst ht; exact trivial
      · have := i2 (fun he => g6 ht (by rw [he, e]))
        exact LF_mono this (by omega)
    · have ec : cls (y :: t) o = cls t o := by simp [cls, e]
      rw [ec]
      exact ⟨LF_mono i1 (by omega), fun _ => LF_mono i1 (by omega)⟩
theorem cls_ne {l : List Pc} {o : List Bool} (h : o ∈ keys l) : cls l o ≠ [] := by
  obtain ⟨x, hx, he⟩ := mem_keys.1 h
  intro hc
  unfold cls at hc
  rw [List.map_eq_nil_iff, List.filter_eq_nil_iff] at hc
  exact hc x hx (by simpa using he)
theorem cls_low {l : List Pc} {o : List Bool} (h : o ∈ keys l) : ∃ x ∈ l, x.2 = o ∧ low (cls l o) = x.1.1 := by
  have hn := cls_ne h
  cases hc : cls l o with
  | nil => exact absurd hc hn
  | cons r t =>
    have : r ∈ cls l o := by rw [hc]; simp
    unfold cls at this
    rw [List.mem_map] at this
    obtain ⟨x, hx, rfl⟩ := this
    rw [List.mem_filter] at hx
    exact ⟨x, hx.1, by simpa using hx.2, rfl⟩
theorem keys_rise : ∀ {xs : List Pc}, xs.Pairwise (fun x y => x.1.1 < y.1.1) → (keys xs).Pairwise fun o o' => low (cls xs o) < low (cls xs o')
  | [], _ => List.Pairwise.nil
  | x :: t, h => by
    rw [List.pairwise_cons] at h
    have ih := keys_rise h.2
    have hc : ∀ o, o ≠ x.2 → cls (x :: t) o = cls t o := fun o ho => by simp [cls, Ne.symm ho]
    have hf : low (cls (x :: t) x.2) = x.1.1 := by simp [cls, low]
    unfold keys
    rw [List.pairwise_cons]
    refine ⟨fun o ho => ?_, ?_⟩
    · rw [List.mem_filter] at ho
      have hne : o ≠ x.2 := by simpa using ho.2
      rw [hf, hc o hne]
      obtain ⟨y, hy, _, hl⟩ := cls_low ho.1
      rw [hl]; exact h.1 y hy
    · refine (ih.sublist List.filter_sublist).imp_of_mem fun {a b} ha hb hab => ?_
      rw [List.mem_filter] at ha hb
      rw [hc a (by simpa using ha.2), hc b (by simpa using hb.2)]; exact hab
theorem cls_cov {ls : List (List Rg)} {xs : List Pc} {f : Int} (h : Run ls f xs) {o : List Bool} {c : Int} (hc : covb (cls xs o) c = true) : ow ls c = o ∧ f ≤ c ∧ c ≤ 1114111 := by
  rw [covb_iff] at hc
  obtain ⟨r, hr, h1, h2⟩ := hc
  unfold cls at hr
  rw [List.mem_map] at hr
  obtain ⟨x, hx, rfl⟩ := hr
  rw [List.mem_filter] at hx
  obtain ⟨a1, a2, a3, a4⟩ := run_each h x hx.1
  exact ⟨(a4 c h1 h2).trans (by simpa using hx.2), by omega, by omega⟩
/-- Pieces of the same owners are the atoms. -/
theorem run_atoms {ls : List (List Rg)} (hl : ls.length ≤ 60) {xs : List Pc} (h : Run ls 0 xs) : IsAtoms ls (atomsOf xs) := by
  refine ⟨fun a ha => ?_, fun c hc => ?_, fun a ha b hb c d hc hd hlk => ?_, fun a ha c d hc hd => ?_, ?_⟩
  · obtain ⟨o, ho, rfl⟩ := List.mem_map.1 ha
    exact ⟨(run_cls o h).1, cls_ne ho⟩
  · rw [isch_iff] at hc
    obtain ⟨x, hx, h1, h2⟩ := run_all h c hc.1 hc.2
    refine ⟨_, List.mem_map.2 ⟨x.2, mem_keys.2 ⟨x, hx, rfl⟩, rfl⟩, ?_⟩
    rw [covb_iff]
    exact ⟨x.1, List.mem_map.2 ⟨x, List.mem_filter.2 ⟨hx, by simp⟩, rfl⟩, h1, h2⟩
  · obtain ⟨o, ho, rfl⟩ := List.mem_map.1 ha
    obtain ⟨o', ho', rfl⟩ := List.mem_map.1 hb
    have e1 := (cls_cov h hc).1
    have e2 := (cls_cov h hd).1
    rw [← e1, ← e2, (like_ow hl c d).1 hlk]
  · obtain ⟨o, ho, rfl⟩ := List.mem_map.1 ha
    rw [like_ow hl, (cls_cov h hc).1, (cls_cov h hd).1]
  · unfold atomsOf
    rw [List.pairwise_map]
    exact keys_rise (run_rise h)
theorem run_many {ls : List (List Rg)} (hl : ls.length ≤ 60) {xs pre : List Pc} (h : Run ls 0 xs) (hp : pre <+: xs) (hk : (keys pre).length = 201) : TooMany ls := by
  have hch : ∀ o ∈ keys pre, ∃ c, ow ls c = o ∧ isch c = true ∧ c = low (cls pre o) := fun o ho => by
    obtain ⟨x, hx, h1, h2⟩ := cls_low ho
    obtain ⟨a1, a2, a3, a4⟩ := run_each h x (hp.subset hx)
    refine ⟨x.1.1, (a4 _ (Int.le_refl _) a2).trans h1, ?_, h2.symm⟩
    rw [isch_iff]; omega
  refine ⟨(keys pre).map fun o => low (cls pre o), by simp [hk], fun c hc => ?_, ?_⟩
  · obtain ⟨o, ho, rfl⟩ := List.mem_map.1 hc
    obtain ⟨c, _, h2, rfl⟩ := hch o ho
    exact h2
  · rw [List.pairwise_map]
    refine (List.nodup_iff_pairwise_ne.1 (nodup_keys pre)).imp_of_mem fun {a b} ha hb hab => ?_
    obtain ⟨c, h1, _, rfl⟩ := hch a ha
    obtain ⟨d, h2, _, rfl⟩ := hch b hb
    exact like_ow_no hl (by rw [h1, h2]; exact hab)
theorem cls_prefix {pre xs : List Pc} (h : pre <+: xs) (o : List Bool) : (cls pre o).length ≤ (cls xs o).length := by
  obtain ⟨t, rfl⟩ := h
  unfold cls
  simp
theorem run_wide {ls : List (List Rg)} {xs pre : List Pc} (hp : pre <+: xs) {o : List Bool} (hk : 400 < (cls pre o).length) : ∃ a ∈ atomsOf xs, 400 < a.length := by
  have hm : o ∈ keys xs := by
    have hn : o ∈ keys pre := by
      rcases Classical.em (o ∈ keys pre) with h | h
      · exact h
      · rw [cls_none h] at hk; simp at hk
    rw [mem_keys] at hn ⊢
    obtain ⟨x, hx, he⟩ := hn
    exact ⟨x, hp.subset hx, he⟩
  exact ⟨_, List.mem_map.2 ⟨o, hm, rfl⟩, by have := cls_prefix hp o; omega⟩
end Go.Proofs.Ytmhggapfejlbcaa.M
