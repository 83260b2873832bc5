/- Plain facts on parting: ranges that follow one another from the first character to the last one have each character just once; no program stands in this text. -/
import Derived.Test.YtmhggapfejlbcaaMath6
namespace Go.Proofs.Ytmhggapfejlbcaa.M

/-- How many ranges have a character. -/
def times (L : List Rg) (c : Int) : Nat := L.countP fun r => inR r c
theorem times_append (a b : List Rg) (c : Int) : times (a ++ b) c = times a c + times b c := by simp [times]
theorem times_perm {a b : List Rg} (h : a.Perm b) (c : Int) : times a c = times b c := h.countP_eq _
theorem times_cons (r : Rg) (t : List Rg) (c : Int) : times (r :: t) c = times t c + if inR r c then 1 else 0 := by
  unfold times; rw [List.countP_cons]
theorem times_least : ∀ {L : List Rg} {lo : Int}, LF lo L → ∀ c, times L c = if covb L c then 1 else 0
  | [], _, _, _ => rfl
  | r :: t, lo, h, c => by
    obtain ⟨h1, h2, h3, h4⟩ := h
    rw [times_cons, times_least h4 c]
    cases hr : inR r c with
    | true =>
      rw [inR_iff] at hr
      rw [LF_low h4 (by omega)]
      simp [covb, (inR_iff r c).2 hr]
    | false => simp [covb, hr]
/-- From a place on, each range begins where the last one ended. -/
def chainB : Int → List Rg → Bool
  | f, [] => f == 1114112
  | f, r :: t => r.1 == f && chainB (r.2 + 1) t
def Exact (f : Int) (L : List Rg) : Prop := ∀ c, times L c = if f ≤ c ∧ c ≤ 1114111 then 1 else 0
theorem times_pos {L : List Rg} {r : Rg} (h : r ∈ L) {c : Int} (hc : r.1 ≤ c ∧ c ≤ r.2) : 1 ≤ times L c := by
  unfold times
  exact List.countP_pos_iff.2 ⟨r, h, (inR_iff r c).2 hc⟩
theorem chain_iff : ∀ (L : List Rg) (f : Int), 0 ≤ f → f ≤ 1114112 → (∀ r ∈ L, okR r) → L.Pairwise (fun x y => x.1 ≤ y.1) → (chainB f L = true ↔ Exact f L)
  | [], f, h0, h1, _, _ => by
    simp only [chainB, beq_iff_eq]
    constructor
    · rintro rfl c
      rw [if_neg (by omega)]; rfl
    · intro h
      rcases Int.lt_or_eq_of_le h1 with g | g
      · have := h f
        rw [if_pos ⟨Int.le_refl _, by omega⟩] at this
        simp [times] at this
      · exact g
  | r :: t, f, h0, h1, ho, hs => by
    have hr := ho r (by simp)
    unfold okR at hr
    rw [List.pairwise_cons] at hs
    have ih := chain_iff t (r.2 + 1) (by omega) (by omega) (fun x hx => ho x (by simp [hx])) hs.2
    simp only [chainB, Bool.and_eq_true, beq_iff_eq, ih]
    constructor
    · rintro ⟨rfl, ht⟩ c
      rw [times_cons, ht c]
      by_cases g : inR r c = true
      · have g' := (inR_iff r c).1 g
        rw [if_pos g, if_neg (by omega), if_pos (by omega)]
      · have g' : c < r.1 ∨ r.2 < c := (inR_not r c).1 (by simpa using g)
        rw [if_neg g]
        by_cases g2 : r.2 + 1 ≤ c ∧ c ≤ 1114111
        · rw [if_pos g2, if_pos (by omega)]
        · rw [if_neg g2, if_neg (by omega)]
    · intro h
      have hlow : f ≤ r.1 := by
        have h2 := times_pos (L := r :: t) (r := r) (by simp) (c := r.1) ⟨Int.le_refl _, hr.2.1⟩
        rw [h r.1] at h2
        by_cases g : f ≤ r.1 ∧ r.1 ≤ 1114111
        · exact g.1
        · rw [if_neg g] at h2; omega
      have hf : f ≤ 1114111 := by omega
      have he : r.1 = f := by
        have h2 := h f
        rw [if_pos ⟨Int.le_refl _, hf⟩] at h2
        have h3 : 0 < times (r :: t) f := by omega
        unfold times at h3
        obtain ⟨x, hx, hxf⟩ := List.countP_pos_iff.1 h3
        have hxf' := (inR_iff x f).1 hxf
        rcases List.mem_cons.1 hx with rfl | hx
        · omega
        · have := hs.1 x hx; omega
      refine ⟨he, fun c => ?_⟩
      have h2 := h c
      rw [times_cons] at h2
      by_cases g : inR r c = true
      · have g' := (inR_iff r c).1 g
        rw [if_pos g, if_pos (by omega)] at h2
        rw [if_neg (by omega)]; omega
      · have g' : c < r.1 ∨ r.2 < c := (inR_not r c).1 (by simpa using g)
        rw [if_neg g] at h2
        by_cases g2 : r.2 + 1 ≤ c ∧ c ≤ 1114111
        · rw [if_pos g2]; rw [if_pos (by omega)] at h2; omega
        · rw [if_neg g2]; rw [if_neg (by omega)] at h2; omega
theorem times_flat (c : Int) : ∀ (ls : List (List Rg)), (∀ l ∈ ls, LF 0 l) → times ls.flatten c = ls.countP fun l => covb l c
  | [], _ => rfl
  | l :: t, h => by
    rw [List.flatten_cons, times_append, times_least (h l (by simp)) c, times_flat c t fun x hx => h x (by simp [hx]), List.countP_cons]
    omega
/-- Sets that part all characters, as they must stand. -/
structure PartsAll (ls : List (List Rg)) : Prop where
  pos : 1 ≤ ls.length
  few : ls.length ≤ 200
  each : ∀ l ∈ ls, LF 0 l ∧ l.length ≤ 400 ∧ l ≠ []
  rise : ls.Pairwise fun a b => low a < low b
  once : ∀ c, isch c = true → (ls.countP fun l => covb l c) = 1
theorem parts_exact {ls : List (List Rg)} (h : ∀ l ∈ ls, LF 0 l) {L : List Rg} (hp : L.Perm ls.flatten) (hs : L.Pairwise fun x y => x.1 ≤ y.1) : chainB 0 L = true ↔ ∀ c, isch c = true → (ls.countP fun l => covb l c) = 1 := by
  have hok : ∀ r ∈ L, okR r := fun r hr => by
    obtain ⟨l, hl, hr'⟩ := List.mem_flatten.1 (hp.mem_iff.1 hr)
    exact edge_range (h l hl) hr'
  rw [chain_iff L 0 (by omega) (by omega) hok hs]
  constructor
  · intro hE c hc
    rw [isch_iff] at hc
    rw [← times_flat c ls h, ← times_perm hp c, hE c, if_pos hc]
  · intro hE c
    rw [times_perm hp c, times_flat c ls h]
    by_cases g : 0 ≤ c ∧ c ≤ 1114111
    · rw [if_pos g]; exact hE c ((isch_iff c).2 g)
    · rw [if_neg g]
      rw [List.countP_eq_zero]
      intro l hl hcv
      have := LF_cov (h l hl) hcv
      omega
theorem once_of {α : Type} {p : α → Bool} : ∀ {l : List α}, (∃ a ∈ l, p a = true) → l.Pairwise (fun a b => ¬ (p a = true ∧ p b = true)) → l.countP p = 1
  | [], ⟨_, ha, _⟩, _ => by simp at ha
  | x :: t, ⟨a, ha, hpa⟩, hp => by
    rw [List.pairwise_cons] at hp
    rw [List.countP_cons]
    cases hx : p x with
    | true =>
      have : t.countP p = 0 := List.countP_eq_zero.2 fun y hy hpy => hp.1 y hy ⟨hx, hpy⟩
      simp [this]
    | false =>
      rcases List.mem_cons.1 ha with rfl | ha
      · rw [hx] at hpa; cases hpa
      · simp [once_of ⟨a, ha, hpa⟩ hp.2]
/-- The atoms part all characters. -/
theorem IsAtoms.parts {ls R : List (List Rg)} (h : IsAtoms ls R) (h1 : R.length ≤ 200) (h2 : ∀ a ∈ R, a.length ≤ 400) : PartsAll R := by
  refine ⟨?_, h1, fun l hl => ⟨(h.least l hl).1, h2 l hl, (h.least l hl).2⟩, h.rise, fun c hc => once_of ?_ ?_⟩
  · obtain ⟨a, ha, _⟩ := h.all 0 rfl
    exact List.length_pos_of_mem ha
  · exact h.all c hc
  · refine h.rise.imp_of_mem fun {a b} ha hb hab hc => ?_
    have := h.same a ha b hb c c hc.1 hc.2 (like_refl _ _)
    rw [this] at hab; omega
end Go.Proofs.Ytmhggapfejlbcaa.M
