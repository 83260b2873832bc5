/- Plain facts on sweeping over two least lists at once: where the next change is, and that what is gathered is least and of the characters that the test tells; no program stands in this text. -/
import Derived.Test.YtmhggapfejlbcaaMath
namespace Go.Proofs.Ytmhggapfejlbcaa.M

def stretchF : List Rg → Int → Bool × Int
  | [], _ => (false, 1114112)
  | r :: _, f => if f < r.1 then (false, r.1) else (true, r.2 + 1)
def aheadF : List Rg → Int → List Rg
  | [], _ => []
  | r :: t, f => if r.2 < f then t else r :: t

/-- A rest of the least list P at the place f: from f on it covers what P covers; all but its first range end at f or behind. -/
structure Sfx (f : Int) (X P : List Rg) : Prop where
  least : LF 0 X
  cov : ∀ c, f ≤ c → covb X c = covb P c
  tail : ∀ r ∈ X.tail, f ≤ r.2

theorem LF_tail_hi {lo : Int} {L : List Rg} (h : LF lo L) : ∀ r ∈ L, lo ≤ r.2 := by
  induction L generalizing lo with
  | nil => simp
  | cons s t ih =>
    intro r hr
    obtain ⟨h1, h2, _, h4⟩ := h
    rcases List.mem_cons.1 hr with rfl | hr
    · omega
    · have := ih h4 r hr; omega
theorem Sfx.start {P : List Rg} (h : LF 0 P) : Sfx 0 P P := ⟨h, fun _ _ => rfl, fun r hr => LF_tail_hi h r (List.mem_of_mem_tail hr)⟩
theorem Sfx.ahead {f : Int} {X P : List Rg} (h : Sfx f X P) : Sfx f (aheadF X f) P ∧ ∀ r ∈ aheadF X f, f ≤ r.2 := by
  cases X with
  | nil => exact ⟨h, by simp [aheadF]⟩
  | cons r t =>
    simp only [aheadF]
    obtain ⟨⟨h1, h2, h3, h4⟩, hc, ht⟩ := h
    by_cases g : r.2 < f
    · rw [if_pos g]
      refine ⟨⟨LF_mono h4 (by omega), fun c hf => ?_, fun x hx => ht x (List.mem_of_mem_tail hx)⟩, fun x hx => ht x hx⟩
      have := hc c hf
      simp only [covb] at this
      have hr : inR r c = false := by rw [inR_not]; omega
      simpa [hr] using this
    · rw [if_neg g]
      refine ⟨⟨⟨h1, h2, h3, h4⟩, hc, ht⟩, fun x hx => ?_⟩
      rcases List.mem_cons.1 hx with rfl | hx
      · omega
      · exact ht x hx
/-- What a stretch tells: between the place and its end the list covers all or nothing; the end lies behind the place. -/
theorem stretch_ok {f : Int} {X P : List Rg} (h : Sfx f X P) (hf : ∀ r ∈ X, f ≤ r.2) (h0 : 0 ≤ f) (hT : f ≤ 1114111) :
    f < (stretchF X f).2 ∧ (stretchF X f).2 ≤ 1114112 ∧ (∀ c, f ≤ c → c < (stretchF X f).2 → covb P c = (stretchF X f).1) ∧
    (∀ g, f ≤ g → g ≤ (stretchF X f).2 → Sfx g X P) := by
  cases X with
  | nil =>
    simp only [stretchF]
    exact ⟨by omega, by omega, fun c hc _ => by rw [← h.cov c hc]; rfl, fun g hg _ => ⟨trivial, fun c hc => h.cov c (by omega), by simp⟩⟩
  | cons r t =>
    obtain ⟨⟨h1, h2, h3, h4⟩, hc, ht⟩ := h
    have hr := hf r (by simp)
    have hsfx : ∀ g, f ≤ g → g ≤ r.2 + 1 → Sfx g (r :: t) P := fun g hg hg2 => ⟨⟨h1, h2, h3, h4⟩, fun c hcg => hc c (by omega), fun x hx => by
      have := LF_tail_hi h4 x hx; omega⟩
    simp only [stretchF]
    by_cases g : f < r.1
    · rw [if_pos g]
      refine ⟨g, by show r.1 ≤ _; omega, fun c hcf hc2 => ?_, fun g hg hg2 => hsfx g hg (by show g ≤ _; have : g ≤ r.1 := hg2; omega)⟩
      have hc2' : c < r.1 := hc2
      rw [← hc c hcf]
      simp only [covb]
      rw [(inR_not r c).2 (by omega), LF_low h4 (by omega)]; rfl
    · rw [if_neg g]
      refine ⟨by show f < r.2 + 1; omega, by show r.2 + 1 ≤ _; omega, fun c hcf hc2 => ?_, fun g hg hg2 => hsfx g hg hg2⟩
      have hc2' : c < r.2 + 1 := hc2
      rw [← hc c hcf]
      simp only [covb]
      rw [(inR_iff r c).2 (by omega)]; rfl

/-- What has been gathered up to the place f. -/
structure Swept (f : Int) (L : List Rg) (S : Int → Bool) : Prop where
  least : LF 0 L
  cov : ∀ c, covb L c = (decide (0 ≤ c) && (decide (c < f) && S c))
  low : ∀ x, f ≤ x → lowsLe L x
  len : (L.length : Int) ≤ f

theorem Swept.start (S : Int → Bool) : Swept 0 [] S := ⟨trivial, fun c => by
  rw [Bool.eq_iff_iff]; simp [covb]; omega, fun x _ s hs => by simp at hs, by simp⟩
theorem Swept.skip {f g : Int} {L : List Rg} {S : Int → Bool} (h : Swept f L S) (hfg : f ≤ g) (hS : ∀ c, f ≤ c → c < g → S c = false) : Swept g L S := by
  refine ⟨h.least, fun c => ?_, fun x hx => h.low x (by omega), by have := h.len; omega⟩
  rw [h.cov c, Bool.eq_iff_iff]
  simp only [Bool.and_eq_true, decide_eq_true_eq]
  constructor
  · rintro ⟨a, b, d⟩; exact ⟨a, by omega, d⟩
  · rintro ⟨a, b, d⟩
    refine ⟨a, ?_, d⟩
    by_cases e : c < f
    · exact e
    · rw [hS c (by omega) b] at d; cases d
theorem Swept.take {f g : Int} {L : List Rg} {S : Int → Bool} (h : Swept f L S) (h0 : 0 ≤ f) (hfg : f < g) (hg : g ≤ 1114112) (hS : ∀ c, f ≤ c → c < g → S c = true) : Swept g (joinL L (f, g - 1)) S := by
  obtain ⟨j1, j2, j3⟩ := joinL_ok (r := (f, g - 1)) h.least (h.low f (Int.le_refl _)) h0 (by show f ≤ g - 1; omega) (by show g - 1 ≤ _; omega)
  refine ⟨j1, fun c => ?_, fun x hx s hs => ?_, ?_⟩
  · rw [j2, h.cov c, Bool.eq_iff_iff]
    simp only [Bool.or_eq_true, Bool.and_eq_true, decide_eq_true_eq, inR_iff]
    constructor
    · rintro (⟨a, b, d⟩ | ⟨a, b⟩)
      · exact ⟨a, by omega, d⟩
      · exact ⟨by omega, by omega, hS c a (by omega)⟩
    · rintro ⟨a, b, d⟩
      by_cases e : c < f
      · exact .inl ⟨a, e, d⟩
      · exact .inr ⟨by omega, by omega⟩
  · have := j3 s hs; simp at this; omega
  · have := (joinL_len L (f, g - 1)).1; have := h.len; omega
theorem Swept.done {f : Int} {L : List Rg} {S : Int → Bool} (h : Swept f L S) (hf : f = 1114112) : LF 0 L ∧ ∀ c, covb L c = (isch c && S c) :=
  ⟨h.least, fun c => by
    subst hf
    rw [h.cov c, Bool.eq_iff_iff]
    simp only [isch, Bool.and_eq_true, decide_eq_true_eq]
    constructor
    · rintro ⟨a, b, d⟩; exact ⟨⟨a, by omega⟩, d⟩
    · rintro ⟨⟨a, b⟩, d⟩; exact ⟨a, by omega, d⟩⟩
theorem LF_mem {lo : Int} {L : List Rg} (h : LF lo L) : ∀ r ∈ L, lo ≤ r.1 ∧ r.1 ≤ r.2 ∧ r.2 ≤ 1114111 := by
  induction L generalizing lo with
  | nil => simp
  | cons s t ih =>
    intro r hr
    obtain ⟨h1, h2, h3, h4⟩ := h
    rcases List.mem_cons.1 hr with rfl | hr
    · exact ⟨h1, h2, h3⟩
    · have := ih h4 r hr; omega
end Go.Proofs.Ytmhggapfejlbcaa.M
