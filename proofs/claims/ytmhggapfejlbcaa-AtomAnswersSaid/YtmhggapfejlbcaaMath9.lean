/- That sets part all characters, said by their sizes: they are apart, and their sizes add up to the number of characters. -/
import Derived.Test.YtmhggapfejlbcaaMath8
import Derived.Test.YtmhggapfejlbcaaMath3
namespace Go.Proofs.Ytmhggapfejlbcaa.M

theorem cnt_le (p : Int → Bool) : ∀ n, cnt n p ≤ n
  | 0 => Nat.le_refl _
  | n + 1 => by
    have := cnt_le p n
    unfold cnt
    split <;> omega
theorem cnt_full (p : Int → Bool) : ∀ n, cnt n p = n → ∀ c : Int, 0 ≤ c → c < n → p c = true
  | 0, _, c, h0, h1 => by omega
  | n + 1, h, c, h0, h1 => by
    have hl := cnt_le p n
    unfold cnt at h
    split at h
    · rename_i hp
      by_cases e : c = n
      · subst e; exact hp
      · exact cnt_full p n (by omega) c h0 (by omega)
    · omega
theorem cnt_all (p : Int → Bool) : ∀ n : Nat, (∀ c : Int, 0 ≤ c → c < n → p c = true) → cnt n p = n
  | 0, _ => rfl
  | n + 1, h => by
    have ih := cnt_all p n fun c h0 h1 => h c h0 (by omega)
    unfold cnt
    rw [if_pos (h n (by omega) (by omega)), ih]
/-- No character is in both. -/
def Apart (a b : List Rg) : Prop := ∀ c, (covb a c && covb b c) = false
theorem sizes_cnt (n : Nat) (hn : 1114112 ≤ n) : ∀ {ls : List (List Rg)}, (∀ l ∈ ls, LF 0 l) → ls.Pairwise Apart → (ls.map szF).sum = cnt n (fun c => ls.any fun l => covb l c)
  | [], _, _ => by
    have e : cnt n (fun c => ([] : List (List Rg)).any fun l => covb l c) = 0 := cnt_none fun c => rfl
    rw [e]; rfl
  | l :: t, h, hp => by
    have hp' := List.pairwise_cons.1 hp
    have ih := sizes_cnt n hn (fun x hx => h x (by simp [hx])) hp'.2
    have e : cnt n (fun c => (l :: t).any fun x => covb x c) = cnt n (covb l) + cnt n (fun c => t.any fun x => covb x c) := by
      rw [← cnt_add]
      · exact cnt_congr fun c => by simp
      · intro c
        cases hc : covb l c with
        | false => rfl
        | true =>
          rw [Bool.true_and, List.any_eq_false]
          intro x hx hx'
          have := hp'.1 x hx c
          rw [hc, hx'] at this
          cases this
    rw [List.map_cons, List.sum_cons, ih, e, szF_cnt (h l (by simp)) (by omega) n hn]
    simp
theorem sizes_once {ls : List (List Rg)} (h : ∀ l ∈ ls, LF 0 l) (hp : ls.Pairwise Apart) : (ls.map szF).sum = 1114112 ↔ ∀ c, isch c = true → (ls.countP fun l => covb l c) = 1 := by
  obtain ⟨n, hn⟩ : ∃ n : Nat, n = 1114112 := ⟨_, rfl⟩
  rw [sizes_cnt n (by omega) h hp]
  have hpw : ∀ c, ls.Pairwise fun a b => ¬ (covb a c = true ∧ covb b c = true) := fun c => hp.imp fun hab ⟨h1, h2⟩ => by
    have := hab c; rw [h1, h2] at this; cases this
  constructor
  · intro hs c hc
    have hc' : 0 ≤ c ∧ c ≤ 1114111 := by simpa [isch] using hc
    have := cnt_full (fun c => ls.any fun l => covb l c) n (by omega) c hc'.1 (by omega)
    rw [List.any_eq_true] at this
    exact once_of this (hpw c)
  · intro ho
    have := cnt_all (fun c => ls.any fun l => covb l c) n fun c h0 h1 => by
      have := ho c (by simp [isch]; omega)
      have hpos : 0 < ls.countP fun l => covb l c := by omega
      rw [List.any_eq_true]
      exact List.countP_pos_iff.1 hpos
    omega
theorem once_apart {ls : List (List Rg)} (h : ∀ l ∈ ls, LF 0 l) (ho : ∀ c, isch c = true → (ls.countP fun l => covb l c) = 1) : ls.Pairwise Apart := by
  induction ls with
  | nil => exact List.Pairwise.nil
  | cons l t ih =>
    rw [List.pairwise_cons]
    have key : ∀ c x, x ∈ t → covb l c = true → covb x c = true → False := fun c x hx h1 h2 => by
      have hc : isch c = true := by
        have := LF_isch (h l (by simp)) (by omega) c
        rw [h1] at this
        simpa using this.symm
      have := ho c hc
      rw [List.countP_cons, if_pos h1] at this
      have hpos : 0 < t.countP fun l => covb l c := List.countP_pos_iff.2 ⟨x, hx, h2⟩
      omega
    refine ⟨fun x hx c => ?_, ?_⟩
    · cases h1 : covb l c with
      | false => rfl
      | true =>
        cases h2 : covb x c with
        | false => rfl
        | true => exact (key c x hx h1 h2).elim
    · rw [List.pairwise_iff_forall_sublist]
      intro a b hab c
      cases h1 : covb a c with
      | false => rfl
      | true =>
        cases h2 : covb b c with
        | false => rfl
        | true =>
          exfalso
          have hc : isch c = true := by
            have hm : a ∈ t := hab.subset (by simp)
            have := LF_isch (h a (by simp [hm])) (by omega) c
            rw [h1] at this
            simpa using this.symm
          have h3 := ho c hc
          rw [List.countP_cons] at h3
          have h4 := hab.countP_le (p := fun l => covb l c)
          simp [h1, h2] at h4
          split at h3 <;> omega
end Go.Proofs.Ytmhggapfejlbcaa.M
