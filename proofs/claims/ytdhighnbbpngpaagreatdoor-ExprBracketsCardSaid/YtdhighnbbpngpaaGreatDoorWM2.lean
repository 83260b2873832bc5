/- Plain facts on words: notes and what they allow, in bytes as in characters. -/
import Derived.Test.YtdhighnbbpngpaaGreatDoorWM
set_option maxRecDepth 100000
namespace Go.Proofs.YtdhighnbbpngpaaGreatDoor
namespace W
open E (okb encB flat)

theorem flat_pre : ∀ (a : List Int) {l : List Int}, (∀ x ∈ a, x < 128) → l.all okb = true → ((flat l).take a.length = a ↔ l.take a.length = a) ∧ (l.take a.length = a → (flat l).drop a.length = flat (l.drop a.length))
  | [], l, _, _ => by simp
  | x :: a, [], _, _ => by simp [flat]
  | x :: a, c :: t, ha, h => by
    rw [List.all_cons, Bool.and_eq_true] at h
    have ih := flat_pre a (fun y hy => ha y (by simp [hy])) h.2
    have hx := ha x (by simp)
    rw [flat_cons]
    by_cases h128 : c < 128
    · rw [enc_small h.1 h128]
      simp only [List.singleton_append, List.length_cons, List.take_succ_cons, List.drop_succ_cons, List.cons.injEq]
      exact ⟨and_congr_right fun _ => ih.1, fun h' => ih.2 h'.2⟩
    · obtain ⟨y, u, e, hy, _⟩ := enc_great h.1 (by omega)
      rw [e]
      simp only [List.cons_append, List.length_cons, List.take_succ_cons, List.drop_succ_cons, List.cons.injEq]
      exact ⟨⟨fun h' => absurd h'.1 (by omega), fun h' => absurd h'.1 (by omega)⟩, fun h' => absurd h'.1 (by omega)⟩
theorem allow_low : ∀ x ∈ allowP, x < 128 := by intro x hx; simp [allowP] at hx; omega
theorem flat_split (l : List Int) (k : Nat) : flat l = flat (l.take k) ++ flat (l.drop k) := by rw [← E.flat_app, List.take_append_drop]
/-- A text that is a number from end to end has plain characters alone. -/
theorem num_whole {d : List Int} (h0 : (numB d).2.2 = 0) (hs : (numB d).2.1 = d.length) : ∀ x ∈ d, x < 128 := by
  have hdg : ∀ x, dgB x = true → x < 128 := fun x h => by unfold dgB at h; rw [decide_eq_true_eq] at h; omega
  unfold numB at h0 hs
  split at h0
  · cases h0
  · rename_i h1
    split at h0
    · cases h0
    · rename_i h2
      rw [if_neg h1, if_neg h2] at hs
      simp only at hs
      intro x hx
      obtain ⟨i, hi, e⟩ := List.getElem_of_mem hx
      have hx' : d[i]? = some x := by rw [List.getElem?_eq_getElem hi, e]
      rcases Nat.lt_or_ge i (many dgB d) with h3 | h3
      · exact hdg x (many_all h3 hx')
      · split at hs
        · rename_i hp
          have h46 : d[many dgB d]? = some 46 := by
            unfold partN at hp
            split at hp
            · rename_i h; exact h
            · omega
          have hpe : partN d = many dgB (d.drop (many dgB d + 1)) := by unfold partN; rw [if_pos h46]
          rcases Nat.lt_or_ge (many dgB d) i with h4 | h4
          · refine hdg x (many_all (l := d.drop (many dgB d + 1)) (j := i - (many dgB d + 1)) (by omega) ?_)
            rw [List.getElem?_drop, show many dgB d + 1 + (i - (many dgB d + 1)) = i by omega]; exact hx'
          · have : i = many dgB d := by omega
            rw [this, h46] at hx'
            injection hx' with hx'
            omega
        · omega
theorem flat_low : ∀ {l : List Int}, l.all okb = true → (∀ x ∈ l, x < 128) → flat l = l
  | [], _, _ => rfl
  | c :: t, h, h' => by
    rw [List.all_cons, Bool.and_eq_true] at h
    rw [flat_cons, enc_small h.1 (h' c (by simp)), flat_low h.2 (fun x hx => h' x (by simp [hx]))]; rfl
theorem letters_flat {k : List Int} (h : k.all okb = true) : lettersB (flat k) = lettersB k := by
  unfold lettersB
  rw [flat_all low_sm h]
  cases hs : k.all smB with
  | false => simp
  | true => rw [flat_same low_sm h hs]
theorem flat_allow {l : List Int} (h : l.all okb = true) : allowB (flat l) = allowB l := by
  unfold allowB
  have hk : (l.takeWhile noBl).all okb = true := all_takeW h
  rw [flat_twBl h, letters_flat hk]
  by_cases hl : lettersB (l.takeWhile noBl) = true
  · have hf : flat (l.takeWhile noBl) = l.takeWhile noBl := by
      unfold lettersB at hl
      rw [Bool.and_eq_true, Bool.and_eq_true] at hl
      exact flat_same low_sm hk hl.1.1
    have hm : many noBl (flat l) = many noBl l := by unfold many; rw [flat_twBl h, hf]
    have hd : (flat l).drop (many noBl l) = flat (l.drop (many noBl l)) := by
      have hk2 : flat (l.take (many noBl l)) = l.take (many noBl l) := by rw [take_many]; exact hf
      have hlen : (l.take (many noBl l)).length = many noBl l := by rw [take_many]; rfl
      rw [flat_split l (many noBl l), hk2, List.drop_append_of_le_length (by rw [hlen]; exact Nat.le_refl _), List.drop_eq_nil_of_le (by rw [hlen]; exact Nat.le_refl _), List.nil_append]
    have hlf : (flat l).length = many noBl l + (flat (l.drop (many noBl l))).length := by
      have h1 := congrArg List.length hd
      rw [List.length_drop] at h1
      have h2 := many_le noBl (flat l)
      rw [hm] at h2
      omega
    have hge := flat_len (all_drop h (many noBl l))
    rw [List.length_drop] at hge
    have hle := many_le noBl l
    rw [if_pos hl, if_pos hl, hf, hm]
    by_cases he : many noBl l = l.length
    · rw [if_pos he, if_pos]
      rw [List.drop_eq_nil_of_le (by omega)] at hlf
      have : (flat ([] : List Int)).length = 0 := rfl
      omega
    · rw [if_neg he, if_neg (by omega)]
      have h32 : (l.drop (many noBl l))[0]? = some 32 := by
        rw [← get_drop]
        have hlt : many noBl l < l.length := by omega
        have := many_end (p := noBl) (l := l) (List.getElem?_eq_getElem hlt)
        unfold noBl at this
        rw [decide_eq_false_iff_not] at this
        rw [List.getElem?_eq_getElem hlt]
        exact congrArg some (by unfold noBl; omega)
      have hd1 : (flat l).drop (many noBl l + 1) = flat (l.drop (many noBl l + 1)) := by
        rw [drop_one (flat l), hd, flat_drop1 (all_drop h _) (by decide) h32, ← drop_one]
      rw [hd1, flat_num (all_drop h _)]
      generalize hD : l.drop (many noBl l + 1) = d
      have hok : d.all okb = true := by rw [← hD]; exact all_drop h _
      by_cases h0 : (numB d).2.2 = 0
      · have hiff : (numB d).2.1 = (flat d).length ↔ (numB d).2.1 = d.length := by
          constructor
          · intro h'
            have h1 := num_le d
            have h2 := flat_len hok
            omega
          · intro h'
            rw [flat_low hok (num_whole h0 h')]; exact h'
        simp only [hiff]
      · rw [if_neg (fun h' => h0 h'.1), if_neg (fun h' => h0 h'.1)]
  · rw [if_neg hl, if_neg hl]
end W
end Go.Proofs.YtdhighnbbpngpaaGreatDoor
