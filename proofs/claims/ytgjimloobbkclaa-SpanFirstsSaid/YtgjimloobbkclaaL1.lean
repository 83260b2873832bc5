/- The statement SpanFirsts as the program runs it: it answers true, and what lay there before is as it was. -/
import Derived.Test.YtgjimloobbkclaaC10
namespace Go.Proofs.Ytgjimloobbkclaa
open Go.RowKit
open M (Rg)

theorem cons_of_first {l : List Rg} (h : ¬ firstF (M.plainL l) < 0) : ∃ r t, M.plainL l = r :: t := by
  cases hp : M.plainL l with
  | nil => rw [hp] at h; simp [firstF] at h
  | cons r t => exact ⟨r, t, rfl⟩
/-- The set without its least character. -/
def dropF (r : Rg) (t : List Rg) : List Rg := if r.1 < r.2 then (r.1 + 1, r.2) :: t else t
theorem dropF_ok {r : Rg} {t : List Rg} (h : M.LF 0 (r :: t)) : M.LF 0 (dropF r t) ∧ (∀ c, M.covb (dropF r t) c = (M.covb (r :: t) c && !(decide (c = r.1)))) ∧ szF (dropF r t) = szF (r :: t) - 1 ∧ (dropF r t).length ≤ (r :: t).length := by
  obtain ⟨h1, h2, h3, h4⟩ := h
  unfold dropF
  by_cases g : r.1 < r.2
  · rw [if_pos g]
    refine ⟨⟨by show 0 ≤ r.1 + 1; omega, by show r.1 + 1 ≤ r.2; omega, h3, h4⟩, fun c => ?_, ?_, by simp⟩
    · by_cases e : c = r.1
      · subst e
        have : M.covb t r.1 = false := M.LF_low h4 (by omega)
        simp [M.covb, this, M.inR]; omega
      · have d : decide (c = r.1) = false := decide_eq_false e
        rw [d]
        simp only [M.covb, Bool.not_false, Bool.and_true]
        congr 1
        rw [Bool.eq_iff_iff, M.inR_iff, M.inR_iff]; simp; omega
    · simp [szF]; omega
  · rw [if_neg g]
    have e1 : r.1 = r.2 := by omega
    refine ⟨M.LF_mono h4 (by omega), fun c => ?_, ?_, by simp⟩
    · by_cases e : c = r.1
      · subst e
        have : M.covb t r.1 = false := M.LF_low h4 (by omega)
        simp [this]
      · have d : decide (c = r.1) = false := decide_eq_false e
        rw [d]
        simp only [M.covb, Bool.not_false, Bool.and_true]
        rw [(M.inR_not r c).2 (by omega)]; rfl
    · simp [szF]; omega
theorem has_one (f : Int) (h0 : 0 ≤ f) (h1 : f ≤ 1114111) (c : Int) : M.hasB [(f, f)] c = decide (c = f) := by
  rw [Bool.eq_iff_iff]; simp [M.hasB, M.isch, M.covb, M.inR]; omega
theorem plain_one (f : Int) (h0 : 0 ≤ f) (h1 : f ≤ 1114111) : M.plainL [(f, f)] = [(f, f)] := M.plainL_is (by simp [M.LF]; omega) fun c => by
  rw [has_one f h0 h1, Bool.eq_iff_iff]; simp [M.covb, M.inR]; omega
theorem less_one {l L : List Rg} {r : Rg} {t : List Rg} (hl : l.length ≤ 300) (hp : M.plainL l = r :: t) (h : IsTold (fun x y => x && !y) l [(r.1, r.1)] L) : szF (M.plainL L) = szF (M.plainL l) - 1 := by
  obtain ⟨p1, p2, p3⟩ := M.plainL_ok l
  rw [hp] at p1 p2 p3
  obtain ⟨d1, d2, d3, d4⟩ := dropF_ok p1
  have q := M.LF_mem p1 r (by simp)
  have e : L = dropF r t := told_is h d1 fun c => by
    rw [d2, p2, has_one r.1 (by omega) (by omega)]
    conv => lhs; rw [M.hasB_isch]
    rw [Bool.and_assoc]
  subst e
  have : M.plainL (dropF r t) = dropF r t := M.plainL_is d1 fun c => (M.hasB_least d1 (by omega) c).symm
  rw [this, d3, hp]

set_option maxHeartbeats 2000000 in
set_option maxRecDepth 100000 in
theorem firsts_walk {w : World} {A : Option Addr} {n c : Nat} {l : List Rg} (hl : Rd w w.heap.size A n c l) (x : Int) :
    Calls Try.prog 6 #[.slice A n c, .int .i64 x] w (Boo w true) := by
  have hn : n ≤ maxLen := Nat.le_trans hl.cap hl.capm
  unfold maxLen at hn
  have R0 := Lib.hid hl
  clear hl
  go_enter Try.func6, Try.ntmps6
  go_wp2_with fail
  refine (alive_any w).mono ?_
  rintro e W1 ⟨rfl, hb⟩
  have R1 := Lib.hid (R0.out.on hb)
  have B1 := Lib.hid hb
  clear hb R0
  by_cases h300 : 300 < n
  · go_wp2
    go_ret
    exact ⟨rfl, B1.out⟩
  · go_wp2_with fail
    refine (first_any R1.out).mono ?_
    rintro e W2 ⟨rfl, hb⟩
    have R2 := Lib.hid (R1.out.on hb)
    have B2 := Lib.hid (B1.out.trans (hb.mono B1.out.size))
    clear hb R1 B1
    by_cases hf : firstF (M.plainL l) < 0
    · have hp : M.plainL l = [] := by
        cases hp : M.plainL l with
        | nil => rfl
        | cons r t =>
          have := (M.plainL_ok l).1; rw [hp] at this hf
          have := this.1; simp [firstF] at hf; omega
      have hx : M.hasB l x = false := by rw [← (M.plainL_ok l).2.1, hp]; rfl
      rw [show firstF (M.plainL l) = -1 from by rw [hp]; rfl]
      have HP := Lib.hid hp
      have HX := Lib.hid hx
      clear hp hx hf
      go_wp2_with fail
      refine (size_any R2.out).mono ?_
      rintro e W3 ⟨rfl, hb⟩
      have R3 := Lib.hid (R2.out.on hb)
      have B3 := Lib.hid (B2.out.trans (hb.mono B2.out.size))
      clear hb R2 B2
      rw [show szF (M.plainL l) = 0 from by rw [HP.out]; rfl]
      go_wp2_with fail
      refine (has_any R3.out x).mono ?_
      rintro e W4 ⟨rfl, hb⟩
      have B4 := Lib.hid (B3.out.trans (hb.mono B3.out.size))
      clear hb R3 B3
      rw [HX.out]
      go_wp2
      go_ret
      exact ⟨rfl, B4.out⟩
    · obtain ⟨r, t, hp⟩ := cons_of_first hf
      have hlf := (M.plainL_ok l).1
      rw [hp] at hlf
      have q := M.LF_mem hlf r (by simp)
      have q1 : 0 ≤ r.1 := q.1
      have q2 : r.1 ≤ 1114111 := by omega
      rw [show firstF (M.plainL l) = r.1 from by rw [hp]; rfl]
      have HP := Lib.hid hp
      have hin : M.hasB l r.1 = true := by rw [← (M.plainL_ok l).2.1, hp]; exact M.LF_head hlf
      have hlow : x < r.1 → M.hasB l x = false := fun h => by
        rw [← (M.plainL_ok l).2.1, hp]; exact M.LF_low (lo := r.1) (L := r :: t) ⟨Int.le_refl _, hlf.2⟩ h
      have HI := Lib.hid hin
      have HL := Lib.hid hlow
      have hsz := szF_least hlf (Int.le_refl 0)
      have hsz1 : 1 ≤ szF (r :: t) := by
        have := szF_least hlf.2.2.2 (by omega)
        simp only [szF, List.map_cons, List.sum_cons] at *; omega
      rw [← hp] at hsz hsz1
      have hsz2 : szF (M.plainL l) ≤ 1114112 := by have := hsz.2; omega
      have hL300 : l.length ≤ 300 := by rw [R2.out.len]; omega
      have HLL := Lib.hid hL300
      clear hp hlf q hin hlow hf hsz hL300
      generalize hs : szF (M.plainL l) = S at *
      have HS := Lib.hid hs
      clear hs
      generalize hfr : r.1 = f at *
      have HF := Lib.hid hfr
      clear hfr
      go_wp2_with fail
      refine (has_any (R2.out.push _) f).mono ?_
      rintro e W3 ⟨rfl, hb⟩
      have R3 := Lib.hid ((R2.out.push _).on hb)
      have O3 := Lib.hid ((rd_one W2 f f 34).on hb)
      have B3 := Lib.hid (B2.out.trans (((below_push W2 _).trans (hb.mono (below_push W2 _).size)).mono B2.out.size))
      clear hb R2 B2
      rw [HI.out]
      by_cases hx : f ≤ x
      · go_wp2_with fail
        refine (less_any R3.out O3.out).mono ?_
        rintro e W4 ⟨A1, n1, c1, L1, rfl, hL, hr, hb⟩
        have HZ : Hid (szF (M.plainL L1) = S - 1) := by
          show szF (M.plainL L1) = S - 1
          rw [← HS.out]
          exact less_one HLL.out HP.out (by rw [HF.out]; exact hL)
        have R4 := Lib.hid (R3.out.on hb)
        have O4 := Lib.hid (O3.out.on hb)
        have B4 := Lib.hid (B3.out.trans (hb.mono B3.out.size))
        have Q4 := Lib.hid hr
        clear hb R3 O3 B3 hL hr
        go_wp2_with fail
        refine (size_any Q4.out).mono ?_
        rintro e W5 ⟨rfl, hb⟩
        rw [HZ.out]
        have R5 := Lib.hid (R4.out.on hb)
        have O5 := Lib.hid (O4.out.on hb)
        have B5 := Lib.hid (B4.out.trans (hb.mono B4.out.size))
        clear hb R4 O4 B4 Q4
        go_wp2_with fail
        refine (size_any R5.out).mono ?_
        rintro e W6 ⟨rfl, hb⟩
        rw [HS.out]
        have O6 := Lib.hid (O5.out.on hb)
        have B6 := Lib.hid (B5.out.trans (hb.mono B5.out.size))
        clear hb R5 O5 B5
        have ge : ((S - 1 : Int) == S - 1) = true := by simp
        go_wp2_with fail
        refine (size_any O6.out).mono ?_
        rintro e W7 ⟨rfl, hb⟩
        rw [show szF (M.plainL [(f, f)]) = 1 from by rw [plain_one f q1 q2]; simp [szF]]
        have B7 := Lib.hid (B6.out.trans (hb.mono B6.out.size))
        clear hb O6 B6
        go_wp2
        go_ret
        exact ⟨rfl, B7.out⟩
      · go_wp2_with fail
        refine (has_any R3.out x).mono ?_
        rintro e W4 ⟨rfl, hb⟩
        have R4 := Lib.hid (R3.out.on hb)
        have O4 := Lib.hid (O3.out.on hb)
        have B4 := Lib.hid (B3.out.trans (hb.mono B3.out.size))
        clear hb R3 O3 B3
        rw [HL.out (by omega)]
        go_wp2_with fail
        refine (less_any R4.out O4.out).mono ?_
        rintro e W5 ⟨A1, n1, c1, L1, rfl, hL, hr, hb⟩
        have HZ : Hid (szF (M.plainL L1) = S - 1) := by
          show szF (M.plainL L1) = S - 1
          rw [← HS.out]
          exact less_one HLL.out HP.out (by rw [HF.out]; exact hL)
        have R5 := Lib.hid (R4.out.on hb)
        have O5 := Lib.hid (O4.out.on hb)
        have B5 := Lib.hid (B4.out.trans (hb.mono B4.out.size))
        have Q5 := Lib.hid hr
        clear hb R4 O4 B4 hL hr
        go_wp2_with fail
        refine (size_any Q5.out).mono ?_
        rintro e W6 ⟨rfl, hb⟩
        rw [HZ.out]
        have R6 := Lib.hid (R5.out.on hb)
        have O6 := Lib.hid (O5.out.on hb)
        have B6 := Lib.hid (B5.out.trans (hb.mono B5.out.size))
        clear hb R5 O5 B5 Q5
        go_wp2_with fail
        refine (size_any R6.out).mono ?_
        rintro e W7 ⟨rfl, hb⟩
        rw [HS.out]
        have O7 := Lib.hid (O6.out.on hb)
        have B7 := Lib.hid (B6.out.trans (hb.mono B6.out.size))
        clear hb R6 O6 B6
        have ge : ((S - 1 : Int) == S - 1) = true := by simp
        go_wp2_with fail
        refine (size_any O7.out).mono ?_
        rintro e W8 ⟨rfl, hb⟩
        rw [show szF (M.plainL [(f, f)]) = 1 from by rw [plain_one f q1 q2]; simp [szF]]
        have B8 := Lib.hid (B7.out.trans (hb.mono B7.out.size))
        clear hb O7 B7
        go_wp2
        go_ret
        exact ⟨rfl, B8.out⟩
end Go.Proofs.Ytgjimloobbkclaa
