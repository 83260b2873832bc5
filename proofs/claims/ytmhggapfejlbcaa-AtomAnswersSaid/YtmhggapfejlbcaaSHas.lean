/- Whether a character is in a set. -/
import Derived.Test.YtmhggapfejlbcaaSTooMany
import Derived.Test.YtmhggapfejlbcaaShelf
namespace Go.Proofs.Ytmhggapfejlbcaa
open Go.RowKit Go.Shelf
open M (Rg)

set_option maxHeartbeats 400000 in
theorem has_pred (x : Int) (B : Nat) (w : World) (hB : B < w.heap.size) (hcell : w.cell? ⟨B, 0, none⟩ = some (.int .i64 x)) :
    PredBelow Try.prog 41 #[.pointer (some ⟨B, 0, none⟩)] (fun r => .agg (encR r).toArray) (fun r => M.inR r x) w := fun W r hb => by
  have hc : W.cell? ⟨B, 0, none⟩ = some (.int .i64 x) := (hb.cell (p := ⟨B, 0, none⟩) hB).trans hcell
  have hBW : B < W.heap.size := Nat.lt_of_lt_of_le hB hb.size
  have hne : B ≠ W.heap.size := by omega
  have HB := Lib.hid hb
  clear hb hcell
  show Calls Try.prog 41 #[.agg #[.int .i64 r.1, .int .i64 r.2], .pointer (some ⟨B, 0, none⟩)] W _
  unfold M.inR
  by_cases h1 : r.1 ≤ x <;> by_cases h2 : x ≤ r.2
  all_goals
    go_enter Try.func41, Try.ntmps41
    go_wp2
    go_ret
    exact ⟨by simp [h1, h2], HB.out.alloc HB.out.size _⟩
set_option maxHeartbeats 400000 in
theorem index_none (A : Option Addr) (c : Nat) (fv : Value) (w : World) : Calls Try.prog 51 #[.slice A 0 c, fv] w fun e w' => e = .returned (.int .i64 (-1)) ∧ w = w' := by
  go_enter Try.func51, Try.ntmps51
  go_wp2
  refine wp_loop_rounds 1 ?_
  rw [rounds_succ]
  go_wp2
  go_ret
  exact ⟨rfl, rfl⟩
set_option maxHeartbeats 400000 in
theorem contains_none (A : Option Addr) (c : Nat) (fv : Value) (w : World) : Calls Try.prog 40 #[.slice A 0 c, fv] w fun e w' => e = .returned (.bool false) ∧ w = w' := by
  go_enter Try.func40, Try.ntmps40
  go_wp2_with fail
  refine (index_none A c fv w).mono ?_
  rintro e w' ⟨rfl, rfl⟩
  go_wp2
  go_ret
  exact ⟨rfl, rfl⟩
theorem contains_any {w : World} {A : Option Addr} {n c : Nat} {a : List Rg} (ha : Rd w w.heap.size A n c a) (x : Int) :
    Calls Try.prog 40 #[.slice A n c, .func (.func 41) #[] #[.pointer (some ⟨w.heap.size, 0, none⟩)]] (w.alloc (.cells #[.int .i64 x] 3)) (Boo w (M.covb a x)) := by
  by_cases h0 : n = 0
  · subst h0
    have hL : a = [] := List.eq_nil_of_length_eq_zero ha.len
    subst hL
    exact (contains_none A c _ _).mono fun e w' ⟨he, hw⟩ => ⟨he, by rw [← hw]; exact (Below.refl _ _).alloc (Nat.le_refl _) _⟩
  · obtain ⟨b, off, rfl, hb, hc⟩ := ha.at_ (by omega)
    have eg : ∀ args w, (callFunc 41 args).run Try.prog w = .ok (.enter 41 args) w := enters_of Try.func41 (by kernel_rfl) rfl
    have hcon := AnyQ.slices_ContainsFunc Try.layRangeHasFunc 2 Try.isAgg38 Try.sizeOf38 encR encR_len (fun r => M.inR r x) 41 #[.pointer (some ⟨w.heap.size, 0, none⟩)] eg b off n c a (w.alloc (.cells #[.int .i64 x] 3))
      (has_pred x w.heap.size _ (by simp) (by simp)) (by rw [ha.len]; exact Nat.le_refl _) (by have := ha.cap; have := ha.capm; unfold maxLen at *; omega) (by simp; omega) (fun j hj i v hi => by
        refine (World.cell?_alloc_lt w _ _ hb).trans ?_
        rw [Nat.add_assoc]
        refine hc _ _ ?_
        have hj2 : a[j]! = a[j] := by simp [hj]
        rw [hj2] at hi
        match i, hi with
        | 0, hi => simp [encR] at hi; rw [← hi]; exact cellsR_lo a j hj
        | 1, hi => simp [encR] at hi; rw [← hi]; exact cellsR_hi a j hj
        | i + 2, hi => simp [encR] at hi)
    change Calls Try.prog 40 _ _ _ at hcon
    rw [List.take_of_length_le (by rw [ha.len]; exact Nat.le_refl _), any_cov] at hcon
    exact hcon.mono fun e w' ⟨he, hw⟩ => ⟨he, ((Below.refl _ w).alloc (Nat.le_refl _) _).trans (hw.mono (by simp))⟩
set_option maxHeartbeats 1000000 in
theorem has_any {w : World} {A : Option Addr} {n c : Nat} {a : List Rg} (ha : Rd w w.heap.size A n c a) (x : Int) :
    Calls Try.prog 27 #[.slice A n c, .int .i64 x] w (Boo w (M.hasB a x)) := by
  have hn : n ≤ maxLen := Nat.le_trans ha.cap ha.capm
  have HC := Lib.hid (contains_any ha x)
  have hl := ha.len
  have hB : Below w.heap.size w (w.alloc (.cells #[.int .i64 x] 3)) := (Below.refl _ _).alloc (Nat.le_refl _) _
  have HB := Lib.hid hB
  clear hB
  by_cases h1 : 400 < n
  · have HQ : Hid (M.hasB a x = false) := by show M.hasB a x = false; unfold M.hasB; rw [decide_eq_false (by omega)]; rfl
    have g1 : decide (400 < n) = true := by simpa using h1
    clear ha hl HC
    go_enter Try.func27, Try.ntmps27
    go_wp2_with (go_at_call 39; refine (tooMany_any _ _ _ _ hn).mono ?_; rintro e w' ⟨rfl, rfl⟩)
    go_ret
    exact ⟨by rw [HQ.out]; rfl, HB.out⟩
  · have g1 : decide (400 < n) = false := by simpa using h1
    by_cases h2 : x < 0
    · have HQ : Hid (M.hasB a x = false) := by show M.hasB a x = false; unfold M.hasB M.isch; rw [decide_eq_false (show ¬ 0 ≤ x by omega)]; simp
      clear ha hl HC
      go_enter Try.func27, Try.ntmps27
      go_wp2_with (go_at_call 39; refine (tooMany_any _ _ _ _ hn).mono ?_; rintro e w' ⟨rfl, rfl⟩)
      go_ret
      exact ⟨by rw [HQ.out]; rfl, HB.out⟩
    · by_cases h3 : 1114111 < x
      · have HQ : Hid (M.hasB a x = false) := by show M.hasB a x = false; unfold M.hasB M.isch; rw [decide_eq_false (show ¬ x ≤ 1114111 by omega)]; simp
        clear ha hl HC
        go_enter Try.func27, Try.ntmps27
        go_wp2_with (go_at_call 39; refine (tooMany_any _ _ _ _ hn).mono ?_; rintro e w' ⟨rfl, rfl⟩)
        go_ret
        exact ⟨by rw [HQ.out]; rfl, HB.out⟩
      · have HQ : Hid (M.hasB a x = M.covb a x) := by show M.hasB a x = M.covb a x; unfold M.hasB M.isch; rw [decide_eq_true (show a.length ≤ 400 by omega), decide_eq_true (show 0 ≤ x by omega), decide_eq_true (show x ≤ 1114111 by omega)]; simp
        clear ha hl
        go_enter Try.func27, Try.ntmps27
        go_wp2_with (first | (go_at_call 39; refine (tooMany_any _ _ _ _ hn).mono ?_; rintro e w' ⟨rfl, rfl⟩) | (go_at_call 40; refine HC.out.mono ?_; rintro e w' ⟨rfl, hb⟩))
        go_ret
        exact ⟨by rw [HQ.out]; rfl, hb⟩
end Go.Proofs.Ytmhggapfejlbcaa
