/- What the small helpers of the sets of characters do: whether a list is too long, the list without a range that is behind, the stretch at a place. -/
import Derived.Test.YtgjimloobbkclaaMem
import Derived.Test.YtgjimloobbkclaaMath2
import Derived.Deep.QuietTactic
import Derived.BigQuiet
import Derived.RegionTactic
namespace Go.Proofs.Ytgjimloobbkclaa
open Go.RowKit
open M (Rg)

set_option maxHeartbeats 400000 in
theorem tooMany_any (A : Option Addr) (n c : Nat) (w : World) (hn : n ≤ maxLen) :
    Calls Try.prog 36 #[.slice A n c] w fun e w' => e = .returned (.bool (decide (400 < n))) ∧ w = w' := by
  unfold maxLen at hn
  go_enter Try.func36, Try.ntmps36
  go_wp2
  go_ret
  exact ⟨by simp; omega, rfl⟩

set_option maxHeartbeats 400000 in
theorem stretch_nil (A : Option Addr) (c : Nat) (f : Int) (w : World) :
    Calls Try.prog 45 #[.slice A 0 c, .int .i64 f] w fun e w' => e = .returned (.tuple #[.bool false, .int .i64 1114112]) ∧ w = w' := by
  go_enter Try.func45, Try.ntmps45
  go_wp2
  go_ret2
  exact ⟨rfl, rfl⟩

set_option maxHeartbeats 400000 in
theorem stretch_ahead (b off : Nat) (n c : Nat) (f lo : Int) (w : World) (hn : 0 < n) (hm : n ≤ maxLen) (h1 : w.cell? ⟨b, off, none⟩ = some (.int .i64 lo)) (hlt : f < lo) :
    Calls Try.prog 45 #[.slice (some ⟨b, off, none⟩) n c, .int .i64 f] w fun e w' => e = .returned (.tuple #[.bool false, .int .i64 lo]) ∧ ∃ q, w' = w.drewN q := by
  unfold maxLen at hm
  have g0 : ((n : Int) == 0) = false := by simp; omega
  go_enter Try.func45, Try.ntmps45
  go_wp2
  go_quiet (fail)
  go_wp2
  go_ret2
  exact ⟨rfl, _, rfl⟩
set_option maxHeartbeats 400000 in
theorem stretch_in (b off : Nat) (n c : Nat) (f lo hi : Int) (w : World) (hn : 0 < n) (hm : n ≤ maxLen) (h1 : w.cell? ⟨b, off, none⟩ = some (.int .i64 lo)) (h2 : w.cell? ⟨b, off + 1, none⟩ = some (.int .i64 hi)) (hhi : hi ≤ 1114111) (h0 : 0 ≤ hi) (hlt : ¬ f < lo) :
    Calls Try.prog 45 #[.slice (some ⟨b, off, none⟩) n c, .int .i64 f] w fun e w' => e = .returned (.tuple #[.bool true, .int .i64 (hi + 1)]) ∧ ∃ q, w' = w.drewN q := by
  unfold maxLen at hm
  have g0 : ((n : Int) == 0) = false := by simp; omega
  have g1 : decide (f < lo) = false := by simpa using hlt
  go_enter Try.func45, Try.ntmps45
  go_wp2
  go_quiet (fail)
  go_wp2
  go_ret2
  exact ⟨rfl, _, rfl⟩

theorem stretch_any {w : World} {B n c : Nat} {A : Option Addr} {L : List Rg} (h : Rd w B A n c L) (hL : M.LF 0 L) (f : Int) :
    Calls Try.prog 45 #[.slice A n c, .int .i64 f] w fun e w' => e = .returned (.tuple #[.bool (M.stretchF L f).1, .int .i64 (M.stretchF L f).2]) ∧ ∃ q, w' = w.drewN q := by
  have hm : n ≤ maxLen := Nat.le_trans h.cap h.capm
  cases L with
  | nil =>
    have := h.len; simp at this; subst this
    exact (stretch_nil A c f w).mono fun _ _ ⟨he, hw⟩ => ⟨he, 0, hw.symm⟩
  | cons r t =>
    obtain ⟨b, off, rfl, _, c1, c2⟩ := h.pair (k := 0) (by simp)
    have hn : 0 < n := by have := h.len; simp at this; omega
    obtain ⟨l1, l2, l3, _⟩ := hL
    simp only [M.stretchF]
    by_cases g : f < r.1
    · rw [if_pos g]; exact stretch_ahead b off n c f r.1 w hn hm (by simpa using c1) g
    · rw [if_neg g]; exact stretch_in b off n c f r.1 r.2 w hn hm (by simpa using c1) (by simpa using c2) l3 (by omega) g

set_option maxHeartbeats 400000 in
theorem ahead_nil (A : Option Addr) (c : Nat) (f : Int) (w : World) :
    Calls Try.prog 44 #[.slice A 0 c, .int .i64 f] w fun e w' => e = .returned (.slice A 0 c) ∧ w = w' := by
  go_enter Try.func44, Try.ntmps44
  go_wp2
  go_ret
  exact ⟨rfl, rfl⟩
set_option maxHeartbeats 400000 in
theorem ahead_keep (b off : Nat) (n c : Nat) (f hi : Int) (w : World) (hn : 0 < n) (h2 : w.cell? ⟨b, off + 1, none⟩ = some (.int .i64 hi)) (hlt : ¬ hi < f) :
    Calls Try.prog 44 #[.slice (some ⟨b, off, none⟩) n c, .int .i64 f] w fun e w' => e = .returned (.slice (some ⟨b, off, none⟩) n c) ∧ w = w' := by
  go_enter Try.func44, Try.ntmps44
  go_wp2
  go_ret
  exact ⟨rfl, rfl⟩
set_option maxHeartbeats 400000 in
theorem ahead_drop (b off : Nat) (n c : Nat) (f hi : Int) (w : World) (hn : 0 < n) (_hnc : n ≤ c) (_hm : c ≤ maxLen) (h2 : w.cell? ⟨b, off + 1, none⟩ = some (.int .i64 hi)) (hlt : hi < f) :
    Calls Try.prog 44 #[.slice (some ⟨b, off, none⟩) n c, .int .i64 f] w fun e w' => e = .returned (.slice (if c = 1 then some ⟨b, off, none⟩ else some ⟨b, off + 2, none⟩) (n - 1) (c - 1)) ∧ w = w' := by
  go_enter Try.func44, Try.ntmps44
  go_wp2
  all_goals (go_ret; exact ⟨rfl, rfl⟩)

theorem ahead_any {w : World} {B n c : Nat} {A : Option Addr} {L : List Rg} (h : Rd w B A n c L) (f : Int) :
    Calls Try.prog 44 #[.slice A n c, .int .i64 f] w fun e w' => (∃ A' n' c', e = .returned (.slice A' n' c') ∧ Rd w B A' n' c' (M.aheadF L f)) ∧ w = w' := by
  cases L with
  | nil =>
    have hl := h.len; simp at hl; subst hl
    exact (ahead_nil A c f w).mono fun _ _ ⟨he, hw⟩ => ⟨⟨_, _, _, he, h⟩, hw⟩
  | cons r t =>
    obtain ⟨b, off, rfl, _, c1, c2⟩ := h.pair (k := 0) (by simp)
    have hn : 0 < n := by have := h.len; simp at this; omega
    simp only [M.aheadF]
    by_cases g : r.2 < f
    · rw [if_pos g]; exact (ahead_drop b off n c f r.2 w hn h.cap h.capm (by simpa using c2) g).mono fun _ _ ⟨he, hw⟩ => ⟨⟨_, _, _, he, by have := h.tail hn; simpa [add_none] using this⟩, hw⟩
    · rw [if_neg g]; exact (ahead_keep b off n c f r.2 w hn (by simpa using c2) g).mono fun _ _ ⟨he, hw⟩ => ⟨⟨_, _, _, he, h⟩, hw⟩
end Go.Proofs.Ytgjimloobbkclaa
