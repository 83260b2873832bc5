/- Whether two lists of numbers are the same, as the document's answers ask it. -/
import Derived.Test.YtcmbmhcilohecaaDoorKMem
namespace Go.Proofs.YtcmbmhcilohecaaDoor
open Go.RowKit

theorem take_sameI {a b : List Int} {k : Nat} {x y : Int} (ht : a.take k = b.take k) (ha : a[k]? = some x) (hb : b[k]? = some y) : (x = y → a.take (k + 1) = b.take (k + 1)) ∧ (x ≠ y → a ≠ b) := by
  obtain ⟨ha1, ha2⟩ := List.getElem?_eq_some_iff.1 ha
  obtain ⟨hb1, hb2⟩ := List.getElem?_eq_some_iff.1 hb
  refine ⟨fun h => ?_, fun h e => ?_⟩
  · rw [List.take_succ_eq_append_getElem ha1, List.take_succ_eq_append_getElem hb1, ha2, hb2, ht, h]
  · subst e; rw [ha] at hb; injection hb with hb; exact h hb
set_option maxHeartbeats 1000000 in
theorem kints_any {w : World} {B : Nat} {A A' : Option Addr} {n m c d : Nat} {a b : List Int} (ha : RdK .i64 w B A n c a) (hb : RdK .i64 w B A' m d b) :
    Calls Tryd.prog 14 #[.slice A n c, .slice A' m d] w fun e w' => e = .returned (.bool (decide (a = b))) ∧ ∃ q, w' = w.drewN q := by
  have hn : n ≤ maxLen := Nat.le_trans ha.cap ha.capm
  have hm : m ≤ maxLen := Nat.le_trans hb.cap hb.capm
  unfold maxLen at hn hm
  by_cases hnm : n = m
  · subst hnm
    have g0 : ((n : Int) != (n : Int)) = false := by simp
    go_enter Tryd.func14, Tryd.ntmps14
    go_wp2_with fail
    go_loopw [5] (fun i wx => ∃ k : Nat, k ≤ n ∧ i = .int .i64 k ∧ a.take k = b.take k ∧ ∃ q, wx = w.drewN q) (fun i _ => n - (intOf i).toNat)
    case atStart => exact ⟨0, Nat.zero_le _, rfl, rfl, 0, rfl⟩
    case round =>
      obtain ⟨k, hk, rfl, ht, q, rfl⟩ := hrel
      have HT := Lib.hid ht
      clear ht
      by_cases hlt : k < n
      · obtain ⟨b1, o1, x, rfl, _, hr, k1⟩ := ha.got hlt
        obtain ⟨b2, o2, y, rfl, _, hr', k3⟩ := hb.got hlt
        have HS := Lib.hid (take_sameI HT.out hr hr')
        clear hr hr' HT ha hb
        by_cases heq : x = y
        · have HQ := Lib.hid (HS.out.1 heq)
          have g1 : ((x : Int) != y) = false := by simpa using heq
          clear heq HS
          go_wp2
          go_quiet (fail)
          go_wp2
          go_roundw
          case rel => exact ⟨k + 1, by omega, by go_num, HQ.out, _, rfl⟩
          case measure => simp [intOf]; omega
        · have HQ := Lib.hid (HS.out.2 heq)
          have g1 : ((x : Int) != y) = true := by simpa using heq
          clear heq HS
          go_wp2
          go_quiet (fail)
          go_wp2
          go_ret
          exact ⟨by rw [decide_eq_false HQ.out]; rfl, _, kdrewN_two _ _ _⟩
      · have HQ : Hid (a = b) := by
          have h1 := HT.out
          rwa [List.take_of_length_le (by rw [ha.len]; omega), List.take_of_length_le (by rw [hb.len]; omega)] at h1
        clear ha hb HT
        go_wp2
        go_ret
        exact ⟨by rw [decide_eq_true HQ.out]; rfl, _, rfl⟩
  · have HQ : Hid (a ≠ b) := fun e => hnm (by rw [← ha.len, ← hb.len, e])
    have g0 : ((n : Int) != (m : Int)) = true := by simp; omega
    clear ha hb
    go_enter Tryd.func14, Tryd.ntmps14
    go_wp2
    go_ret
    exact ⟨by rw [decide_eq_false HQ.out]; rfl, 0, rfl⟩
theorem kints_yes {w : World} {B : Nat} {A A' : Option Addr} {n m c d : Nat} {a b : List Int} (ha : RdK .i64 w B A n c a) (hb : RdK .i64 w B A' m d b) (h : a = b) :
    Calls Tryd.prog 14 #[.slice A n c, .slice A' m d] w (BooK w true) :=
  (kints_any ha hb).mono fun _ _ ⟨he, q, hq⟩ => ⟨by rw [he, decide_eq_true h], by rw [hq]; exact kbelow_drewN (Below.refl _ _) q⟩
end Go.Proofs.YtcmbmhcilohecaaDoor
