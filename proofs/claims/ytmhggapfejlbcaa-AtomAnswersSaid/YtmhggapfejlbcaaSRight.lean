/- Whether a list of ranges is least, as the program asks it. -/
import Derived.Test.YtmhggapfejlbcaaSTooMany
namespace Go.Proofs.Ytmhggapfejlbcaa
open Go.RowKit
open M (Rg)

set_option maxHeartbeats 1000000 in
theorem right_any {w : World} {A : Option Addr} {n c : Nat} {a : List Rg} (ha : Rd w w.heap.size A n c a) :
    Calls Try.prog 31 #[.slice A n c] w (Boo w (rightB a)) := by
  have hn : n ≤ maxLen := Nat.le_trans ha.cap ha.capm
  by_cases h1 : 400 < n
  · have HQ : Hid (rightB a = false) := by show rightB a = false; unfold rightB; rw [decide_eq_false (by have := ha.len; omega)]; rfl
    have g1 : decide (400 < n) = true := by simpa using h1
    clear ha
    go_enter Try.func31, Try.ntmps31
    go_wp2_with (go_at_call 39; refine (tooMany_any _ _ _ _ hn).mono ?_; rintro e w' ⟨rfl, rfl⟩)
    go_ret
    exact ⟨by rw [HQ.out]; rfl, Below.refl _ _⟩
  · have g1 : decide (400 < n) = false := by simpa using h1
    have HQ : Hid (rightB a = lfb 0 a) := by show rightB a = lfb 0 a; unfold rightB; rw [decide_eq_true (by have := ha.len; omega)]; rfl
    have HR := Lib.hid ha
    clear ha
    go_enter Try.func31, Try.ntmps31
    go_wp2_with (go_at_call 39; refine (tooMany_any _ _ _ _ hn).mono ?_; rintro e w' ⟨rfl, rfl⟩)
    go_loopw [3, 10] (fun s i wx => ∃ (k : Nat) (la : Int), k ≤ n ∧ i = .int .i64 k ∧ s = .int .i64 la ∧ -2 ≤ la ∧ la ≤ 1114111 ∧ lfb 0 a = lfb (la + 2) (a.drop k) ∧ Below w.heap.size w wx) (fun _ i _ => n - (intOf i).toNat)
    case atStart => exact ⟨0, -2, Nat.zero_le _, rfl, rfl, by omega, by omega, rfl, Below.refl _ _⟩
    case round =>
      obtain ⟨k, la, hk, rfl, rfl, l1, l2, hl, hbel⟩ := hrel
      have HE := Lib.hid hbel
      by_cases hlt : k < n
      · obtain ⟨b, off, lo, hi, rfl, hb, hr, k1, k2⟩ := HR.out.got hlt
        have d1 := (hbel.cell (p := ⟨b, off + k * 2, none⟩) hb).trans k1
        have d2 := (hbel.cell (p := ⟨b, off + k * 2 + 1, none⟩) hb).trans k2
        rw [drop_cons hr] at hl
        have hl2 : lfb 0 a = (decide (la + 2 ≤ lo) && (decide (lo ≤ hi) && (decide (hi ≤ 1114111) && lfb (hi + 2) (a.drop (k + 1))))) := hl
        have HL := Lib.hid hl2
        clear hbel hr k1 k2 hl hl2
        by_cases q1 : lo ≤ la + 1
        · have HF : Hid (lfb 0 a = false) := by
            show lfb 0 a = false; rw [HL.out, decide_eq_false (show ¬ la + 2 ≤ lo by omega)]; rfl
          go_wp2
          go_ret
          exact ⟨by rw [HQ.out, HF.out]; rfl, HE.out.alloc HE.out.size _⟩
        · by_cases q2 : hi < lo
          · have HF : Hid (lfb 0 a = false) := by
              show lfb 0 a = false; rw [HL.out, decide_eq_false (show ¬ lo ≤ hi by omega)]; simp
            go_wp2
            go_ret
            exact ⟨by rw [HQ.out, HF.out]; rfl, HE.out.alloc HE.out.size _⟩
          · by_cases q3 : 1114111 < hi
            · have HF : Hid (lfb 0 a = false) := by
                show lfb 0 a = false; rw [HL.out, decide_eq_false (show ¬ hi ≤ 1114111 by omega)]; simp
              go_wp2
              go_ret
              exact ⟨by rw [HQ.out, HF.out]; rfl, HE.out.alloc HE.out.size _⟩
            · have HF : Hid (lfb 0 a = lfb (hi + 2) (a.drop (k + 1))) := by
                show lfb 0 a = lfb (hi + 2) (a.drop (k + 1)); rw [HL.out, decide_eq_true (show la + 2 ≤ lo by omega), decide_eq_true (show lo ≤ hi by omega), decide_eq_true (show hi ≤ 1114111 by omega)]; simp
              go_wp2
              go_roundw
              case rel => exact ⟨k + 1, hi, by omega, by go_num, rfl, by omega, by omega, HF.out, HE.out.alloc HE.out.size _⟩
              case measure => simp [intOf]; omega
      · have HF : Hid (lfb 0 a = true) := by
          show lfb 0 a = true; rw [hl, List.drop_eq_nil_of_le (by rw [HR.out.len]; omega)]; rfl
        clear hl hbel
        go_wp2
        go_ret
        exact ⟨by rw [HQ.out, HF.out]; rfl, HE.out⟩
end Go.Proofs.Ytmhggapfejlbcaa
