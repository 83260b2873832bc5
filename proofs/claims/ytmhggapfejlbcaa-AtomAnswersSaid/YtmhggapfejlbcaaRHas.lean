/- Whether a character is in a set, as the document's answers tell it. -/
import Derived.Test.YtmhggapfejlbcaaMem2
namespace Go.Proofs.Ytmhggapfejlbcaa
open Go.RowKit
open M (Rg)

set_option maxHeartbeats 1000000 in
theorem rhas_any {w : World} {B : Nat} {A : Option Addr} {n c : Nat} {a : List Rg} (ha : Rd w B A n c a) (x : Int) :
    Calls Try.prog 28 #[.slice A n c, .int .i64 x] w fun e w' => e = .returned (.bool (M.hasB a x)) ∧ w = w' := by
  have hn : n ≤ maxLen := Nat.le_trans ha.cap ha.capm
  unfold maxLen at hn
  have hl := ha.len
  have HR := Lib.hid ha
  clear ha
  by_cases hbad : x < 0 ∨ 1114111 < x ∨ 400 < n
  · have HQ : Hid (M.hasB a x = false) := by
      show M.hasB a x = false
      unfold M.hasB M.isch
      rcases hbad with g | g | g
      · rw [decide_eq_false (show ¬ 0 ≤ x by omega)]; simp
      · rw [decide_eq_false (show ¬ x ≤ 1114111 by omega)]; simp
      · rw [decide_eq_false (show ¬ a.length ≤ 400 by omega)]; rfl
    clear hl HR
    by_cases g1 : x < 0
    · go_enter Try.func28, Try.ntmps28
      go_wp2
      go_ret
      exact ⟨by rw [HQ.out]; rfl, rfl⟩
    · by_cases g2 : 1114111 < x
      · go_enter Try.func28, Try.ntmps28
        go_wp2
        go_ret
        exact ⟨by rw [HQ.out]; rfl, rfl⟩
      · have g3 : 400 < n := by omega
        go_enter Try.func28, Try.ntmps28
        go_wp2
        go_ret
        exact ⟨by rw [HQ.out]; rfl, rfl⟩
  · have g1 : ¬ x < 0 := by omega
    have g2 : ¬ 1114111 < x := by omega
    have g3 : ¬ 400 < n := by omega
    have HQ : Hid (M.hasB a x = M.covb a x) := by show M.hasB a x = M.covb a x; unfold M.hasB M.isch; rw [decide_eq_true (show a.length ≤ 400 by omega), decide_eq_true (show 0 ≤ x by omega), decide_eq_true (show x ≤ 1114111 by omega)]; simp
    clear hl hbad
    go_enter Try.func28, Try.ntmps28
    go_wp2_with fail
    go_loop [5] (fun i => ∃ k : Nat, k ≤ n ∧ i = .int .i64 k ∧ M.covb (a.take k) x = false) (fun i => n - (intOf i).toNat)
    case atStart => exact ⟨0, Nat.zero_le _, rfl, rfl⟩
    case round =>
      obtain ⟨k, hk, rfl, hg⟩ := hrel
      have HG := Lib.hid hg
      clear hg
      by_cases hlt : k < n
      · obtain ⟨b, off, lo, hi, rfl, _, hr, k1, k2⟩ := HR.out.got hlt
        have HK := Lib.hid hr
        clear hr
        by_cases h1 : lo ≤ x
        · by_cases h2 : x ≤ hi
          · have HF : Hid (M.covb a x = true) := by
              show M.covb a x = true
              rw [M.covb_iff]; exact ⟨(lo, hi), List.mem_of_getElem? HK.out, h1, h2⟩
            go_wp2
            go_ret
            exact ⟨by rw [HQ.out, HF.out]; rfl, rfl⟩
          · have HF : Hid (M.covb (a.take (k + 1)) x = false) := by
              show M.covb (a.take (k + 1)) x = false
              rw [cov_take HK.out, HG.out, decide_eq_false h2]; simp
            go_wp2
            go_round
            case rel => exact ⟨k + 1, by omega, by go_num, HF.out⟩
            case measure => simp [intOf]; omega
        · have HF : Hid (M.covb (a.take (k + 1)) x = false) := by
            show M.covb (a.take (k + 1)) x = false
            rw [cov_take HK.out, HG.out, decide_eq_false h1]; simp
          go_wp2
          go_round
          case rel => exact ⟨k + 1, by omega, by go_num, HF.out⟩
          case measure => simp [intOf]; omega
      · have HF : Hid (M.covb a x = false) := by
          show M.covb a x = false
          have := HG.out
          rwa [List.take_of_length_le (by rw [HR.out.len]; omega)] at this
        go_wp2
        go_ret
        exact ⟨by rw [HQ.out, HF.out]; rfl, rfl⟩
theorem rhas_quiet {w : World} {B : Nat} {A : Option Addr} {n c : Nat} {a : List Rg} (ha : Rd w B A n c a) (x : Int) (q : Nat) :
    Calls Try.prog 28 #[.slice A n c, .int .i64 x] (w.drewN q) fun e w'' => e = .returned (.bool (M.hasB a x)) ∧ ∃ m, w'' = w.drewN m :=
  (rhas_any (ha.drewN q) x).mono fun _ _ ⟨he, hw⟩ => ⟨he, q, hw.symm⟩
end Go.Proofs.Ytmhggapfejlbcaa
