/- Whether two lists of ranges are the same, as the document's answers ask it. -/
import Derived.Test.YtmhggapfejlbcaaMem2
namespace Go.Proofs.Ytmhggapfejlbcaa
open Go.RowKit
open M (Rg)

set_option maxHeartbeats 1000000 in
theorem ranges_any {w : World} {B : Nat} {A A' : Option Addr} {n m c d : Nat} {a b : List Rg} (ha : Rd w B A n c a) (hb : Rd w B A' m d b) :
    Calls Try.prog 24 #[.slice A n c, .slice A' m d] w (Eqs w a b) := by
  have hn : n ≤ maxLen := Nat.le_trans ha.cap ha.capm
  have hm : m ≤ maxLen := Nat.le_trans hb.cap hb.capm
  unfold maxLen at hn hm
  by_cases hnm : n = m
  · subst hnm
    have hne := neq_R.1
    have hgd := neq_R.2
    have HN := Lib.hid hne
    have HG := Lib.hid hgd
    clear hne hgd
    have g0 : ((n : Int) != (n : Int)) = false := by simp
    go_enter Try.func24, Try.ntmps24
    go_wp2_with fail
    go_loopw [5] (fun i wx => ∃ k : Nat, k ≤ n ∧ i = .int .i64 k ∧ a.take k = b.take k ∧ ∃ q, wx = w.drewN q) (fun i _ => n - (intOf i).toNat)
    case atStart => exact ⟨0, Nat.zero_le _, rfl, rfl, 0, rfl⟩
    case round =>
      obtain ⟨k, hk, rfl, ht, q, rfl⟩ := hrel
      have HT := Lib.hid ht
      clear ht
      by_cases hlt : k < n
      · obtain ⟨b1, o1, lo, hi, rfl, _, hr, k1, k2⟩ := ha.got hlt
        obtain ⟨b2, o2, lo', hi', rfl, _, hr', k3, k4⟩ := hb.got hlt
        have HS := Lib.hid (take_same HT.out hr hr')
        have hne : ∀ w, Sem.run Try.prog (binOp .neq 38 (.agg #[.int .i64 lo, .int .i64 hi]) (.agg #[.int .i64 lo', .int .i64 hi'])) w = .ok (.bool (!eqR (lo, hi) (lo', hi'))) w := fun w => HN.out (lo, hi) (lo', hi') w
        have hgd : ∀ op x y w, Sem.run Try.prog (eqGuard op 38 x y (.agg #[.int .i64 lo, .int .i64 hi]) (.agg #[.int .i64 lo', .int .i64 hi'])) w = .ok () w := fun op x y w => HG.out op x y (lo, hi) (lo', hi') w
        clear hr hr' HT ha hb HN HG
        cases heq : eqR (lo, hi) (lo', hi')
        · have HQ := Lib.hid (HS.out.2 heq)
          rw [heq] at hne
          clear heq HS
          go_wp2
          go_quiet (fail)
          go_wp2
          go_ret
          exact ⟨by rw [sameL_no HQ.out]; rfl, _, drewN_two _ _ _⟩
        · have HQ := Lib.hid (HS.out.1 heq)
          rw [heq] at hne
          clear heq HS
          go_wp2
          go_quiet (fail)
          go_wp2
          go_roundw
          case rel => exact ⟨k + 1, by omega, by go_num, HQ.out, _, rfl⟩
          case measure => simp [intOf]; omega
      · have HQ : Hid (a = b) := by
          have h1 := HT.out
          rwa [List.take_of_length_le (by rw [ha.len]; omega), List.take_of_length_le (by rw [hb.len]; omega)] at h1
        clear ha hb HT
        go_wp2
        go_ret
        exact ⟨by rw [sameL_yes HQ.out]; rfl, _, rfl⟩
  · have HQ : Hid (a ≠ b) := fun e => hnm (by rw [← ha.len, ← hb.len, e])
    have g0 : ((n : Int) != (m : Int)) = true := by simp; omega
    clear ha hb
    go_enter Try.func24, Try.ntmps24
    go_wp2
    go_ret
    exact ⟨by rw [sameL_no HQ.out]; rfl, 0, rfl⟩
theorem ranges_yes {w : World} {B : Nat} {A A' : Option Addr} {n m c d : Nat} {a : List Rg} (ha : Rd w B A n c a) (hb : Rd w B A' m d a) :
    Calls Try.prog 24 #[.slice A n c, .slice A' m d] w (Boo w true) :=
  (ranges_any ha hb).mono fun _ _ ⟨he, q, hq⟩ => ⟨by rw [he, sameL_yes rfl], by rw [hq]; exact below_drewN (Below.refl _ _) q⟩
end Go.Proofs.Ytmhggapfejlbcaa
