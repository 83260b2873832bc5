/- Whether a list is too long. -/
import Derived.Test.YtmhggapfejlbcaaMem2
namespace Go.Proofs.Ytmhggapfejlbcaa
open Go.RowKit
open M (Rg)

set_option maxHeartbeats 400000 in
theorem tooMany_any (A : Option Addr) (n c : Nat) (w : World) (hn : n ≤ maxLen) :
    Calls Try.prog 39 #[.slice A n c] w fun e w' => e = .returned (.bool (decide (400 < n))) ∧ w = w' := by
  unfold maxLen at hn
  go_enter Try.func39, Try.ntmps39
  go_wp2
  go_ret
  exact ⟨by simp; omega, rfl⟩
end Go.Proofs.Ytmhggapfejlbcaa
