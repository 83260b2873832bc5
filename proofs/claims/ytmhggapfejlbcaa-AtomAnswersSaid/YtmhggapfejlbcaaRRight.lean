/- What the document's Right answers. -/
import Derived.Test.YtmhggapfejlbcaaRPlain
import Derived.Test.YtmhggapfejlbcaaRRanges
namespace Go.Proofs.Ytmhggapfejlbcaa
open Go.RowKit
open M (Rg)

set_option maxHeartbeats 400000 in
theorem rright_any {w : World} {A : Option Addr} {n c : Nat} {a : List Rg} (ha : Rd w w.heap.size A n c a) :
    Calls Try.prog 33 #[.slice A n c] w (Boo w (rightB a)) := by
  have hn : n ≤ maxLen := Nat.le_trans ha.cap ha.capm
  unfold maxLen at hn
  by_cases h4 : 400 < n
  · have HQ : Hid (rightB a = false) := by show rightB a = false; unfold rightB; rw [decide_eq_false (by have := ha.len; omega)]; rfl
    clear ha
    go_enter Try.func33, Try.ntmps33
    go_wp2
    go_ret
    exact ⟨by rw [HQ.out]; rfl, Below.refl _ _⟩
  · have HQ := Lib.hid (right_is a (by rw [ha.len]; omega))
    have H1 := Lib.hid (rplain_any ha)
    have H2 := Lib.hid ha
    clear ha
    go_enter Try.func33, Try.ntmps33
    go_wp2_with fail
    refine H1.out.mono ?_
    rintro e w1 ⟨A1, n1, c1, L1, rfl, hL1, hr1, hb1⟩
    have hL1' : L1 = M.plainL a := hL1
    subst hL1'
    have H4 := Lib.hid (ranges_any hr1 (H2.out.on hb1))
    have HB1 := Lib.hid hb1
    clear hr1 hb1 H1 H2 hL1
    go_wp2_with fail
    refine H4.out.mono ?_
    rintro e w3 ⟨rfl, q, rfl⟩
    rw [HQ.out]
    go_wp2
    go_ret
    exact ⟨rfl, below_drewN HB1.out q⟩
end Go.Proofs.Ytmhggapfejlbcaa
