/- What the document's Same answers. -/
import Derived.Test.YtinddnedkadbaaaRPlain
import Derived.Test.YtinddnedkadbaaaRRanges
namespace Go.Proofs.Ytinddnedkadbaaa
open Go.RowKit
open M (Rg)

set_option maxHeartbeats 400000 in
theorem rsame_any {w : World} {A A' : Option Addr} {n m c d : Nat} {a b : List Rg} (ha : Rd w w.heap.size A n c a) (hb : Rd w w.heap.size A' m d b) :
    Calls Try.prog 23 #[.slice A n c, .slice A' m d] w (Boo w (sameL (M.plainL a) (M.plainL b))) := by
  have H1 := Lib.hid (rplain_any ha)
  have H2 := Lib.hid hb
  clear ha hb
  go_enter Try.func23, Try.ntmps23
  go_wp2_with fail
  refine H1.out.mono ?_
  rintro e w1 ⟨A1, n1, c1, L1, rfl, hL1, hr1, hb1⟩
  have hL1' : L1 = M.plainL a := hL1
  subst hL1'
  have H3 := Lib.hid (rplain_any (H2.out.on hb1))
  have HO1 := Lib.hid hr1
  have HB1 := Lib.hid hb1
  clear hr1 hb1 H1 H2 hL1
  go_wp2_with fail
  refine H3.out.mono ?_
  rintro e w2 ⟨A2, n2, c2, L2, rfl, hL2, hr2, hb2⟩
  have hL2' : L2 = M.plainL b := hL2
  subst hL2'
  have H4 := Lib.hid (ranges_any (HO1.out.on hb2) hr2)
  have HB2 := Lib.hid (HB1.out.trans (hb2.mono HB1.out.size))
  clear hr2 hb2 H3 HO1 HB1 hL2
  go_wp2_with fail
  refine H4.out.mono ?_
  rintro e w3 ⟨rfl, q, rfl⟩
  go_wp2
  go_ret
  exact ⟨rfl, below_drewN HB2.out q⟩
end Go.Proofs.Ytinddnedkadbaaa
