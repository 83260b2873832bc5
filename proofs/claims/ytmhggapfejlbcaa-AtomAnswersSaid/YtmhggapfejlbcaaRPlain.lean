/- What the document's Plain answers. -/
import Derived.Test.YtmhggapfejlbcaaROr
namespace Go.Proofs.Ytmhggapfejlbcaa
open Go.RowKit
open M (Rg)

set_option maxHeartbeats 400000 in
theorem rplain_any {w : World} {A : Option Addr} {n c : Nat} {a : List Rg} (ha : Rd w w.heap.size A n c a) :
    Calls Try.prog 43 #[.slice A n c] w (Fresh w (isPlain a)) := by
  have hcon := Lib.hid (ror_any ha (Rd.nil w w.heap.size))
  clear ha
  go_enter Try.func43, Try.ntmps43
  go_wp2_with fail
  refine hcon.out.mono ?_
  rintro e w1 ⟨A1, n1, c1, L, rfl, hL, h⟩
  have H := Lib.hid h
  have HL : Hid (isPlain a L) := (M.plainL_is hL.1 fun c => by rw [or_cov hL, has_nil, Bool.or_false]).symm
  clear h hL
  go_wp2
  go_ret
  exact ⟨A1, n1, c1, L, rfl, HL.out, H.out⟩
end Go.Proofs.Ytmhggapfejlbcaa
