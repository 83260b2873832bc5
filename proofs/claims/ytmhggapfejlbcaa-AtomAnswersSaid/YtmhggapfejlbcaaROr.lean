/- What the document's Or answers. -/
import Derived.Test.YtmhggapfejlbcaaRMade
namespace Go.Proofs.Ytmhggapfejlbcaa
open Go.RowKit
open M (Rg)

set_option maxHeartbeats 400000 in
theorem ror_any {w : World} {A B : Option Addr} {n m c d : Nat} {a b : List Rg} (ha : Rd w w.heap.size A n c a) (hb : Rd w w.heap.size B m d b) :
    Calls Try.prog 54 #[.slice A n c, .slice B m d] w (Fresh w (IsTold (fun x y => x || y) a b)) := by
  have hcon := Lib.hid (made_any ha hb 0 _ (.inl ⟨rfl, rfl⟩))
  clear ha hb
  go_enter Try.func54, Try.ntmps54
  go_wp2_with fail
  refine hcon.out.mono ?_
  rintro e w1 ⟨A1, n1, c1, L, rfl, h⟩
  have H := Lib.hid h
  clear h
  go_wp2
  go_ret
  exact ⟨A1, n1, c1, L, rfl, H.out⟩
end Go.Proofs.Ytmhggapfejlbcaa
