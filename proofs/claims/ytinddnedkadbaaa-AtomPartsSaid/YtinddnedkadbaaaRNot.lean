/- What the document's Not answers. -/
import Derived.Test.YtinddnedkadbaaaRLess
namespace Go.Proofs.Ytinddnedkadbaaa
open Go.RowKit
open M (Rg)

set_option maxHeartbeats 400000 in
theorem rnot_any {w : World} {A : Option Addr} {n c : Nat} {a : List Rg} (ha : Rd w w.heap.size A n c a) :
    Calls Try.prog 26 #[.slice A n c] w (Fresh w (IsTold (fun x _ => !x) a [])) := by
  have hcon := Lib.hid (rless_any (rd_one w 0 1114111 47) (ha.push _))
  clear ha
  go_enter Try.func26, Try.ntmps26
  go_wp2_with fail
  refine hcon.out.mono ?_
  rintro e w1 ⟨A1, n1, c1, L, rfl, hL, hr, hb⟩
  have H := Lib.hid hr
  have HB := Lib.hid ((below_push w _).trans (hb.mono (below_push w (.cells #[.int .i64 0, .int .i64 1114111] 47)).size))
  have HL : Hid (IsTold (fun x _ => !x) a [] L) := ⟨hL.1, fun c => by rw [less_cov hL, has_all]⟩
  clear hr hL hb
  go_wp2
  go_ret
  exact ⟨A1, n1, c1, L, rfl, HL.out, H.out, HB.out⟩
end Go.Proofs.Ytinddnedkadbaaa
