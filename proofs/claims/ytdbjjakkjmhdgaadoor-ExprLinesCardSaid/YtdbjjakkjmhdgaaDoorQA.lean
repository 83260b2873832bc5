/- The small functions of quote, and of the document's answer: letters and digits, characters, digits. -/
import Derived.Test.YtdbjjakkjmhdgaaDoorKMem
import Derived.Test.YtdbjjakkjmhdgaaDoorQM
namespace Go.Proofs.YtdbjjakkjmhdgaaDoor
open Go.RowKit
open Q (isC plainB digV)

theorem ret_bool {a b : Bool} (h : a = b) : Ending.returned (.bool a) = .returned (.bool b) := by rw [h]
theorem ret_i64 {a b : Int} (h : a = b) : Ending.returned (.int .i64 a) = .returned (.int .i64 b) := by rw [h]
theorem plain_any (c : Int) (w : World) : Calls Tryd.prog 52 #[.int .i64 c] w fun e w' => e = .returned (.bool (plainB c)) ∧ w = w' := by
  go_enter Tryd.func52, Tryd.ntmps52
  go_wp2
  all_goals
    go_ret
    refine ⟨ret_bool ?_, rfl⟩
    rw [Bool.eq_iff_iff, Q.plain_iff]
    simp
    try omega
theorem isc_any (c : Int) (w : World) : Calls Tryd.prog 76 #[.int .i64 c] w fun e w' => e = .returned (.bool (isC c)) ∧ w = w' := by
  go_enter Tryd.func76, Tryd.ntmps76
  go_wp2
  all_goals
    go_ret
    refine ⟨ret_bool ?_, rfl⟩
    rw [Bool.eq_iff_iff, Q.isC_iff]
    simp
    try omega
theorem digit_any (c : Int) (w : World) : Calls Tryd.prog 87 #[.int .i64 c] w fun e w' => e = .returned (.int .i64 (digV c)) ∧ w = w' := by
  go_enter Tryd.func87, Tryd.ntmps87
  go_wp2
  all_goals
    go_ret
    refine ⟨ret_i64 ?_, rfl⟩
    unfold digV
    (repeat' split) <;> omega
end Go.Proofs.YtdbjjakkjmhdgaaDoor
