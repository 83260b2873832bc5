/- The small functions of quote, and of the document's answer: letters and digits, characters, digits. -/
import Derived.Test.YtdhighnbbpngpaaGreatDoorKMem
import Derived.Test.YtdhighnbbpngpaaGreatDoorQM
namespace Go.Proofs.YtdhighnbbpngpaaGreatDoor
open Go.RowKit
open Q (isC plainB digV)

theorem ret_bool {a b : Bool} (h : a = b) : Ending.returned (.bool a) = .returned (.bool b) := by rw [h]
theorem ret_i64 {a b : Int} (h : a = b) : Ending.returned (.int .i64 a) = .returned (.int .i64 b) := by rw [h]
theorem plain_any (c : Int) (w : World) : Calls Tryz.prog 100 #[.int .i64 c] w fun e w' => e = .returned (.bool (plainB c)) ∧ w = w' := by
  go_enter Tryz.func100, Tryz.ntmps100
  go_wp2
  all_goals
    go_ret
    refine ⟨ret_bool ?_, rfl⟩
    rw [Bool.eq_iff_iff, Q.plain_iff]
    simp
    try omega
theorem isc_any (c : Int) (w : World) : Calls Tryz.prog 177 #[.int .i64 c] w fun e w' => e = .returned (.bool (isC c)) ∧ w = w' := by
  go_enter Tryz.func177, Tryz.ntmps177
  go_wp2
  all_goals
    go_ret
    refine ⟨ret_bool ?_, rfl⟩
    rw [Bool.eq_iff_iff, Q.isC_iff]
    simp
    try omega
theorem digit_any (c : Int) (w : World) : Calls Tryz.prog 233 #[.int .i64 c] w fun e w' => e = .returned (.int .i64 (digV c)) ∧ w = w' := by
  go_enter Tryz.func233, Tryz.ntmps233
  go_wp2
  all_goals
    go_ret
    refine ⟨ret_i64 ?_, rfl⟩
    unfold digV
    (repeat' split) <;> omega
end Go.Proofs.YtdhighnbbpngpaaGreatDoor
