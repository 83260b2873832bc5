/- The document's Plain. -/
import Derived.Test.YtdhighnbbpngpaaGreatDoorQA
namespace Go.Proofs.YtdhighnbbpngpaaGreatDoor
open Go.RowKit
open Q (isC plainB digV)

theorem rplain_any (c : Int) (w : World) : Calls Tryz.prog 103 #[.int .i64 c] w fun e w' => e = .returned (.bool (plainB c)) ∧ w = w' := by
  go_enter Tryz.func103, Tryz.ntmps103
  go_wp2
  all_goals
    go_ret
    refine ⟨ret_bool ?_, rfl⟩
    rw [Bool.eq_iff_iff, Q.plain_iff]
    simp
    try omega
end Go.Proofs.YtdhighnbbpngpaaGreatDoor
