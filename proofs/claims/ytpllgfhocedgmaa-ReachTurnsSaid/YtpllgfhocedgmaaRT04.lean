/- The library's contracts, laid at this translation. -/
import Derived.Shelf.SlicesQ.Reverse
import Derived.Shelf.Slices.Reverse
import Derived.Test.YtpllgfhocedgmaaProg
namespace Go.Proofs
open Go.Shelf
def Try.layPatReverse_ren : Go.Shelf.Ren := ⟨fun | 35 => 59 | n => n, fun | 22 => 24 | 23 => 26 | 3 => 3 | 4 => 4 | 0 => 0 | n => n, fun | n => n⟩
theorem Try.layPatReverse : Go.Proofs.SlLaysE0.n35 Try.prog Try.layPatReverse_ren := {
 mixed := by kernel_rfl
 f35 := ⟨Try.f59.name, by decide, Try.func59.trans (congrArg some (by kernel_rfl))⟩
 t0 := Try.underlying0
 a0 := Try.isAgg0
 z0 := Try.sizeOf0
 v0 := Try.zeroValue0
 t3 := Try.underlying3
 a3 := Try.isAgg3
 z3 := Try.sizeOf3
 v3 := Try.zeroValue3
 t4 := Try.underlying4
 a4 := Try.isAgg4
 z4 := Try.sizeOf4
 v4 := Try.zeroValue4
 t22 := Try.underlying24
 a22 := Try.isAgg24
 z22 := Try.sizeOf24
 v22 := Try.zeroValue24 }
def Try.layIntReverse_ren : Go.Shelf.Ren := ⟨fun | 112 => 48 | n => n, fun | 28 => 23 | 3 => 3 | 4 => 4 | 0 => 0 | n => n, fun | n => n⟩
theorem Try.layIntReverse : Go.Proofs.Lays.n112 Try.prog Try.layIntReverse_ren := {
 mixed := by kernel_rfl
 f112 := Try.func48.trans (congrArg some (by kernel_rfl))
 t0 := Try.underlying0
 a0 := Try.isAgg0
 z0 := Try.sizeOf0
 v0 := Try.zeroValue0
 t3 := Try.underlying3
 a3 := Try.isAgg3
 z3 := Try.sizeOf3
 v3 := Try.zeroValue3
 t4 := Try.underlying4
 a4 := Try.isAgg4
 z4 := Try.sizeOf4
 v4 := Try.zeroValue4
 t28 := Try.underlying23
 a28 := Try.isAgg23
 z28 := Try.sizeOf23
 v28 := Try.zeroValue23 }
end Go.Proofs
