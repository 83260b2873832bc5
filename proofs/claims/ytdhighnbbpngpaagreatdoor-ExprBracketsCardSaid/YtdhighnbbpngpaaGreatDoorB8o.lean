/- The library's tables, out of what the row lists; the arguments of layer 3. -/
import Derived.Test.YtdhighnbbpngpaaGreatDoorKOpen
import Derived.Test.YtdhighnbbpngpaaGreatDoorB8b
import Derived.Test.YtdhighnbbpngpaaGreatDoorTie
import Derived.Test.YtdhighnbbpngpaaGreatDoorCards
import Derived.PinnedBridge
import Derived.Lay
import Derived.Lib.LaidU8T
namespace Go.Proofs.YtdhighnbbpngpaaGreatDoor
open Go.ChangeShapes Go.WideShapes Go.ChangeAt Go.RowKit Go.Deep Go.Shelf Go.Lib

theorem cells_u8 : Tryz.prog.cellsOf 5 = 1 := by kernel_rfl
theorem cells_i64 : Tryz.prog.cellsOf 3 = 1 := by kernel_rfl
def tabRen : Ren := ⟨fun n => n, fun | 5 => 5 | 119 => 176 | 138 => 179 | 139 => 180 | n => n, fun | 3 => 0 | 4 => 1 | n => n⟩
theorem tabT : U8Types Tryz.prog tabRen := ⟨by kernel_rfl, by kernel_rfl, by kernel_rfl, by kernel_rfl⟩
theorem tabX : U8Extra Tryz.prog tabRen := ⟨by kernel_rfl, by kernel_rfl, by kernel_rfl, by kernel_rfl, by kernel_rfl, by kernel_rfl, by kernel_rfl⟩
def laid3 : List (String × DataW Unit) := [("unicode/utf8.acceptRanges", Rows.laid_unicode_utf8_acceptRanges), ("unicode/utf8.first", Rows.laid_unicode_utf8_first)]
theorem accept_eq : Rows.laid_unicode_utf8_acceptRanges (H := Unit) = acceptData := by kernel_rfl
theorem tabs_of {W : World} (h : laidMet Tryz.prog laid3 W) : Tabs W := by
  have h4 := Lib.laidMet.reads h (.head _)
  have h3 := Lib.laidMet.reads h (.tail _ (.head _))
  rw [accept_eq] at h4
  have e3 : Rows.laid_unicode_utf8_first = firstData := Pinned.utf8First_eq
  rw [e3] at h3
  exact utf8Tabs_of_readsT tabT tabX h3 h4
theorem byt_wf {L : List Int} (h : ∀ x ∈ L, (Lit.int .u8 x).wf = true) : Byt L := fun x hx => by
  have := h x hx
  simp [Lit.wf, IntKind.min, IntKind.max, IntKind.signed, IntKind.bits] at this
  omega
theorem u16_wf {x : Int} (h : (Lit.int .u16 x).wf = true) : 0 ≤ x ∧ x < 65536 := by
  simp [Lit.wf, IntKind.min, IntKind.max, IntKind.signed, IntKind.bits] at h
  omega
end Go.Proofs.YtdhighnbbpngpaaGreatDoor
