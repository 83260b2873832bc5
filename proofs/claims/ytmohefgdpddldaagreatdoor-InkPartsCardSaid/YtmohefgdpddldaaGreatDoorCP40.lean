/- The tables that layer 7 looks at, out of what the row lists; an argument that is a list of items. -/
import Derived.Test.YtmohefgdpddldaaGreatDoorCP38
import Derived.Test.YtmohefgdpddldaaGreatDoorCP39
import Derived.Test.YtmohefgdpddldaaGreatDoorCP26
import Derived.Test.YtmohefgdpddldaaGreatDoorTie
import Derived.Test.YtmohefgdpddldaaGreatDoorCards
import Derived.PinnedBridge
import Derived.Lay
import Derived.Lib.LaidTab
import Derived.Lib.LaidU8
import Derived.Lib.AppendIntMem
set_option maxRecDepth 100000
namespace Go.Proofs.YtmohefgdpddldaaGreatDoor
open Go.ChangeShapes Go.WideShapes Go.ChangeAt Go.RowKit Go.Deep Go.Shelf Go.Lib
open Y (Nd It)

theorem cells_u8 : Tryz.prog.cellsOf 5 = 1 := by kernel_rfl
theorem cells_u64 : Tryz.prog.cellsOf 127 = 1 := by kernel_rfl
def laid3 : List (String × DataW Unit) := [("math/bits.deBruijn32tab", Rows.laid_math_bits_deBruijn32tab), ("math/bits.deBruijn64tab", Rows.laid_math_bits_deBruijn64tab), ("internal/strconv.uint64pow10", Rows.laid_internal_strconv_uint64pow10), ("unicode/utf8.acceptRanges", Rows.laid_unicode_utf8_acceptRanges), ("unicode/utf8.first", Rows.laid_unicode_utf8_first)]
def de64 : List Int := [0, 1, 56, 2, 57, 49, 28, 3, 61, 58, 42, 50, 38, 29, 17, 4, 62, 47, 59, 36, 45, 43, 51, 22, 53, 39, 33, 30, 24, 18, 12, 5, 63, 55, 48, 27, 60, 41, 37, 16, 46, 35, 44, 21, 52, 32, 23, 11, 54, 26, 40, 15, 34, 20, 31, 10, 25, 14, 19, 9, 13, 8, 7, 6]
theorem de64_eq : Rows.laid_math_bits_deBruijn64tab (H := Unit) = tabData .u8 de64 := by kernel_rfl
theorem pow_eq : Rows.laid_internal_strconv_uint64pow10 (H := Unit) = tabData .u64 Lib.pow10Tab := by kernel_rfl
theorem tab64_of {W : World} (h : laidMet Tryz.prog laid3 W) : Tab W := by
 have h4 := Lib.laidMet.reads h (.tail _ (.head _))
 rw [de64_eq] at h4
 obtain ⟨g, t, cs, fuel, p, hg, hty, hvar, hd⟩ := h4
 have n3 : Tryz.prog.globalNamed "math/bits.deBruijn64tab" = some 5 := by kernel_rfl
 have y3 : (Tryz.prog.globals[5]?).map (·.type) = some 148 := by kernel_rfl
 obtain rfl := Option.some.inj (n3.symm.trans hg)
 obtain rfl := Option.some.inj (y3.symm.trans hty)
 have hcs := cells_of_tab Tryz.underlying148 Tryz.underlying5 cells_u8 (by kernel_rfl) hd
 have := World.var?_cell hg hvar 15
 unfold Tab
 rw [this, ← Array.getElem?_toList, hcs]
 rfl
theorem pow_of {W : World} (h : laidMet Tryz.prog laid3 W) : Lib.TabIs Tryz.prog W "internal/strconv.uint64pow10" .u64 Lib.pow10Tab := by
 have h4 := Lib.laidMet.reads h (.tail _ (.tail _ (.head _)))
 rw [pow_eq] at h4
 obtain ⟨g, t, cs, fuel, p, hg, hty, hvar, hd⟩ := h4
 have n3 : Tryz.prog.globalNamed "internal/strconv.uint64pow10" = some 0 := by kernel_rfl
 have y3 : (Tryz.prog.globals[0]?).map (·.type) = some 134 := by kernel_rfl
 obtain rfl := Option.some.inj (n3.symm.trans hg)
 obtain rfl := Option.some.inj (y3.symm.trans hty)
 have hcs := cells_of_tab Tryz.underlying134 Tryz.underlying127 cells_u64 (by kernel_rfl) hd
 unfold Lib.TabIs
 rw [hvar, ← hcs]
theorem tabs_of {W : World} (h : laidMet Tryz.prog laid3 W) : TbB W.heap.size W := fun w' hb => by
 refine ⟨?_, Lib.tabBelow_of_tabIs (pow_of h) w' hb⟩
 have h1 := tab64_of h
 unfold Tab at h1 ⊢
 exact (hb.cell (klt_of_cell h1)).trans h1
end Go.Proofs.YtmohefgdpddldaaGreatDoor
