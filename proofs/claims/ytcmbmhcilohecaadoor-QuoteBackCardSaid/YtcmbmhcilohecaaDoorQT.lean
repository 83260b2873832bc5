/- The one table that layer 4 looks at, out of what the row lists; a string argument. -/
import Derived.Test.YtcmbmhcilohecaaDoorKOpen
import Derived.Test.YtcmbmhcilohecaaDoorQL
import Derived.Test.YtcmbmhcilohecaaDoorTie
import Derived.Test.YtcmbmhcilohecaaDoorCards
import Derived.PinnedBridge
import Derived.Lay
import Derived.Lib.LaidTab
import Derived.Lib.LaidU8
import Derived.ChangeMaps5
namespace Go.Proofs.YtcmbmhcilohecaaDoor
open Go.ChangeShapes Go.WideShapes Go.ChangeAt Go.RowKit Go.Deep Go.Shelf Go.Lib

theorem cells_u8 : Tryd.prog.cellsOf 5 = 1 := by kernel_rfl
theorem cells_i64 : Tryd.prog.cellsOf 3 = 1 := by kernel_rfl
def laid3 : List (String × DataW Unit) := [("math/bits.deBruijn32tab", Rows.laid_math_bits_deBruijn32tab), ("math/bits.deBruijn64tab", Rows.laid_math_bits_deBruijn64tab), ("internal/strconv.uint64pow10", Rows.laid_internal_strconv_uint64pow10)]
def de64 : List Int := [0, 1, 56, 2, 57, 49, 28, 3, 61, 58, 42, 50, 38, 29, 17, 4, 62, 47, 59, 36, 45, 43, 51, 22, 53, 39, 33, 30, 24, 18, 12, 5, 63, 55, 48, 27, 60, 41, 37, 16, 46, 35, 44, 21, 52, 32, 23, 11, 54, 26, 40, 15, 34, 20, 31, 10, 25, 14, 19, 9, 13, 8, 7, 6]
theorem de64_eq : Rows.laid_math_bits_deBruijn64tab (H := Unit) = tabData .u8 de64 := by kernel_rfl
theorem tabs_of {W : World} (h : laidMet Tryd.prog laid3 W) : Tab W := by
  have h4 := Lib.laidMet.reads h (.tail _ (.head _))
  rw [de64_eq] at h4
  obtain ⟨g, t, cs, fuel, p, hg, hty, hvar, hd⟩ := h4
  have n3 : Tryd.prog.globalNamed "math/bits.deBruijn64tab" = some 2 := by kernel_rfl
  have y3 : (Tryd.prog.globals[2]?).map (·.type) = some 72 := by kernel_rfl
  obtain rfl := Option.some.inj (n3.symm.trans hg)
  obtain rfl := Option.some.inj (y3.symm.trans hty)
  have hcs := cells_of_tab Tryd.underlying72 Tryd.underlying5 cells_u8 (by kernel_rfl) hd
  have := World.var?_cell hg hvar 15
  unfold Tab
  rw [this, ← Array.getElem?_toList, hcs]
  rfl
theorem strIs_arg (s : ByteArray) : StrIs s (s.data.toList.map fun b => (b.toNat : Int)) := by
  refine ⟨?_, fun x hx => ?_⟩
  · apply ByteArray.ext
    apply Array.ext'
    rw [strOfNums_data, List.map_map]
    conv => lhs; rw [← List.map_id s.data.toList]
    refine List.map_congr_left fun b _ => ?_
    simp
  · simp at hx
    obtain ⟨b, _, rfl⟩ := hx
    have := b.toNat_lt
    omega
end Go.Proofs.YtcmbmhcilohecaaDoor
