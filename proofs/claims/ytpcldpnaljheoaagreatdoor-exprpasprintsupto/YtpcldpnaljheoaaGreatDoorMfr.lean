/-
  What the cards need besides: the table that numbers are written by.
-/
import Derived.Test.YtpcldpnaljheoaaGreatDoorPd8
namespace Go.Proofs.YtpcldpnaljheoaaGreatDoor
open Go.ChangeShapes Go.WideShapes Go.ChangeAt Go.RowKit

theorem gPow : Tryz.prog.globalNamed "internal/strconv.uint64pow10" = some 3 := by kernel_rfl
theorem gPowT : (Tryz.prog.globals[3]?).map (·.type) = some 238 := by kernel_rfl
theorem celPow : Tryz.prog.cellsOf 238 = 20 := by kernel_rfl
theorem celU64 : Tryz.prog.cellsOf 152 = 1 := by kernel_rfl
theorem tb_of {W : World} (h : laidMet Tryz.prog tabs W) : Tb W := by
  have h2 : laidMet Tryz.prog (("internal/strconv.uint64pow10", Lib.tabData .u64 Lib.pow10Tab) :: tabs.drop 3) W := h.tail.tail
  exact Lib.tabIs_of_head gPow gPowT Tryz.underlying238 Tryz.underlying152 celU64 celPow h2
end Go.Proofs.YtpcldpnaljheoaaGreatDoor
