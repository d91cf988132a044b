/-
  Texts of this proof, put together.
-/
import Derived.Test.YtciijpahjjoppaaGreatPc8
import Derived.WalkKit
import Derived.Lib.QuietBelow
section
namespace Go.Proofs.YtciijpahjjoppaaGreat
open Go.RowKit

def opsL110 : List Oper :=
  ⟨some 5, .load 51 (.tmp 2), 51, "check.go:115", #[], none⟩ ::
  ⟨some 6, .call { callee := .value (.func 60), args := #[.tmp 5], argTypes := #[51] }, 4, "check.go:115", #[⟨0, .data⟩], none⟩ ::
  ⟨some 7, .unOp .not 4 (.tmp 6), 4, "check.go:115", #[⟨1, .data⟩], none⟩ ::
  ⟨some 8, .move (.tmp 7), 4, "check.go:115", #[⟨2, .data⟩, ⟨1, .chain⟩], none⟩ ::
  ⟨some 9, .load 51 (.tmp 2), 51, "check.go:115", #[⟨3, .guard⟩], some (3, true)⟩ ::
  ⟨some 10, .fieldAddr 80 (.tmp 3) 0, 0, "check.go:115", #[⟨3, .guard⟩], some (3, true)⟩ ::
  ⟨some 11, .load 59 (.tmp 10), 59, "check.go:115", #[⟨5, .data⟩, ⟨3, .guard⟩], some (3, true)⟩ ::
  ⟨some 12, .call { callee := .value (.func 105), args := #[.tmp 9, .tmp 11], argTypes := #[51, 59] }, 4, "check.go:115", #[⟨4, .data⟩, ⟨6, .data⟩, ⟨3, .chain⟩, ⟨3, .guard⟩], some (3, true)⟩ ::
  ⟨some 13, .pick (.tmp 8) (.tmp 12) (.const (.bool false)), 4, "check.go:115", #[⟨3, .data⟩, ⟨7, .data⟩], none⟩ ::
  ⟨some 14, .move (.tmp 13), 4, "check.go:115", #[⟨8, .data⟩, ⟨7, .chain⟩], none⟩ ::
  ⟨some 15, .load 51 (.tmp 2), 51, "check.go:115", #[⟨9, .guard⟩], some (9, true)⟩ ::
  ⟨some 16, .fieldAddr 80 (.tmp 3) 1, 0, "check.go:115", #[⟨9, .guard⟩], some (9, true)⟩ ::
  ⟨some 17, .load 9 (.tmp 16), 9, "check.go:115", #[⟨11, .data⟩, ⟨9, .guard⟩], some (9, true)⟩ ::
  ⟨some 18, .call { callee := .value (.func 98), args := #[.tmp 15, .tmp 17], argTypes := #[51, 9] }, 4, "check.go:115", #[⟨10, .data⟩, ⟨12, .data⟩, ⟨9, .chain⟩, ⟨9, .guard⟩], some (9, true)⟩ ::
  ⟨some 19, .pick (.tmp 14) (.tmp 18) (.const (.bool false)), 4, "check.go:115", #[⟨9, .data⟩, ⟨13, .data⟩], none⟩ ::
  ⟨some 20, .move (.tmp 19), 4, "check.go:115", #[⟨14, .data⟩, ⟨13, .chain⟩], none⟩ ::
  ⟨some 21, .fieldAddr 80 (.tmp 3) 2, 0, "check.go:115", #[⟨15, .guard⟩], some (15, true)⟩ ::
  ⟨some 22, .load 3 (.tmp 21), 3, "check.go:115", #[⟨16, .data⟩, ⟨15, .guard⟩], some (15, true)⟩ ::
  ⟨some 23, .binOp .eql 3 (.tmp 22) (.const (.int .i64 0)) 3, 4, "check.go:115", #[⟨17, .data⟩, ⟨15, .guard⟩], some (15, true)⟩ ::
  ⟨some 24, .move (.tmp 23), 4, "check.go:115", #[⟨18, .data⟩, ⟨15, .chain⟩, ⟨15, .guard⟩], some (15, true)⟩ ::
  ⟨some 25, .fieldAddr 80 (.tmp 3) 2, 0, "check.go:115", #[⟨19, .guard⟩], some (19, false)⟩ ::
  ⟨some 26, .load 3 (.tmp 25), 3, "check.go:115", #[⟨20, .data⟩, ⟨19, .guard⟩], some (19, false)⟩ ::
  ⟨some 27, .call { callee := .value (.func 136), args := #[.tmp 26], argTypes := #[3] }, 4, "check.go:116", #[⟨21, .data⟩, ⟨19, .chain⟩, ⟨19, .guard⟩], some (19, false)⟩ ::
  ⟨some 28, .pick (.tmp 24) (.const (.bool true)) (.tmp 27), 4, "check.go:115", #[⟨19, .data⟩, ⟨22, .data⟩, ⟨15, .guard⟩], some (15, true)⟩ ::
  ⟨some 29, .pick (.tmp 20) (.tmp 28) (.const (.bool false)), 4, "check.go:115", #[⟨15, .data⟩, ⟨23, .data⟩], none⟩ ::
  ⟨some 30, .move (.tmp 29), 4, "check.go:115", #[⟨24, .data⟩, ⟨22, .chain⟩], none⟩ ::
  ⟨some 31, .fieldAddr 80 (.tmp 3) 3, 0, "check.go:115", #[⟨25, .guard⟩], some (25, true)⟩ ::
  ⟨some 32, .load 78 (.tmp 31), 78, "check.go:115", #[⟨26, .data⟩, ⟨25, .guard⟩], some (25, true)⟩ ::
  ⟨some 33, .load 51 (.tmp 2), 51, "check.go:115", #[⟨25, .guard⟩], some (25, true)⟩ ::
  ⟨some 34, .makeFunc (.func 138) #[.tmp 33] #[], 179, "check.go:115", #[⟨28, .data⟩, ⟨25, .guard⟩], some (25, true)⟩ ::
  ⟨some 35, .call { callee := .value (.func 137), args := #[.tmp 32, .tmp 34], argTypes := #[78, 179] }, 4, "check.go:117", #[⟨27, .data⟩, ⟨29, .data⟩, ⟨25, .chain⟩, ⟨25, .guard⟩], some (25, true)⟩ ::
  ⟨some 36, .pick (.tmp 30) (.tmp 35) (.const (.bool false)), 4, "check.go:115", #[⟨25, .data⟩, ⟨30, .data⟩], none⟩ ::
  ⟨some 37, .move (.tmp 36), 4, "check.go:115", #[⟨31, .data⟩, ⟨30, .chain⟩], none⟩ ::
  ⟨some 38, .fieldAddr 80 (.tmp 3) 3, 0, "check.go:115", #[⟨32, .guard⟩], some (32, true)⟩ ::
  ⟨some 39, .load 78 (.tmp 38), 78, "check.go:115", #[⟨33, .data⟩, ⟨32, .guard⟩], some (32, true)⟩ ::
  ⟨some 40, .call { callee := .value (.func 139), args := #[.tmp 39], argTypes := #[78] }, 4, "check.go:117", #[⟨34, .data⟩, ⟨32, .chain⟩, ⟨32, .guard⟩], some (32, true)⟩ ::
  ⟨some 41, .pick (.tmp 37) (.tmp 40) (.const (.bool false)), 4, "check.go:115", #[⟨32, .data⟩, ⟨35, .data⟩], none⟩ ::
  ⟨some 42, .move (.tmp 41), 4, "check.go:115", #[⟨36, .data⟩, ⟨35, .chain⟩], none⟩ ::
  ⟨some 43, .fieldAddr 80 (.tmp 3) 4, 0, "check.go:115", #[⟨37, .guard⟩], some (37, true)⟩ ::
  ⟨some 44, .load 31 (.tmp 43), 31, "check.go:115", #[⟨38, .data⟩, ⟨37, .guard⟩], some (37, true)⟩ ::
  ⟨some 45, .load 51 (.tmp 2), 51, "check.go:115", #[⟨37, .guard⟩], some (37, true)⟩ ::
  ⟨some 46, .makeFunc (.func 72) #[.tmp 45] #[], 121, "check.go:115", #[⟨40, .data⟩, ⟨37, .guard⟩], some (37, true)⟩ ::
  ⟨some 47, .call { callee := .value (.func 71), args := #[.tmp 44, .tmp 46], argTypes := #[31, 121] }, 4, "check.go:118", #[⟨39, .data⟩, ⟨41, .data⟩, ⟨37, .chain⟩, ⟨37, .guard⟩], some (37, true)⟩ ::
  ⟨some 48, .pick (.tmp 42) (.tmp 47) (.const (.bool false)), 4, "check.go:115", #[⟨37, .data⟩, ⟨42, .data⟩], none⟩ ::
  ⟨some 49, .move (.tmp 48), 4, "check.go:115", #[⟨43, .data⟩, ⟨42, .chain⟩], none⟩ ::
  ⟨some 50, .fieldAddr 51 (.tmp 2) 0, 0, "check.go:115", #[⟨44, .guard⟩], some (44, true)⟩ ::
  ⟨some 51, .load 3 (.tmp 50), 3, "check.go:115", #[⟨45, .data⟩, ⟨44, .guard⟩], some (44, true)⟩ ::
  ⟨some 52, .binOp .eql 3 (.tmp 51) (.const (.int .i64 0)) 3, 4, "check.go:115", #[⟨46, .data⟩, ⟨44, .guard⟩], some (44, true)⟩ ::
  ⟨some 53, .move (.tmp 52), 4, "check.go:115", #[⟨47, .data⟩, ⟨44, .chain⟩, ⟨44, .guard⟩], some (44, true)⟩ ::
  ⟨some 54, .fieldAddr 80 (.tmp 3) 5, 0, "check.go:115", #[⟨48, .guard⟩], some (48, false)⟩ ::
  ⟨some 55, .load 32 (.tmp 54), 32, "check.go:115", #[⟨49, .data⟩, ⟨48, .guard⟩], some (48, false)⟩ ::
  ⟨some 56, .call { callee := .builtin .len, args := #[.tmp 55], argTypes := #[32] }, 3, "check.go:115", #[⟨50, .data⟩, ⟨48, .guard⟩], some (48, false)⟩ ::
  ⟨some 57, .binOp .eql 3 (.tmp 56) (.const (.int .i64 0)) 3, 4, "check.go:115", #[⟨51, .data⟩, ⟨48, .guard⟩], some (48, false)⟩ ::
  ⟨some 58, .pick (.tmp 53) (.const (.bool true)) (.tmp 57), 4, "check.go:115", #[⟨48, .data⟩, ⟨52, .data⟩, ⟨44, .guard⟩], some (44, true)⟩ ::
  ⟨some 59, .pick (.tmp 49) (.tmp 58) (.const (.bool false)), 4, "check.go:115", #[⟨44, .data⟩, ⟨53, .data⟩], none⟩ ::
  ⟨some 60, .move (.tmp 59), 4, "check.go:115", #[⟨54, .data⟩, ⟨48, .chain⟩], none⟩ ::
  ⟨some 61, .load 51 (.tmp 2), 51, "check.go:115", #[⟨55, .guard⟩], some (55, true)⟩ ::
  ⟨some 62, .call { callee := .value (.func 65), args := #[.tmp 61], argTypes := #[51] }, 51, "check.go:119", #[⟨56, .data⟩, ⟨55, .chain⟩, ⟨55, .guard⟩], some (55, true)⟩ ::
  ⟨some 63, .fieldAddr 80 (.tmp 3) 5, 0, "check.go:115", #[⟨55, .guard⟩], some (55, true)⟩ ::
  ⟨some 64, .load 32 (.tmp 63), 32, "check.go:115", #[⟨58, .data⟩, ⟨55, .guard⟩], some (55, true)⟩ ::
  ⟨some 65, .call { callee := .value (.func 73), args := #[.tmp 62, .tmp 64], argTypes := #[51, 32] }, 4, "check.go:119", #[⟨57, .data⟩, ⟨59, .data⟩, ⟨57, .chain⟩, ⟨55, .guard⟩], some (55, true)⟩ ::
  ⟨some 66, .pick (.tmp 60) (.tmp 65) (.const (.bool false)), 4, "check.go:115", #[⟨55, .data⟩, ⟨60, .data⟩], none⟩ ::
  ⟨some 67, .move (.tmp 66), 4, "check.go:115", #[⟨61, .data⟩, ⟨60, .chain⟩], none⟩ ::
  ⟨some 68, .fieldAddr 80 (.tmp 3) 6, 0, "check.go:115", #[⟨62, .guard⟩], some (62, true)⟩ ::
  ⟨some 69, .load 33 (.tmp 68), 33, "check.go:115", #[⟨63, .data⟩, ⟨62, .guard⟩], some (62, true)⟩ ::
  ⟨some 70, .load 51 (.tmp 2), 51, "check.go:115", #[⟨62, .guard⟩], some (62, true)⟩ ::
  ⟨some 71, .call { callee := .value (.func 114), args := #[.tmp 70], argTypes := #[51] }, 51, "check.go:120", #[⟨65, .data⟩, ⟨62, .chain⟩, ⟨62, .guard⟩], some (62, true)⟩ ::
  ⟨some 72, .makeFunc (.func 75) #[.tmp 71] #[], 124, "check.go:115", #[⟨66, .data⟩, ⟨62, .guard⟩], some (62, true)⟩ ::
  ⟨some 73, .call { callee := .value (.func 74), args := #[.tmp 69, .tmp 72], argTypes := #[33, 124] }, 4, "check.go:120", #[⟨64, .data⟩, ⟨67, .data⟩, ⟨66, .chain⟩, ⟨62, .guard⟩], some (62, true)⟩ ::
  ⟨some 74, .pick (.tmp 67) (.tmp 73) (.const (.bool false)), 4, "check.go:115", #[⟨62, .data⟩, ⟨68, .data⟩], none⟩ ::
  ⟨some 75, .move (.tmp 74), 4, "check.go:115", #[⟨69, .data⟩, ⟨68, .chain⟩], none⟩ ::
  ⟨some 76, .load 51 (.tmp 2), 51, "check.go:115", #[⟨70, .guard⟩], some (70, true)⟩ ::
  ⟨some 77, .fieldAddr 80 (.tmp 3) 7, 0, "check.go:115", #[⟨70, .guard⟩], some (70, true)⟩ ::
  ⟨some 78, .load 29 (.tmp 77), 29, "check.go:115", #[⟨72, .data⟩, ⟨70, .guard⟩], some (70, true)⟩ ::
  ⟨some 79, .buildSlice 147 1 #[(0, .tmp 78)], 147, "check.go:115", #[⟨73, .data⟩, ⟨70, .guard⟩], some (70, true)⟩ ::
  ⟨some 80, .call { callee := .value (.func 68), args := #[.tmp 76, .tmp 79], argTypes := #[51, 147] }, 4, "check.go:120", #[⟨71, .data⟩, ⟨74, .data⟩, ⟨70, .chain⟩, ⟨70, .guard⟩], some (70, true)⟩ ::
  ⟨some 81, .pick (.tmp 75) (.tmp 80) (.const (.bool false)), 4, "check.go:115", #[⟨70, .data⟩, ⟨75, .data⟩], none⟩ ::
  ⟨some 4, .assign (.tmp 81), 4, "check.go:115", ([⟨76, .data⟩, ⟨75, .chain⟩, ⟨0, .phase⟩, ⟨1, .phase⟩, ⟨2, .phase⟩, ⟨3, .phase⟩, ⟨4, .phase⟩, ⟨5, .phase⟩, ⟨6, .phase⟩, ⟨7, .phase⟩, ⟨8, .phase⟩, ⟨9, .phase⟩, ⟨10, .phase⟩, ⟨11, .phase⟩, ⟨12, .phase⟩, ⟨13, .phase⟩, ⟨14, .phase⟩, ⟨15, .phase⟩, ⟨16, .phase⟩, ⟨17, .phase⟩, ⟨18, .phase⟩, ⟨19, .phase⟩, ⟨20, .phase⟩, ⟨21, .phase⟩, ⟨22, .phase⟩, ⟨23, .phase⟩, ⟨24, .phase⟩, ⟨25, .phase⟩, ⟨26, .phase⟩, ⟨27, .phase⟩, ⟨28, .phase⟩, ⟨29, .phase⟩, ⟨30, .phase⟩, ⟨31, .phase⟩, ⟨32, .phase⟩, ⟨33, .phase⟩, ⟨34, .phase⟩, ⟨35, .phase⟩, ⟨36, .phase⟩].append [⟨37, .phase⟩, ⟨38, .phase⟩, ⟨39, .phase⟩, ⟨40, .phase⟩, ⟨41, .phase⟩, ⟨42, .phase⟩, ⟨43, .phase⟩, ⟨44, .phase⟩, ⟨45, .phase⟩, ⟨46, .phase⟩, ⟨47, .phase⟩, ⟨48, .phase⟩, ⟨49, .phase⟩, ⟨50, .phase⟩, ⟨51, .phase⟩, ⟨52, .phase⟩, ⟨53, .phase⟩, ⟨54, .phase⟩, ⟨55, .phase⟩, ⟨56, .phase⟩, ⟨57, .phase⟩, ⟨58, .phase⟩, ⟨59, .phase⟩, ⟨60, .phase⟩, ⟨61, .phase⟩, ⟨62, .phase⟩, ⟨63, .phase⟩, ⟨64, .phase⟩, ⟨65, .phase⟩, ⟨66, .phase⟩, ⟨67, .phase⟩, ⟨68, .phase⟩, ⟨69, .phase⟩, ⟨70, .phase⟩, ⟨71, .phase⟩, ⟨72, .phase⟩, ⟨73, .phase⟩, ⟨74, .phase⟩, ⟨75, .phase⟩, ⟨76, .phase⟩]).toArray, none⟩ :: []
def ops110 : Array Oper := opsL110.toArray
theorem lx110_0 : ((Region.ready .any ops110 (lk 78 0)).contains 0 && Region.free .any ops110 (lk 78 0) 0) = true := by kernel_rfl
theorem lx110_1 : ((Region.ready .any ops110 (lk 78 1)).contains 1 && Region.free .any ops110 (lk 78 1) 1) = true := by kernel_rfl
theorem lx110_2 : ((Region.ready .any ops110 (lk 78 2)).contains 2 && Region.free .any ops110 (lk 78 2) 2) = true := by kernel_rfl
theorem lx110_3 : ((Region.ready .any ops110 (lk 78 3)).contains 3 && Region.free .any ops110 (lk 78 3) 3) = true := by kernel_rfl
theorem lx110_4 : ((Region.ready .any ops110 (lk 78 4)).contains 4 && Region.free .any ops110 (lk 78 4) 4) = true := by kernel_rfl
theorem lx110_5 : ((Region.ready .any ops110 (lk 78 5)).contains 5 && Region.free .any ops110 (lk 78 5) 5) = true := by kernel_rfl
theorem lx110_6 : ((Region.ready .any ops110 (lk 78 6)).contains 6 && Region.free .any ops110 (lk 78 6) 6) = true := by kernel_rfl
theorem lx110_7 : ((Region.ready .any ops110 (lk 78 7)).contains 7 && Region.free .any ops110 (lk 78 7) 7) = true := by kernel_rfl
theorem lx110_8 : ((Region.ready .any ops110 (lk 78 8)).contains 8 && Region.free .any ops110 (lk 78 8) 8) = true := by kernel_rfl
theorem lx110_9 : ((Region.ready .any ops110 (lk 78 9)).contains 9 && Region.free .any ops110 (lk 78 9) 9) = true := by kernel_rfl
theorem lx110_10 : ((Region.ready .any ops110 (lk 78 10)).contains 10 && Region.free .any ops110 (lk 78 10) 10) = true := by kernel_rfl
theorem lx110_11 : ((Region.ready .any ops110 (lk 78 11)).contains 11 && Region.free .any ops110 (lk 78 11) 11) = true := by kernel_rfl
theorem lx110_12 : ((Region.ready .any ops110 (lk 78 12)).contains 12 && Region.free .any ops110 (lk 78 12) 12) = true := by kernel_rfl
theorem lx110_13 : ((Region.ready .any ops110 (lk 78 13)).contains 13 && Region.free .any ops110 (lk 78 13) 13) = true := by kernel_rfl
theorem lx110_14 : ((Region.ready .any ops110 (lk 78 14)).contains 14 && Region.free .any ops110 (lk 78 14) 14) = true := by kernel_rfl
theorem lx110_15 : ((Region.ready .any ops110 (lk 78 15)).contains 15 && Region.free .any ops110 (lk 78 15) 15) = true := by kernel_rfl
theorem lx110_16 : ((Region.ready .any ops110 (lk 78 16)).contains 16 && Region.free .any ops110 (lk 78 16) 16) = true := by kernel_rfl
theorem lx110_17 : ((Region.ready .any ops110 (lk 78 17)).contains 17 && Region.free .any ops110 (lk 78 17) 17) = true := by kernel_rfl
theorem lx110_18 : ((Region.ready .any ops110 (lk 78 18)).contains 18 && Region.free .any ops110 (lk 78 18) 18) = true := by kernel_rfl
theorem lx110_19 : ((Region.ready .any ops110 (lk 78 19)).contains 19 && Region.free .any ops110 (lk 78 19) 19) = true := by kernel_rfl
theorem lx110_20 : ((Region.ready .any ops110 (lk 78 20)).contains 20 && Region.free .any ops110 (lk 78 20) 20) = true := by kernel_rfl
theorem lx110_21 : ((Region.ready .any ops110 (lk 78 21)).contains 21 && Region.free .any ops110 (lk 78 21) 21) = true := by kernel_rfl
theorem lx110_22 : ((Region.ready .any ops110 (lk 78 22)).contains 22 && Region.free .any ops110 (lk 78 22) 22) = true := by kernel_rfl
theorem lx110_23 : ((Region.ready .any ops110 (lk 78 23)).contains 23 && Region.free .any ops110 (lk 78 23) 23) = true := by kernel_rfl
theorem lx110_24 : ((Region.ready .any ops110 (lk 78 24)).contains 24 && Region.free .any ops110 (lk 78 24) 24) = true := by kernel_rfl
theorem lx110_25 : ((Region.ready .any ops110 (lk 78 25)).contains 25 && Region.free .any ops110 (lk 78 25) 25) = true := by kernel_rfl
theorem lx110_26 : ((Region.ready .any ops110 (lk 78 26)).contains 26 && Region.free .any ops110 (lk 78 26) 26) = true := by kernel_rfl
theorem lx110_27 : ((Region.ready .any ops110 (lk 78 27)).contains 27 && Region.free .any ops110 (lk 78 27) 27) = true := by kernel_rfl
theorem lx110_28 : ((Region.ready .any ops110 (lk 78 28)).contains 28 && Region.free .any ops110 (lk 78 28) 28) = true := by kernel_rfl
theorem lx110_29 : ((Region.ready .any ops110 (lk 78 29)).contains 29 && Region.free .any ops110 (lk 78 29) 29) = true := by kernel_rfl
theorem lx110_30 : ((Region.ready .any ops110 (lk 78 30)).contains 30 && Region.free .any ops110 (lk 78 30) 30) = true := by kernel_rfl
theorem lx110_31 : ((Region.ready .any ops110 (lk 78 31)).contains 31 && Region.free .any ops110 (lk 78 31) 31) = true := by kernel_rfl
theorem lx110_32 : ((Region.ready .any ops110 (lk 78 32)).contains 32 && Region.free .any ops110 (lk 78 32) 32) = true := by kernel_rfl
theorem lx110_33 : ((Region.ready .any ops110 (lk 78 33)).contains 33 && Region.free .any ops110 (lk 78 33) 33) = true := by kernel_rfl
theorem lx110_34 : ((Region.ready .any ops110 (lk 78 34)).contains 34 && Region.free .any ops110 (lk 78 34) 34) = true := by kernel_rfl
theorem lx110_35 : ((Region.ready .any ops110 (lk 78 35)).contains 35 && Region.free .any ops110 (lk 78 35) 35) = true := by kernel_rfl
theorem lx110_36 : ((Region.ready .any ops110 (lk 78 36)).contains 36 && Region.free .any ops110 (lk 78 36) 36) = true := by kernel_rfl
theorem lx110_37 : ((Region.ready .any ops110 (lk 78 37)).contains 37 && Region.free .any ops110 (lk 78 37) 37) = true := by kernel_rfl
theorem lx110_38 : ((Region.ready .any ops110 (lk 78 38)).contains 38 && Region.free .any ops110 (lk 78 38) 38) = true := by kernel_rfl
theorem lx110_39 : ((Region.ready .any ops110 (lk 78 39)).contains 39 && Region.free .any ops110 (lk 78 39) 39) = true := by kernel_rfl
theorem lx110_40 : ((Region.ready .any ops110 (lk 78 40)).contains 40 && Region.free .any ops110 (lk 78 40) 40) = true := by kernel_rfl
theorem lx110_41 : ((Region.ready .any ops110 (lk 78 41)).contains 41 && Region.free .any ops110 (lk 78 41) 41) = true := by kernel_rfl
theorem lx110_42 : ((Region.ready .any ops110 (lk 78 42)).contains 42 && Region.free .any ops110 (lk 78 42) 42) = true := by kernel_rfl
theorem lx110_43 : ((Region.ready .any ops110 (lk 78 43)).contains 43 && Region.free .any ops110 (lk 78 43) 43) = true := by kernel_rfl
theorem lx110_44 : ((Region.ready .any ops110 (lk 78 44)).contains 44 && Region.free .any ops110 (lk 78 44) 44) = true := by kernel_rfl
theorem lx110_45 : ((Region.ready .any ops110 (lk 78 45)).contains 45 && Region.free .any ops110 (lk 78 45) 45) = true := by kernel_rfl
theorem lx110_46 : ((Region.ready .any ops110 (lk 78 46)).contains 46 && Region.free .any ops110 (lk 78 46) 46) = true := by kernel_rfl
theorem lx110_47 : ((Region.ready .any ops110 (lk 78 47)).contains 47 && Region.free .any ops110 (lk 78 47) 47) = true := by kernel_rfl
theorem lx110_48 : ((Region.ready .any ops110 (lk 78 48)).contains 48 && Region.free .any ops110 (lk 78 48) 48) = true := by kernel_rfl
theorem lx110_49 : ((Region.ready .any ops110 (lk 78 49)).contains 49 && Region.free .any ops110 (lk 78 49) 49) = true := by kernel_rfl
theorem lx110_50 : ((Region.ready .any ops110 (lk 78 50)).contains 50 && Region.free .any ops110 (lk 78 50) 50) = true := by kernel_rfl
theorem lx110_51 : ((Region.ready .any ops110 (lk 78 51)).contains 51 && Region.free .any ops110 (lk 78 51) 51) = true := by kernel_rfl
theorem lx110_52 : ((Region.ready .any ops110 (lk 78 52)).contains 52 && Region.free .any ops110 (lk 78 52) 52) = true := by kernel_rfl
theorem lx110_53 : ((Region.ready .any ops110 (lk 78 53)).contains 53 && Region.free .any ops110 (lk 78 53) 53) = true := by kernel_rfl
theorem lx110_54 : ((Region.ready .any ops110 (lk 78 54)).contains 54 && Region.free .any ops110 (lk 78 54) 54) = true := by kernel_rfl
theorem lx110_55 : ((Region.ready .any ops110 (lk 78 55)).contains 55 && Region.free .any ops110 (lk 78 55) 55) = true := by kernel_rfl
theorem lx110_56 : ((Region.ready .any ops110 (lk 78 56)).contains 56 && Region.free .any ops110 (lk 78 56) 56) = true := by kernel_rfl
theorem lx110_57 : ((Region.ready .any ops110 (lk 78 57)).contains 57 && Region.free .any ops110 (lk 78 57) 57) = true := by kernel_rfl
theorem lx110_58 : ((Region.ready .any ops110 (lk 78 58)).contains 58 && Region.free .any ops110 (lk 78 58) 58) = true := by kernel_rfl
theorem lx110_59 : ((Region.ready .any ops110 (lk 78 59)).contains 59 && Region.free .any ops110 (lk 78 59) 59) = true := by kernel_rfl
theorem lx110_60 : ((Region.ready .any ops110 (lk 78 60)).contains 60 && Region.free .any ops110 (lk 78 60) 60) = true := by kernel_rfl
theorem lx110_61 : ((Region.ready .any ops110 (lk 78 61)).contains 61 && Region.free .any ops110 (lk 78 61) 61) = true := by kernel_rfl
theorem lx110_62 : ((Region.ready .any ops110 (lk 78 62)).contains 62 && Region.free .any ops110 (lk 78 62) 62) = true := by kernel_rfl
theorem lx110_63 : ((Region.ready .any ops110 (lk 78 63)).contains 63 && Region.free .any ops110 (lk 78 63) 63) = true := by kernel_rfl
theorem lx110_64 : ((Region.ready .any ops110 (lk 78 64)).contains 64 && Region.free .any ops110 (lk 78 64) 64) = true := by kernel_rfl
theorem lx110_65 : ((Region.ready .any ops110 (lk 78 65)).contains 65 && Region.free .any ops110 (lk 78 65) 65) = true := by kernel_rfl
theorem lx110_66 : ((Region.ready .any ops110 (lk 78 66)).contains 66 && Region.free .any ops110 (lk 78 66) 66) = true := by kernel_rfl
theorem lx110_67 : ((Region.ready .any ops110 (lk 78 67)).contains 67 && Region.free .any ops110 (lk 78 67) 67) = true := by kernel_rfl
theorem lx110_68 : ((Region.ready .any ops110 (lk 78 68)).contains 68 && Region.free .any ops110 (lk 78 68) 68) = true := by kernel_rfl
theorem lx110_69 : ((Region.ready .any ops110 (lk 78 69)).contains 69 && Region.free .any ops110 (lk 78 69) 69) = true := by kernel_rfl
theorem lx110_70 : ((Region.ready .any ops110 (lk 78 70)).contains 70 && Region.free .any ops110 (lk 78 70) 70) = true := by kernel_rfl
theorem lx110_71 : ((Region.ready .any ops110 (lk 78 71)).contains 71 && Region.free .any ops110 (lk 78 71) 71) = true := by kernel_rfl
theorem lx110_72 : ((Region.ready .any ops110 (lk 78 72)).contains 72 && Region.free .any ops110 (lk 78 72) 72) = true := by kernel_rfl
theorem lx110_73 : ((Region.ready .any ops110 (lk 78 73)).contains 73 && Region.free .any ops110 (lk 78 73) 73) = true := by kernel_rfl
theorem lx110_74 : ((Region.ready .any ops110 (lk 78 74)).contains 74 && Region.free .any ops110 (lk 78 74) 74) = true := by kernel_rfl
theorem lx110_75 : ((Region.ready .any ops110 (lk 78 75)).contains 75 && Region.free .any ops110 (lk 78 75) 75) = true := by kernel_rfl
theorem lx110_76 : ((Region.ready .any ops110 (lk 78 76)).contains 76 && Region.free .any ops110 (lk 78 76) 76) = true := by kernel_rfl
theorem lx110_77 : ((Region.ready .any ops110 (lk 78 77)).contains 77 && Region.free .any ops110 (lk 78 77) 77) = true := by kernel_rfl
theorem lex110 : Region.lexB .any ops110 = true := by
  unfold Region.lexB
  rw [show Region.noSelect ops110 = true by kernel_rfl, Bool.true_and]
  show Region.lexFrom .any ops110 78 0 (lk 78 0) = true
  refine lexStep lx110_0 (show _ = lk 78 1 by kernel_rfl) ?_
  refine lexStep lx110_1 (show _ = lk 78 2 by kernel_rfl) ?_
  refine lexStep lx110_2 (show _ = lk 78 3 by kernel_rfl) ?_
  refine lexStep lx110_3 (show _ = lk 78 4 by kernel_rfl) ?_
  refine lexStep lx110_4 (show _ = lk 78 5 by kernel_rfl) ?_
  refine lexStep lx110_5 (show _ = lk 78 6 by kernel_rfl) ?_
  refine lexStep lx110_6 (show _ = lk 78 7 by kernel_rfl) ?_
  refine lexStep lx110_7 (show _ = lk 78 8 by kernel_rfl) ?_
  refine lexStep lx110_8 (show _ = lk 78 9 by kernel_rfl) ?_
  refine lexStep lx110_9 (show _ = lk 78 10 by kernel_rfl) ?_
  refine lexStep lx110_10 (show _ = lk 78 11 by kernel_rfl) ?_
  refine lexStep lx110_11 (show _ = lk 78 12 by kernel_rfl) ?_
  refine lexStep lx110_12 (show _ = lk 78 13 by kernel_rfl) ?_
  refine lexStep lx110_13 (show _ = lk 78 14 by kernel_rfl) ?_
  refine lexStep lx110_14 (show _ = lk 78 15 by kernel_rfl) ?_
  refine lexStep lx110_15 (show _ = lk 78 16 by kernel_rfl) ?_
  refine lexStep lx110_16 (show _ = lk 78 17 by kernel_rfl) ?_
  refine lexStep lx110_17 (show _ = lk 78 18 by kernel_rfl) ?_
  refine lexStep lx110_18 (show _ = lk 78 19 by kernel_rfl) ?_
  refine lexStep lx110_19 (show _ = lk 78 20 by kernel_rfl) ?_
  refine lexStep lx110_20 (show _ = lk 78 21 by kernel_rfl) ?_
  refine lexStep lx110_21 (show _ = lk 78 22 by kernel_rfl) ?_
  refine lexStep lx110_22 (show _ = lk 78 23 by kernel_rfl) ?_
  refine lexStep lx110_23 (show _ = lk 78 24 by kernel_rfl) ?_
  refine lexStep lx110_24 (show _ = lk 78 25 by kernel_rfl) ?_
  refine lexStep lx110_25 (show _ = lk 78 26 by kernel_rfl) ?_
  refine lexStep lx110_26 (show _ = lk 78 27 by kernel_rfl) ?_
  refine lexStep lx110_27 (show _ = lk 78 28 by kernel_rfl) ?_
  refine lexStep lx110_28 (show _ = lk 78 29 by kernel_rfl) ?_
  refine lexStep lx110_29 (show _ = lk 78 30 by kernel_rfl) ?_
  refine lexStep lx110_30 (show _ = lk 78 31 by kernel_rfl) ?_
  refine lexStep lx110_31 (show _ = lk 78 32 by kernel_rfl) ?_
  refine lexStep lx110_32 (show _ = lk 78 33 by kernel_rfl) ?_
  refine lexStep lx110_33 (show _ = lk 78 34 by kernel_rfl) ?_
  refine lexStep lx110_34 (show _ = lk 78 35 by kernel_rfl) ?_
  refine lexStep lx110_35 (show _ = lk 78 36 by kernel_rfl) ?_
  refine lexStep lx110_36 (show _ = lk 78 37 by kernel_rfl) ?_
  refine lexStep lx110_37 (show _ = lk 78 38 by kernel_rfl) ?_
  refine lexStep lx110_38 (show _ = lk 78 39 by kernel_rfl) ?_
  refine lexStep lx110_39 (show _ = lk 78 40 by kernel_rfl) ?_
  refine lexStep lx110_40 (show _ = lk 78 41 by kernel_rfl) ?_
  refine lexStep lx110_41 (show _ = lk 78 42 by kernel_rfl) ?_
  refine lexStep lx110_42 (show _ = lk 78 43 by kernel_rfl) ?_
  refine lexStep lx110_43 (show _ = lk 78 44 by kernel_rfl) ?_
  refine lexStep lx110_44 (show _ = lk 78 45 by kernel_rfl) ?_
  refine lexStep lx110_45 (show _ = lk 78 46 by kernel_rfl) ?_
  refine lexStep lx110_46 (show _ = lk 78 47 by kernel_rfl) ?_
  refine lexStep lx110_47 (show _ = lk 78 48 by kernel_rfl) ?_
  refine lexStep lx110_48 (show _ = lk 78 49 by kernel_rfl) ?_
  refine lexStep lx110_49 (show _ = lk 78 50 by kernel_rfl) ?_
  refine lexStep lx110_50 (show _ = lk 78 51 by kernel_rfl) ?_
  refine lexStep lx110_51 (show _ = lk 78 52 by kernel_rfl) ?_
  refine lexStep lx110_52 (show _ = lk 78 53 by kernel_rfl) ?_
  refine lexStep lx110_53 (show _ = lk 78 54 by kernel_rfl) ?_
  refine lexStep lx110_54 (show _ = lk 78 55 by kernel_rfl) ?_
  refine lexStep lx110_55 (show _ = lk 78 56 by kernel_rfl) ?_
  refine lexStep lx110_56 (show _ = lk 78 57 by kernel_rfl) ?_
  refine lexStep lx110_57 (show _ = lk 78 58 by kernel_rfl) ?_
  refine lexStep lx110_58 (show _ = lk 78 59 by kernel_rfl) ?_
  refine lexStep lx110_59 (show _ = lk 78 60 by kernel_rfl) ?_
  refine lexStep lx110_60 (show _ = lk 78 61 by kernel_rfl) ?_
  refine lexStep lx110_61 (show _ = lk 78 62 by kernel_rfl) ?_
  refine lexStep lx110_62 (show _ = lk 78 63 by kernel_rfl) ?_
  refine lexStep lx110_63 (show _ = lk 78 64 by kernel_rfl) ?_
  refine lexStep lx110_64 (show _ = lk 78 65 by kernel_rfl) ?_
  refine lexStep lx110_65 (show _ = lk 78 66 by kernel_rfl) ?_
  refine lexStep lx110_66 (show _ = lk 78 67 by kernel_rfl) ?_
  refine lexStep lx110_67 (show _ = lk 78 68 by kernel_rfl) ?_
  refine lexStep lx110_68 (show _ = lk 78 69 by kernel_rfl) ?_
  refine lexStep lx110_69 (show _ = lk 78 70 by kernel_rfl) ?_
  refine lexStep lx110_70 (show _ = lk 78 71 by kernel_rfl) ?_
  refine lexStep lx110_71 (show _ = lk 78 72 by kernel_rfl) ?_
  refine lexStep lx110_72 (show _ = lk 78 73 by kernel_rfl) ?_
  refine lexStep lx110_73 (show _ = lk 78 74 by kernel_rfl) ?_
  refine lexStep lx110_74 (show _ = lk 78 75 by kernel_rfl) ?_
  refine lexStep lx110_75 (show _ = lk 78 76 by kernel_rfl) ?_
  refine lexStep lx110_76 (show _ = lk 78 77 by kernel_rfl) ?_
  refine lexStep lx110_77 (show _ = lk 78 78 by kernel_rfl) ?_
  kernel_rfl
end Go.Proofs.YtciijpahjjoppaaGreat
end
section
namespace Go.Proofs.YtciijpahjjoppaaGreat
open Go.RowKit Go.Deep Go.Maps Go.Sort

set_option linter.unusedVariables false

set_option maxRecDepth 100000 in
set_option maxHeartbeats 32000000 in
theorem rt_a (w0 : World) (d : Int) (ar : Nat) (m0 m1 : List (List D)) (nm : ByteArray) (rs : Int) (ps vr inn bd en : List (List D)) (m0a : Option Addr) (m0c : Nat) (m1a : Option Addr) (m1c : Nat) (psa : Option Addr) (psc : Nat) (vra : Option Addr) (vrc : Nat) (ina : Option Addr) (inc : Nat) (bda : Option Addr) (bdc : Nat) (ena : Option Addr) (enc : Nat) (td b1 b2 b3 b4 b5 b6 b7 b8 : Bool)
    (h_td : Says w0 60 #[.agg #[.int .i64 d, .int .i64 ar]] (.bool td))
    (h_mk : Says w0 105 #[.agg #[.int .i64 d, .int .i64 ar], .agg #[.slice m0a m0.length m0c, .slice m1a m1.length m1c]] (.bool b1))
    (h_rn : Says w0 98 #[.agg #[.int .i64 d, .int .i64 ar], .string nm] (.bool b2))
    (h_is : Says w0 136 #[.int .i64 rs] (.bool b3))
    (h_ps : Says w0 137 #[.slice psa ps.length psc, .func (.func 138) #[.agg #[.int .i64 d, .int .i64 ar]] #[]] (.bool b4))
    (h_up : Says w0 139 #[.slice psa ps.length psc] (.bool b5))
    (h_vr : Says w0 71 #[.slice vra vr.length vrc, .func (.func 72) #[.agg #[.int .i64 d, .int .i64 ar]] #[]] (.bool b6))
    (h_dp : Says w0 65 #[.agg #[.int .i64 d, .int .i64 ar]] (.agg #[.int .i64 d, .int .i64 ((ar + 1 : Nat) : Int)]))
    (h_rt : Says w0 73 #[.agg #[.int .i64 d, .int .i64 ((ar + 1 : Nat) : Int)], .slice ina inn.length inc] (.bool b7))
    (h_om : Says w0 114 #[.agg #[.int .i64 d, .int .i64 ar]] (.agg #[.int .i64 d, .int .i64 0]))
    (h_bd : Says w0 74 #[.slice bda bd.length bdc, .func (.func 75) #[.agg #[.int .i64 d, .int .i64 0]] #[]] (.bool b8))
    (hne : ((!td && (b1 && b2)) && b3) = false) (hz : (!td && (b1 && b2)) = true → (rs == 0) = false) (w : World) (hW : Below w0.heap.size w0 w) :
    Calls Tryz.prog 110 #[.agg #[.int .i64 d, .int .i64 ar], .agg #[.slice m0a m0.length m0c, .slice m1a m1.length m1c, .string nm, .int .i64 rs, .slice psa ps.length psc, .slice vra vr.length vrc, .slice ina inn.length inc, .slice bda bd.length bdc, .slice ena en.length enc]] w fun e w' => e = .returned (.bool false) ∧ Below w.heap.size w w' := by
  have K_td := Lib.hid h_td
  have K_mk := Lib.hid h_mk
  have K_rn := Lib.hid h_rn
  have K_is := Lib.hid h_is
  have K_ps := Lib.hid h_ps
  have K_up := Lib.hid h_up
  have K_vr := Lib.hid h_vr
  have K_dp := Lib.hid h_dp
  have K_rt := Lib.hid h_rt
  have K_om := Lib.hid h_om
  have K_bd := Lib.hid h_bd
  have HW := Lib.hid hW
  have S0 := Lib.hid (Bx2.start w (.cells #[.int .i64 d, .int .i64 ar] 51) (.cells #[.slice m0a m0.length m0c, .slice m1a m1.length m1c, .string nm, .int .i64 rs, .slice psa ps.length psc, .slice vra vr.length vrc, .slice ina inn.length inc, .slice bda bd.length bdc, .slice ena en.length enc] 80))
  clear hW h_td h_mk h_rn h_is h_ps h_up h_vr h_dp h_rt h_om h_bd
  go_enter Tryz.func110, Tryz.ntmps110
  go_wp2_with fail
  obtain ⟨w2, hw2⟩ : ∃ w2, w2 = (w.alloc (.cells #[.int .i64 d, .int .i64 ar] 51)).alloc (.cells #[.slice m0a m0.length m0c, .slice m1a m1.length m1c, .string nm, .int .i64 rs, .slice psa ps.length psc, .slice vra vr.length vrc, .slice ina inn.length inc, .slice bda bd.length bdc, .slice ena en.length enc] 80) := ⟨_, rfl⟩
  rw [← hw2] at S0 ⊢
  have HSZ := Lib.hid hw2
  clear hw2
  have r0 := cellsRg S0.out.a
  have r1 := cellsRg S0.out.b
  have B2 := Lib.hid (S0.out.on HW.out)
  have G_td := Lib.hid (K_td.out.rg B2.out)
  have G_mk := Lib.hid (K_mk.out.rg B2.out)
  have G_rn := Lib.hid (K_rn.out.rg B2.out)
  have G_is := Lib.hid (K_is.out.rg B2.out)
  have G_ps := Lib.hid (K_ps.out.rg B2.out)
  have G_up := Lib.hid (K_up.out.rg B2.out)
  have G_vr := Lib.hid (K_vr.out.rg B2.out)
  have G_dp := Lib.hid (K_dp.out.rg B2.out)
  have G_rt := Lib.hid (K_rt.out.rg B2.out)
  have G_om := Lib.hid (K_om.out.rg B2.out)
  have G_bd := Lib.hid (K_bd.out.rg B2.out)
  clear K_td K_mk K_rn K_is K_ps K_up K_vr K_dp K_rt K_om K_bd
  cases td with
  | true =>
    refine wp_region_quiet_below (l := opsL110) (by kernel_rfl) lex110 ?_
    unfold opsL110
    repeat (first | go_big_quiet_step ((first | with_reducible exact G_td.out _ _ | with_reducible exact G_mk.out _ _ | with_reducible exact G_rn.out _ _ | with_reducible exact G_is.out _ _ | with_reducible exact G_ps.out _ _ | with_reducible exact G_up.out _ _ | with_reducible exact G_vr.out _ _ | with_reducible exact G_dp.out _ _ | with_reducible exact G_rt.out _ _ | with_reducible exact G_om.out _ _ | with_reducible exact G_bd.out _ _)) | quiet_step ((first | with_reducible exact G_td.out _ _ | with_reducible exact G_mk.out _ _ | with_reducible exact G_rn.out _ _ | with_reducible exact G_is.out _ _ | with_reducible exact G_ps.out _ _ | with_reducible exact G_up.out _ _ | with_reducible exact G_vr.out _ _ | with_reducible exact G_dp.out _ _ | with_reducible exact G_rt.out _ _ | with_reducible exact G_om.out _ _ | with_reducible exact G_bd.out _ _)))
    refine wpQuiet_nil ?_
    intro _ hw'
    obtain ⟨⟨dq, osq⟩, hw''⟩ := hw'
    subst hw''
    have BQ := Lib.hid (S0.out.bel.trans ((below_regrown w2 dq osq).mono S0.out.bel.size))
    clear r0 r1
    go_wp2_with fail
    go_ret
    exact ⟨rfl, BQ.out⟩
  | false =>
  cases b1 with
  | false =>
    refine wp_region_quiet_below (l := opsL110) (by kernel_rfl) lex110 ?_
    unfold opsL110
    repeat (first | go_big_quiet_step ((first | with_reducible exact G_td.out _ _ | with_reducible exact G_mk.out _ _ | with_reducible exact G_rn.out _ _ | with_reducible exact G_is.out _ _ | with_reducible exact G_ps.out _ _ | with_reducible exact G_up.out _ _ | with_reducible exact G_vr.out _ _ | with_reducible exact G_dp.out _ _ | with_reducible exact G_rt.out _ _ | with_reducible exact G_om.out _ _ | with_reducible exact G_bd.out _ _)) | quiet_step ((first | with_reducible exact G_td.out _ _ | with_reducible exact G_mk.out _ _ | with_reducible exact G_rn.out _ _ | with_reducible exact G_is.out _ _ | with_reducible exact G_ps.out _ _ | with_reducible exact G_up.out _ _ | with_reducible exact G_vr.out _ _ | with_reducible exact G_dp.out _ _ | with_reducible exact G_rt.out _ _ | with_reducible exact G_om.out _ _ | with_reducible exact G_bd.out _ _)))
    refine wpQuiet_nil ?_
    intro _ hw'
    obtain ⟨⟨dq, osq⟩, hw''⟩ := hw'
    subst hw''
    have BQ := Lib.hid (S0.out.bel.trans ((below_regrown w2 dq osq).mono S0.out.bel.size))
    clear r0 r1
    go_wp2_with fail
    go_ret
    exact ⟨rfl, BQ.out⟩
  | true =>
  cases b2 with
  | false =>
    refine wp_region_quiet_below (l := opsL110) (by kernel_rfl) lex110 ?_
    unfold opsL110
    repeat (first | go_big_quiet_step ((first | with_reducible exact G_td.out _ _ | with_reducible exact G_mk.out _ _ | with_reducible exact G_rn.out _ _ | with_reducible exact G_is.out _ _ | with_reducible exact G_ps.out _ _ | with_reducible exact G_up.out _ _ | with_reducible exact G_vr.out _ _ | with_reducible exact G_dp.out _ _ | with_reducible exact G_rt.out _ _ | with_reducible exact G_om.out _ _ | with_reducible exact G_bd.out _ _)) | quiet_step ((first | with_reducible exact G_td.out _ _ | with_reducible exact G_mk.out _ _ | with_reducible exact G_rn.out _ _ | with_reducible exact G_is.out _ _ | with_reducible exact G_ps.out _ _ | with_reducible exact G_up.out _ _ | with_reducible exact G_vr.out _ _ | with_reducible exact G_dp.out _ _ | with_reducible exact G_rt.out _ _ | with_reducible exact G_om.out _ _ | with_reducible exact G_bd.out _ _)))
    refine wpQuiet_nil ?_
    intro _ hw'
    obtain ⟨⟨dq, osq⟩, hw''⟩ := hw'
    subst hw''
    have BQ := Lib.hid (S0.out.bel.trans ((below_regrown w2 dq osq).mono S0.out.bel.size))
    clear r0 r1
    go_wp2_with fail
    go_ret
    exact ⟨rfl, BQ.out⟩
  | true =>
  have hz2 := hz (by rfl)
  clear hz
  cases b3 with
  | false =>
    refine wp_region_quiet_below (l := opsL110) (by kernel_rfl) lex110 ?_
    unfold opsL110
    repeat (first | go_big_quiet_step ((first | with_reducible exact G_td.out _ _ | with_reducible exact G_mk.out _ _ | with_reducible exact G_rn.out _ _ | with_reducible exact G_is.out _ _ | with_reducible exact G_ps.out _ _ | with_reducible exact G_up.out _ _ | with_reducible exact G_vr.out _ _ | with_reducible exact G_dp.out _ _ | with_reducible exact G_rt.out _ _ | with_reducible exact G_om.out _ _ | with_reducible exact G_bd.out _ _)) | quiet_step ((first | with_reducible exact G_td.out _ _ | with_reducible exact G_mk.out _ _ | with_reducible exact G_rn.out _ _ | with_reducible exact G_is.out _ _ | with_reducible exact G_ps.out _ _ | with_reducible exact G_up.out _ _ | with_reducible exact G_vr.out _ _ | with_reducible exact G_dp.out _ _ | with_reducible exact G_rt.out _ _ | with_reducible exact G_om.out _ _ | with_reducible exact G_bd.out _ _)))
    refine wpQuiet_nil ?_
    intro _ hw'
    obtain ⟨⟨dq, osq⟩, hw''⟩ := hw'
    subst hw''
    have BQ := Lib.hid (S0.out.bel.trans ((below_regrown w2 dq osq).mono S0.out.bel.size))
    clear r0 r1
    go_wp2_with fail
    go_ret
    exact ⟨rfl, BQ.out⟩
  | true => cases hne
end Go.Proofs.YtciijpahjjoppaaGreat
end
section
namespace Go.Proofs.YtciijpahjjoppaaGreat
open Go.RowKit Go.Deep Go.Maps Go.Sort

set_option linter.unusedVariables false

set_option maxRecDepth 100000 in
set_option maxHeartbeats 32000000 in
theorem rt_deep (w0 : World) (d : Int) (ar : Nat) (m0 m1 : List (List D)) (nm : ByteArray) (rs : Int) (ps vr inn bd en : List (List D)) (m0a : Option Addr) (m0c : Nat) (m1a : Option Addr) (m1c : Nat) (psa : Option Addr) (psc : Nat) (vra : Option Addr) (vrc : Nat) (ina : Option Addr) (inc : Nat) (bda : Option Addr) (bdc : Nat) (ena : Option Addr) (enc : Nat)
    (h_td : Says w0 60 #[.agg #[.int .i64 d, .int .i64 ar]] (.bool true)) (w : World) (hW : Below w0.heap.size w0 w) :
    Calls Tryz.prog 110 #[.agg #[.int .i64 d, .int .i64 ar], .agg #[.slice m0a m0.length m0c, .slice m1a m1.length m1c, .string nm, .int .i64 rs, .slice psa ps.length psc, .slice vra vr.length vrc, .slice ina inn.length inc, .slice bda bd.length bdc, .slice ena en.length enc]] w fun e w' => e = .returned (.bool false) ∧ Below w.heap.size w w' := by
  have K_td := Lib.hid h_td
  have HW := Lib.hid hW
  have S0 := Lib.hid (Bx2.start w (.cells #[.int .i64 d, .int .i64 ar] 51) (.cells #[.slice m0a m0.length m0c, .slice m1a m1.length m1c, .string nm, .int .i64 rs, .slice psa ps.length psc, .slice vra vr.length vrc, .slice ina inn.length inc, .slice bda bd.length bdc, .slice ena en.length enc] 80))
  clear hW h_td
  go_enter Tryz.func110, Tryz.ntmps110
  go_wp2_with fail
  obtain ⟨w2, hw2⟩ : ∃ w2, w2 = (w.alloc (.cells #[.int .i64 d, .int .i64 ar] 51)).alloc (.cells #[.slice m0a m0.length m0c, .slice m1a m1.length m1c, .string nm, .int .i64 rs, .slice psa ps.length psc, .slice vra vr.length vrc, .slice ina inn.length inc, .slice bda bd.length bdc, .slice ena en.length enc] 80) := ⟨_, rfl⟩
  rw [← hw2] at S0 ⊢
  have HSZ := Lib.hid hw2
  clear hw2
  have r0 := cellsRg S0.out.a
  have r1 := cellsRg S0.out.b
  have B2 := Lib.hid (S0.out.on HW.out)
  have G_td := Lib.hid (K_td.out.rg B2.out)
  clear K_td
  refine wp_region_quiet_below (l := opsL110) (by kernel_rfl) lex110 ?_
  unfold opsL110
  repeat (first | go_big_quiet_step ((first | with_reducible exact G_td.out _ _)) | quiet_step ((first | with_reducible exact G_td.out _ _)))
  refine wpQuiet_nil ?_
  intro _ hw'
  obtain ⟨⟨dq, osq⟩, hw''⟩ := hw'
  subst hw''
  have BQ := Lib.hid (S0.out.bel.trans ((below_regrown w2 dq osq).mono S0.out.bel.size))
  clear r0 r1
  go_wp2_with fail
  go_ret
  exact ⟨rfl, BQ.out⟩
end Go.Proofs.YtciijpahjjoppaaGreat
end
section
namespace Go.Proofs.YtciijpahjjoppaaGreat
open Go.RowKit Go.Deep Go.Maps Go.Sort

set_option linter.unusedVariables false

set_option maxRecDepth 100000 in
set_option maxHeartbeats 32000000 in
theorem rt_b1 (w0 : World) (d : Int) (ar : Nat) (m0 m1 : List (List D)) (nm : ByteArray) (rs : Int) (ps vr inn bd en : List (List D)) (m0a : Option Addr) (m0c : Nat) (m1a : Option Addr) (m1c : Nat) (psa : Option Addr) (psc : Nat) (vra : Option Addr) (vrc : Nat) (ina : Option Addr) (inc : Nat) (bda : Option Addr) (bdc : Nat) (ena : Option Addr) (enc : Nat) (b3 b4 b5 b6 b7 b8 : Bool)
    (h_td : Says w0 60 #[.agg #[.int .i64 d, .int .i64 ar]] (.bool false))
    (h_mk : Says w0 105 #[.agg #[.int .i64 d, .int .i64 ar], .agg #[.slice m0a m0.length m0c, .slice m1a m1.length m1c]] (.bool true))
    (h_rn : Says w0 98 #[.agg #[.int .i64 d, .int .i64 ar], .string nm] (.bool true))
    (h_is : Says w0 136 #[.int .i64 rs] (.bool b3))
    (h_ps : Says w0 137 #[.slice psa ps.length psc, .func (.func 138) #[.agg #[.int .i64 d, .int .i64 ar]] #[]] (.bool b4))
    (h_up : Says w0 139 #[.slice psa ps.length psc] (.bool b5))
    (h_vr : Says w0 71 #[.slice vra vr.length vrc, .func (.func 72) #[.agg #[.int .i64 d, .int .i64 ar]] #[]] (.bool b6))
    (h_dp : Says w0 65 #[.agg #[.int .i64 d, .int .i64 ar]] (.agg #[.int .i64 d, .int .i64 ((ar : Int) + 1)]))
    (h_rt : Says w0 73 #[.agg #[.int .i64 d, .int .i64 ((ar : Int) + 1)], .slice ina inn.length inc] (.bool b7))
    (h_om : Says w0 114 #[.agg #[.int .i64 d, .int .i64 ar]] (.agg #[.int .i64 d, .int .i64 0]))
    (h_bd : Says w0 74 #[.slice bda bd.length bdc, .func (.func 75) #[.agg #[.int .i64 d, .int .i64 0]] #[]] (.bool b8))
    (hd : d = 0 ∨ d = 1) (hz : (rs == 0) = true) (hin : True) (hne : (b4 && (b5 && (b6 && (((d == 0) || (inn.length == 0)) && (b7 && b8))))) = false) (w : World) (hW : Below w0.heap.size w0 w) :
    Calls Tryz.prog 110 #[.agg #[.int .i64 d, .int .i64 ar], .agg #[.slice m0a m0.length m0c, .slice m1a m1.length m1c, .string nm, .int .i64 rs, .slice psa ps.length psc, .slice vra vr.length vrc, .slice ina inn.length inc, .slice bda bd.length bdc, .slice ena en.length enc]] w fun e w' => e = .returned (.bool false) ∧ Below w.heap.size w w' := by
  have K_td := Lib.hid h_td
  have K_mk := Lib.hid h_mk
  have K_rn := Lib.hid h_rn
  have K_is := Lib.hid h_is
  have K_ps := Lib.hid h_ps
  have K_up := Lib.hid h_up
  have K_vr := Lib.hid h_vr
  have K_dp := Lib.hid h_dp
  have K_rt := Lib.hid h_rt
  have K_om := Lib.hid h_om
  have K_bd := Lib.hid h_bd
  have HW := Lib.hid hW
  have S0 := Lib.hid (Bx2.start w (.cells #[.int .i64 d, .int .i64 ar] 51) (.cells #[.slice m0a m0.length m0c, .slice m1a m1.length m1c, .string nm, .int .i64 rs, .slice psa ps.length psc, .slice vra vr.length vrc, .slice ina inn.length inc, .slice bda bd.length bdc, .slice ena en.length enc] 80))
  clear hW h_td h_mk h_rn h_is h_ps h_up h_vr h_dp h_rt h_om h_bd
  go_enter Tryz.func110, Tryz.ntmps110
  go_wp2_with fail
  obtain ⟨w2, hw2⟩ : ∃ w2, w2 = (w.alloc (.cells #[.int .i64 d, .int .i64 ar] 51)).alloc (.cells #[.slice m0a m0.length m0c, .slice m1a m1.length m1c, .string nm, .int .i64 rs, .slice psa ps.length psc, .slice vra vr.length vrc, .slice ina inn.length inc, .slice bda bd.length bdc, .slice ena en.length enc] 80) := ⟨_, rfl⟩
  rw [← hw2] at S0 ⊢
  have HSZ := Lib.hid hw2
  clear hw2
  have r0 := cellsRg S0.out.a
  have r1 := cellsRg S0.out.b
  have B2 := Lib.hid (S0.out.on HW.out)
  have G_td := Lib.hid (K_td.out.rg B2.out)
  have G_mk := Lib.hid (K_mk.out.rg B2.out)
  have G_rn := Lib.hid (K_rn.out.rg B2.out)
  have G_is := Lib.hid (K_is.out.rg B2.out)
  have G_ps := Lib.hid (K_ps.out.rg B2.out)
  have G_up := Lib.hid (K_up.out.rg B2.out)
  have G_vr := Lib.hid (K_vr.out.rg B2.out)
  have G_dp := Lib.hid (K_dp.out.rg B2.out)
  have G_rt := Lib.hid (K_rt.out.rg B2.out)
  have G_om := Lib.hid (K_om.out.rg B2.out)
  have G_bd := Lib.hid (K_bd.out.rg B2.out)
  clear K_td K_mk K_rn K_is K_ps K_up K_vr K_dp K_rt K_om K_bd
  cases b4 with
  | false =>
    refine wp_region_quiet_below (l := opsL110) (by kernel_rfl) lex110 ?_
    unfold opsL110
    repeat (first | go_big_quiet_step ((first | with_reducible exact G_td.out _ _ | with_reducible exact G_mk.out _ _ | with_reducible exact G_rn.out _ _ | with_reducible exact G_is.out _ _ | with_reducible exact G_ps.out _ _ | with_reducible exact G_up.out _ _ | with_reducible exact G_vr.out _ _ | with_reducible exact G_dp.out _ _ | with_reducible exact G_rt.out _ _ | with_reducible exact G_om.out _ _ | with_reducible exact G_bd.out _ _)) | quiet_step ((first | with_reducible exact G_td.out _ _ | with_reducible exact G_mk.out _ _ | with_reducible exact G_rn.out _ _ | with_reducible exact G_is.out _ _ | with_reducible exact G_ps.out _ _ | with_reducible exact G_up.out _ _ | with_reducible exact G_vr.out _ _ | with_reducible exact G_dp.out _ _ | with_reducible exact G_rt.out _ _ | with_reducible exact G_om.out _ _ | with_reducible exact G_bd.out _ _)))
    refine wpQuiet_nil ?_
    intro _ hw'
    obtain ⟨⟨dq, osq⟩, hw''⟩ := hw'
    subst hw''
    have BQ := Lib.hid (S0.out.bel.trans ((below_regrown w2 dq osq).mono S0.out.bel.size))
    clear r0 r1
    go_wp2_with fail
    go_ret
    exact ⟨rfl, BQ.out⟩
  | true =>
  cases b5 with
  | false =>
    refine wp_region_quiet_below (l := opsL110) (by kernel_rfl) lex110 ?_
    unfold opsL110
    repeat (first | go_big_quiet_step ((first | with_reducible exact G_td.out _ _ | with_reducible exact G_mk.out _ _ | with_reducible exact G_rn.out _ _ | with_reducible exact G_is.out _ _ | with_reducible exact G_ps.out _ _ | with_reducible exact G_up.out _ _ | with_reducible exact G_vr.out _ _ | with_reducible exact G_dp.out _ _ | with_reducible exact G_rt.out _ _ | with_reducible exact G_om.out _ _ | with_reducible exact G_bd.out _ _)) | quiet_step ((first | with_reducible exact G_td.out _ _ | with_reducible exact G_mk.out _ _ | with_reducible exact G_rn.out _ _ | with_reducible exact G_is.out _ _ | with_reducible exact G_ps.out _ _ | with_reducible exact G_up.out _ _ | with_reducible exact G_vr.out _ _ | with_reducible exact G_dp.out _ _ | with_reducible exact G_rt.out _ _ | with_reducible exact G_om.out _ _ | with_reducible exact G_bd.out _ _)))
    refine wpQuiet_nil ?_
    intro _ hw'
    obtain ⟨⟨dq, osq⟩, hw''⟩ := hw'
    subst hw''
    have BQ := Lib.hid (S0.out.bel.trans ((below_regrown w2 dq osq).mono S0.out.bel.size))
    clear r0 r1
    go_wp2_with fail
    go_ret
    exact ⟨rfl, BQ.out⟩
  | true =>
  cases b6 with
  | false =>
    refine wp_region_quiet_below (l := opsL110) (by kernel_rfl) lex110 ?_
    unfold opsL110
    repeat (first | go_big_quiet_step ((first | with_reducible exact G_td.out _ _ | with_reducible exact G_mk.out _ _ | with_reducible exact G_rn.out _ _ | with_reducible exact G_is.out _ _ | with_reducible exact G_ps.out _ _ | with_reducible exact G_up.out _ _ | with_reducible exact G_vr.out _ _ | with_reducible exact G_dp.out _ _ | with_reducible exact G_rt.out _ _ | with_reducible exact G_om.out _ _ | with_reducible exact G_bd.out _ _)) | quiet_step ((first | with_reducible exact G_td.out _ _ | with_reducible exact G_mk.out _ _ | with_reducible exact G_rn.out _ _ | with_reducible exact G_is.out _ _ | with_reducible exact G_ps.out _ _ | with_reducible exact G_up.out _ _ | with_reducible exact G_vr.out _ _ | with_reducible exact G_dp.out _ _ | with_reducible exact G_rt.out _ _ | with_reducible exact G_om.out _ _ | with_reducible exact G_bd.out _ _)))
    refine wpQuiet_nil ?_
    intro _ hw'
    obtain ⟨⟨dq, osq⟩, hw''⟩ := hw'
    subst hw''
    have BQ := Lib.hid (S0.out.bel.trans ((below_regrown w2 dq osq).mono S0.out.bel.size))
    clear r0 r1
    go_wp2_with fail
    go_ret
    exact ⟨rfl, BQ.out⟩
  | true =>
  rcases hd with rfl | rfl
  · clear hin
    cases b7 with
    | false =>
      refine wp_region_quiet_below (l := opsL110) (by kernel_rfl) lex110 ?_
      unfold opsL110
      repeat (first | go_big_quiet_step ((first | with_reducible exact G_td.out _ _ | with_reducible exact G_mk.out _ _ | with_reducible exact G_rn.out _ _ | with_reducible exact G_is.out _ _ | with_reducible exact G_ps.out _ _ | with_reducible exact G_up.out _ _ | with_reducible exact G_vr.out _ _ | with_reducible exact G_dp.out _ _ | with_reducible exact G_rt.out _ _ | with_reducible exact G_om.out _ _ | with_reducible exact G_bd.out _ _)) | quiet_step ((first | with_reducible exact G_td.out _ _ | with_reducible exact G_mk.out _ _ | with_reducible exact G_rn.out _ _ | with_reducible exact G_is.out _ _ | with_reducible exact G_ps.out _ _ | with_reducible exact G_up.out _ _ | with_reducible exact G_vr.out _ _ | with_reducible exact G_dp.out _ _ | with_reducible exact G_rt.out _ _ | with_reducible exact G_om.out _ _ | with_reducible exact G_bd.out _ _)))
      refine wpQuiet_nil ?_
      intro _ hw'
      obtain ⟨⟨dq, osq⟩, hw''⟩ := hw'
      subst hw''
      have BQ := Lib.hid (S0.out.bel.trans ((below_regrown w2 dq osq).mono S0.out.bel.size))
      clear r0 r1
      go_wp2_with fail
      go_ret
      exact ⟨rfl, BQ.out⟩
    | true =>
    cases b8 with
    | false =>
      refine wp_region_quiet_below (l := opsL110) (by kernel_rfl) lex110 ?_
      unfold opsL110
      repeat (first | go_big_quiet_step ((first | with_reducible exact G_td.out _ _ | with_reducible exact G_mk.out _ _ | with_reducible exact G_rn.out _ _ | with_reducible exact G_is.out _ _ | with_reducible exact G_ps.out _ _ | with_reducible exact G_up.out _ _ | with_reducible exact G_vr.out _ _ | with_reducible exact G_dp.out _ _ | with_reducible exact G_rt.out _ _ | with_reducible exact G_om.out _ _ | with_reducible exact G_bd.out _ _)) | quiet_step ((first | with_reducible exact G_td.out _ _ | with_reducible exact G_mk.out _ _ | with_reducible exact G_rn.out _ _ | with_reducible exact G_is.out _ _ | with_reducible exact G_ps.out _ _ | with_reducible exact G_up.out _ _ | with_reducible exact G_vr.out _ _ | with_reducible exact G_dp.out _ _ | with_reducible exact G_rt.out _ _ | with_reducible exact G_om.out _ _ | with_reducible exact G_bd.out _ _)))
      refine wpQuiet_nil ?_
      intro _ hw'
      obtain ⟨⟨dq, osq⟩, hw''⟩ := hw'
      subst hw''
      have BQ := Lib.hid (S0.out.bel.trans ((below_regrown w2 dq osq).mono S0.out.bel.size))
      clear r0 r1
      go_wp2_with fail
      go_ret
      exact ⟨rfl, BQ.out⟩
    | true => cases hne
  · by_cases hk : inn.length = 0
    · have g1 : ((inn.length : Int) == 0) = true := by rw [beq_iff_eq]; omega
      have g2 : (inn.length == 0) = true := by rw [beq_iff_eq]; omega
      clear hk hin
      cases b7 with
      | false =>
        refine wp_region_quiet_below (l := opsL110) (by kernel_rfl) lex110 ?_
        unfold opsL110
        repeat (first | go_big_quiet_step ((first | with_reducible exact G_td.out _ _ | with_reducible exact G_mk.out _ _ | with_reducible exact G_rn.out _ _ | with_reducible exact G_is.out _ _ | with_reducible exact G_ps.out _ _ | with_reducible exact G_up.out _ _ | with_reducible exact G_vr.out _ _ | with_reducible exact G_dp.out _ _ | with_reducible exact G_rt.out _ _ | with_reducible exact G_om.out _ _ | with_reducible exact G_bd.out _ _)) | quiet_step ((first | with_reducible exact G_td.out _ _ | with_reducible exact G_mk.out _ _ | with_reducible exact G_rn.out _ _ | with_reducible exact G_is.out _ _ | with_reducible exact G_ps.out _ _ | with_reducible exact G_up.out _ _ | with_reducible exact G_vr.out _ _ | with_reducible exact G_dp.out _ _ | with_reducible exact G_rt.out _ _ | with_reducible exact G_om.out _ _ | with_reducible exact G_bd.out _ _)))
        refine wpQuiet_nil ?_
        intro _ hw'
        obtain ⟨⟨dq, osq⟩, hw''⟩ := hw'
        subst hw''
        have BQ := Lib.hid (S0.out.bel.trans ((below_regrown w2 dq osq).mono S0.out.bel.size))
        clear r0 r1
        go_wp2_with fail
        go_ret
        exact ⟨rfl, BQ.out⟩
      | true =>
      cases b8 with
      | false =>
        refine wp_region_quiet_below (l := opsL110) (by kernel_rfl) lex110 ?_
        unfold opsL110
        repeat (first | go_big_quiet_step ((first | with_reducible exact G_td.out _ _ | with_reducible exact G_mk.out _ _ | with_reducible exact G_rn.out _ _ | with_reducible exact G_is.out _ _ | with_reducible exact G_ps.out _ _ | with_reducible exact G_up.out _ _ | with_reducible exact G_vr.out _ _ | with_reducible exact G_dp.out _ _ | with_reducible exact G_rt.out _ _ | with_reducible exact G_om.out _ _ | with_reducible exact G_bd.out _ _)) | quiet_step ((first | with_reducible exact G_td.out _ _ | with_reducible exact G_mk.out _ _ | with_reducible exact G_rn.out _ _ | with_reducible exact G_is.out _ _ | with_reducible exact G_ps.out _ _ | with_reducible exact G_up.out _ _ | with_reducible exact G_vr.out _ _ | with_reducible exact G_dp.out _ _ | with_reducible exact G_rt.out _ _ | with_reducible exact G_om.out _ _ | with_reducible exact G_bd.out _ _)))
        refine wpQuiet_nil ?_
        intro _ hw'
        obtain ⟨⟨dq, osq⟩, hw''⟩ := hw'
        subst hw''
        have BQ := Lib.hid (S0.out.bel.trans ((below_regrown w2 dq osq).mono S0.out.bel.size))
        clear r0 r1
        go_wp2_with fail
        go_ret
        exact ⟨rfl, BQ.out⟩
      | true => simp [g2] at hne
    · have g1 : ((inn.length : Int) == 0) = false := by rw [beq_eq_false_iff_ne]; omega
      have g2 : (inn.length == 0) = false := by rw [beq_eq_false_iff_ne]; omega
      clear hk hin hne
      refine wp_region_quiet_below (l := opsL110) (by kernel_rfl) lex110 ?_
      unfold opsL110
      repeat (first | go_big_quiet_step ((first | with_reducible exact G_td.out _ _ | with_reducible exact G_mk.out _ _ | with_reducible exact G_rn.out _ _ | with_reducible exact G_is.out _ _ | with_reducible exact G_ps.out _ _ | with_reducible exact G_up.out _ _ | with_reducible exact G_vr.out _ _ | with_reducible exact G_dp.out _ _ | with_reducible exact G_rt.out _ _ | with_reducible exact G_om.out _ _ | with_reducible exact G_bd.out _ _)) | quiet_step ((first | with_reducible exact G_td.out _ _ | with_reducible exact G_mk.out _ _ | with_reducible exact G_rn.out _ _ | with_reducible exact G_is.out _ _ | with_reducible exact G_ps.out _ _ | with_reducible exact G_up.out _ _ | with_reducible exact G_vr.out _ _ | with_reducible exact G_dp.out _ _ | with_reducible exact G_rt.out _ _ | with_reducible exact G_om.out _ _ | with_reducible exact G_bd.out _ _)))
      refine wpQuiet_nil ?_
      intro _ hw'
      obtain ⟨⟨dq, osq⟩, hw''⟩ := hw'
      subst hw''
      have BQ := Lib.hid (S0.out.bel.trans ((below_regrown w2 dq osq).mono S0.out.bel.size))
      clear r0 r1
      go_wp2_with fail
      go_ret
      exact ⟨rfl, BQ.out⟩
end Go.Proofs.YtciijpahjjoppaaGreat
end
section
namespace Go.Proofs.YtciijpahjjoppaaGreat
open Go.RowKit Go.Deep Go.Maps Go.Sort

set_option linter.unusedVariables false

set_option maxRecDepth 100000 in
set_option maxHeartbeats 32000000 in
theorem rt_b0 (w0 : World) (d : Int) (ar : Nat) (m0 m1 : List (List D)) (nm : ByteArray) (rs : Int) (ps vr inn bd en : List (List D)) (m0a : Option Addr) (m0c : Nat) (m1a : Option Addr) (m1c : Nat) (psa : Option Addr) (psc : Nat) (vra : Option Addr) (vrc : Nat) (ina : Option Addr) (inc : Nat) (bda : Option Addr) (bdc : Nat) (ena : Option Addr) (enc : Nat) (b4 b5 b6 b7 b8 : Bool)
    (h_td : Says w0 60 #[.agg #[.int .i64 d, .int .i64 ar]] (.bool false))
    (h_mk : Says w0 105 #[.agg #[.int .i64 d, .int .i64 ar], .agg #[.slice m0a m0.length m0c, .slice m1a m1.length m1c]] (.bool true))
    (h_rn : Says w0 98 #[.agg #[.int .i64 d, .int .i64 ar], .string nm] (.bool true))
    (h_is : Says w0 136 #[.int .i64 rs] (.bool true))
    (h_ps : Says w0 137 #[.slice psa ps.length psc, .func (.func 138) #[.agg #[.int .i64 d, .int .i64 ar]] #[]] (.bool b4))
    (h_up : Says w0 139 #[.slice psa ps.length psc] (.bool b5))
    (h_vr : Says w0 71 #[.slice vra vr.length vrc, .func (.func 72) #[.agg #[.int .i64 d, .int .i64 ar]] #[]] (.bool b6))
    (h_dp : Says w0 65 #[.agg #[.int .i64 d, .int .i64 ar]] (.agg #[.int .i64 d, .int .i64 ((ar : Int) + 1)]))
    (h_rt : Says w0 73 #[.agg #[.int .i64 d, .int .i64 ((ar : Int) + 1)], .slice ina inn.length inc] (.bool b7))
    (h_om : Says w0 114 #[.agg #[.int .i64 d, .int .i64 ar]] (.agg #[.int .i64 d, .int .i64 0]))
    (h_bd : Says w0 74 #[.slice bda bd.length bdc, .func (.func 75) #[.agg #[.int .i64 d, .int .i64 0]] #[]] (.bool b8))
    (hd : d = 0 ∨ d = 1) (hz : (rs == 0) = false) (hin : True) (hne : (b4 && (b5 && (b6 && (((d == 0) || (inn.length == 0)) && (b7 && b8))))) = false) (w : World) (hW : Below w0.heap.size w0 w) :
    Calls Tryz.prog 110 #[.agg #[.int .i64 d, .int .i64 ar], .agg #[.slice m0a m0.length m0c, .slice m1a m1.length m1c, .string nm, .int .i64 rs, .slice psa ps.length psc, .slice vra vr.length vrc, .slice ina inn.length inc, .slice bda bd.length bdc, .slice ena en.length enc]] w fun e w' => e = .returned (.bool false) ∧ Below w.heap.size w w' := by
  have K_td := Lib.hid h_td
  have K_mk := Lib.hid h_mk
  have K_rn := Lib.hid h_rn
  have K_is := Lib.hid h_is
  have K_ps := Lib.hid h_ps
  have K_up := Lib.hid h_up
  have K_vr := Lib.hid h_vr
  have K_dp := Lib.hid h_dp
  have K_rt := Lib.hid h_rt
  have K_om := Lib.hid h_om
  have K_bd := Lib.hid h_bd
  have HW := Lib.hid hW
  have S0 := Lib.hid (Bx2.start w (.cells #[.int .i64 d, .int .i64 ar] 51) (.cells #[.slice m0a m0.length m0c, .slice m1a m1.length m1c, .string nm, .int .i64 rs, .slice psa ps.length psc, .slice vra vr.length vrc, .slice ina inn.length inc, .slice bda bd.length bdc, .slice ena en.length enc] 80))
  clear hW h_td h_mk h_rn h_is h_ps h_up h_vr h_dp h_rt h_om h_bd
  go_enter Tryz.func110, Tryz.ntmps110
  go_wp2_with fail
  obtain ⟨w2, hw2⟩ : ∃ w2, w2 = (w.alloc (.cells #[.int .i64 d, .int .i64 ar] 51)).alloc (.cells #[.slice m0a m0.length m0c, .slice m1a m1.length m1c, .string nm, .int .i64 rs, .slice psa ps.length psc, .slice vra vr.length vrc, .slice ina inn.length inc, .slice bda bd.length bdc, .slice ena en.length enc] 80) := ⟨_, rfl⟩
  rw [← hw2] at S0 ⊢
  have HSZ := Lib.hid hw2
  clear hw2
  have r0 := cellsRg S0.out.a
  have r1 := cellsRg S0.out.b
  have B2 := Lib.hid (S0.out.on HW.out)
  have G_td := Lib.hid (K_td.out.rg B2.out)
  have G_mk := Lib.hid (K_mk.out.rg B2.out)
  have G_rn := Lib.hid (K_rn.out.rg B2.out)
  have G_is := Lib.hid (K_is.out.rg B2.out)
  have G_ps := Lib.hid (K_ps.out.rg B2.out)
  have G_up := Lib.hid (K_up.out.rg B2.out)
  have G_vr := Lib.hid (K_vr.out.rg B2.out)
  have G_dp := Lib.hid (K_dp.out.rg B2.out)
  have G_rt := Lib.hid (K_rt.out.rg B2.out)
  have G_om := Lib.hid (K_om.out.rg B2.out)
  have G_bd := Lib.hid (K_bd.out.rg B2.out)
  clear K_td K_mk K_rn K_is K_ps K_up K_vr K_dp K_rt K_om K_bd
  cases b4 with
  | false =>
    refine wp_region_quiet_below (l := opsL110) (by kernel_rfl) lex110 ?_
    unfold opsL110
    repeat (first | go_big_quiet_step ((first | with_reducible exact G_td.out _ _ | with_reducible exact G_mk.out _ _ | with_reducible exact G_rn.out _ _ | with_reducible exact G_is.out _ _ | with_reducible exact G_ps.out _ _ | with_reducible exact G_up.out _ _ | with_reducible exact G_vr.out _ _ | with_reducible exact G_dp.out _ _ | with_reducible exact G_rt.out _ _ | with_reducible exact G_om.out _ _ | with_reducible exact G_bd.out _ _)) | quiet_step ((first | with_reducible exact G_td.out _ _ | with_reducible exact G_mk.out _ _ | with_reducible exact G_rn.out _ _ | with_reducible exact G_is.out _ _ | with_reducible exact G_ps.out _ _ | with_reducible exact G_up.out _ _ | with_reducible exact G_vr.out _ _ | with_reducible exact G_dp.out _ _ | with_reducible exact G_rt.out _ _ | with_reducible exact G_om.out _ _ | with_reducible exact G_bd.out _ _)))
    refine wpQuiet_nil ?_
    intro _ hw'
    obtain ⟨⟨dq, osq⟩, hw''⟩ := hw'
    subst hw''
    have BQ := Lib.hid (S0.out.bel.trans ((below_regrown w2 dq osq).mono S0.out.bel.size))
    clear r0 r1
    go_wp2_with fail
    go_ret
    exact ⟨rfl, BQ.out⟩
  | true =>
  cases b5 with
  | false =>
    refine wp_region_quiet_below (l := opsL110) (by kernel_rfl) lex110 ?_
    unfold opsL110
    repeat (first | go_big_quiet_step ((first | with_reducible exact G_td.out _ _ | with_reducible exact G_mk.out _ _ | with_reducible exact G_rn.out _ _ | with_reducible exact G_is.out _ _ | with_reducible exact G_ps.out _ _ | with_reducible exact G_up.out _ _ | with_reducible exact G_vr.out _ _ | with_reducible exact G_dp.out _ _ | with_reducible exact G_rt.out _ _ | with_reducible exact G_om.out _ _ | with_reducible exact G_bd.out _ _)) | quiet_step ((first | with_reducible exact G_td.out _ _ | with_reducible exact G_mk.out _ _ | with_reducible exact G_rn.out _ _ | with_reducible exact G_is.out _ _ | with_reducible exact G_ps.out _ _ | with_reducible exact G_up.out _ _ | with_reducible exact G_vr.out _ _ | with_reducible exact G_dp.out _ _ | with_reducible exact G_rt.out _ _ | with_reducible exact G_om.out _ _ | with_reducible exact G_bd.out _ _)))
    refine wpQuiet_nil ?_
    intro _ hw'
    obtain ⟨⟨dq, osq⟩, hw''⟩ := hw'
    subst hw''
    have BQ := Lib.hid (S0.out.bel.trans ((below_regrown w2 dq osq).mono S0.out.bel.size))
    clear r0 r1
    go_wp2_with fail
    go_ret
    exact ⟨rfl, BQ.out⟩
  | true =>
  cases b6 with
  | false =>
    refine wp_region_quiet_below (l := opsL110) (by kernel_rfl) lex110 ?_
    unfold opsL110
    repeat (first | go_big_quiet_step ((first | with_reducible exact G_td.out _ _ | with_reducible exact G_mk.out _ _ | with_reducible exact G_rn.out _ _ | with_reducible exact G_is.out _ _ | with_reducible exact G_ps.out _ _ | with_reducible exact G_up.out _ _ | with_reducible exact G_vr.out _ _ | with_reducible exact G_dp.out _ _ | with_reducible exact G_rt.out _ _ | with_reducible exact G_om.out _ _ | with_reducible exact G_bd.out _ _)) | quiet_step ((first | with_reducible exact G_td.out _ _ | with_reducible exact G_mk.out _ _ | with_reducible exact G_rn.out _ _ | with_reducible exact G_is.out _ _ | with_reducible exact G_ps.out _ _ | with_reducible exact G_up.out _ _ | with_reducible exact G_vr.out _ _ | with_reducible exact G_dp.out _ _ | with_reducible exact G_rt.out _ _ | with_reducible exact G_om.out _ _ | with_reducible exact G_bd.out _ _)))
    refine wpQuiet_nil ?_
    intro _ hw'
    obtain ⟨⟨dq, osq⟩, hw''⟩ := hw'
    subst hw''
    have BQ := Lib.hid (S0.out.bel.trans ((below_regrown w2 dq osq).mono S0.out.bel.size))
    clear r0 r1
    go_wp2_with fail
    go_ret
    exact ⟨rfl, BQ.out⟩
  | true =>
  rcases hd with rfl | rfl
  · clear hin
    cases b7 with
    | false =>
      refine wp_region_quiet_below (l := opsL110) (by kernel_rfl) lex110 ?_
      unfold opsL110
      repeat (first | go_big_quiet_step ((first | with_reducible exact G_td.out _ _ | with_reducible exact G_mk.out _ _ | with_reducible exact G_rn.out _ _ | with_reducible exact G_is.out _ _ | with_reducible exact G_ps.out _ _ | with_reducible exact G_up.out _ _ | with_reducible exact G_vr.out _ _ | with_reducible exact G_dp.out _ _ | with_reducible exact G_rt.out _ _ | with_reducible exact G_om.out _ _ | with_reducible exact G_bd.out _ _)) | quiet_step ((first | with_reducible exact G_td.out _ _ | with_reducible exact G_mk.out _ _ | with_reducible exact G_rn.out _ _ | with_reducible exact G_is.out _ _ | with_reducible exact G_ps.out _ _ | with_reducible exact G_up.out _ _ | with_reducible exact G_vr.out _ _ | with_reducible exact G_dp.out _ _ | with_reducible exact G_rt.out _ _ | with_reducible exact G_om.out _ _ | with_reducible exact G_bd.out _ _)))
      refine wpQuiet_nil ?_
      intro _ hw'
      obtain ⟨⟨dq, osq⟩, hw''⟩ := hw'
      subst hw''
      have BQ := Lib.hid (S0.out.bel.trans ((below_regrown w2 dq osq).mono S0.out.bel.size))
      clear r0 r1
      go_wp2_with fail
      go_ret
      exact ⟨rfl, BQ.out⟩
    | true =>
    cases b8 with
    | false =>
      refine wp_region_quiet_below (l := opsL110) (by kernel_rfl) lex110 ?_
      unfold opsL110
      repeat (first | go_big_quiet_step ((first | with_reducible exact G_td.out _ _ | with_reducible exact G_mk.out _ _ | with_reducible exact G_rn.out _ _ | with_reducible exact G_is.out _ _ | with_reducible exact G_ps.out _ _ | with_reducible exact G_up.out _ _ | with_reducible exact G_vr.out _ _ | with_reducible exact G_dp.out _ _ | with_reducible exact G_rt.out _ _ | with_reducible exact G_om.out _ _ | with_reducible exact G_bd.out _ _)) | quiet_step ((first | with_reducible exact G_td.out _ _ | with_reducible exact G_mk.out _ _ | with_reducible exact G_rn.out _ _ | with_reducible exact G_is.out _ _ | with_reducible exact G_ps.out _ _ | with_reducible exact G_up.out _ _ | with_reducible exact G_vr.out _ _ | with_reducible exact G_dp.out _ _ | with_reducible exact G_rt.out _ _ | with_reducible exact G_om.out _ _ | with_reducible exact G_bd.out _ _)))
      refine wpQuiet_nil ?_
      intro _ hw'
      obtain ⟨⟨dq, osq⟩, hw''⟩ := hw'
      subst hw''
      have BQ := Lib.hid (S0.out.bel.trans ((below_regrown w2 dq osq).mono S0.out.bel.size))
      clear r0 r1
      go_wp2_with fail
      go_ret
      exact ⟨rfl, BQ.out⟩
    | true => cases hne
  · by_cases hk : inn.length = 0
    · have g1 : ((inn.length : Int) == 0) = true := by rw [beq_iff_eq]; omega
      have g2 : (inn.length == 0) = true := by rw [beq_iff_eq]; omega
      clear hk hin
      cases b7 with
      | false =>
        refine wp_region_quiet_below (l := opsL110) (by kernel_rfl) lex110 ?_
        unfold opsL110
        repeat (first | go_big_quiet_step ((first | with_reducible exact G_td.out _ _ | with_reducible exact G_mk.out _ _ | with_reducible exact G_rn.out _ _ | with_reducible exact G_is.out _ _ | with_reducible exact G_ps.out _ _ | with_reducible exact G_up.out _ _ | with_reducible exact G_vr.out _ _ | with_reducible exact G_dp.out _ _ | with_reducible exact G_rt.out _ _ | with_reducible exact G_om.out _ _ | with_reducible exact G_bd.out _ _)) | quiet_step ((first | with_reducible exact G_td.out _ _ | with_reducible exact G_mk.out _ _ | with_reducible exact G_rn.out _ _ | with_reducible exact G_is.out _ _ | with_reducible exact G_ps.out _ _ | with_reducible exact G_up.out _ _ | with_reducible exact G_vr.out _ _ | with_reducible exact G_dp.out _ _ | with_reducible exact G_rt.out _ _ | with_reducible exact G_om.out _ _ | with_reducible exact G_bd.out _ _)))
        refine wpQuiet_nil ?_
        intro _ hw'
        obtain ⟨⟨dq, osq⟩, hw''⟩ := hw'
        subst hw''
        have BQ := Lib.hid (S0.out.bel.trans ((below_regrown w2 dq osq).mono S0.out.bel.size))
        clear r0 r1
        go_wp2_with fail
        go_ret
        exact ⟨rfl, BQ.out⟩
      | true =>
      cases b8 with
      | false =>
        refine wp_region_quiet_below (l := opsL110) (by kernel_rfl) lex110 ?_
        unfold opsL110
        repeat (first | go_big_quiet_step ((first | with_reducible exact G_td.out _ _ | with_reducible exact G_mk.out _ _ | with_reducible exact G_rn.out _ _ | with_reducible exact G_is.out _ _ | with_reducible exact G_ps.out _ _ | with_reducible exact G_up.out _ _ | with_reducible exact G_vr.out _ _ | with_reducible exact G_dp.out _ _ | with_reducible exact G_rt.out _ _ | with_reducible exact G_om.out _ _ | with_reducible exact G_bd.out _ _)) | quiet_step ((first | with_reducible exact G_td.out _ _ | with_reducible exact G_mk.out _ _ | with_reducible exact G_rn.out _ _ | with_reducible exact G_is.out _ _ | with_reducible exact G_ps.out _ _ | with_reducible exact G_up.out _ _ | with_reducible exact G_vr.out _ _ | with_reducible exact G_dp.out _ _ | with_reducible exact G_rt.out _ _ | with_reducible exact G_om.out _ _ | with_reducible exact G_bd.out _ _)))
        refine wpQuiet_nil ?_
        intro _ hw'
        obtain ⟨⟨dq, osq⟩, hw''⟩ := hw'
        subst hw''
        have BQ := Lib.hid (S0.out.bel.trans ((below_regrown w2 dq osq).mono S0.out.bel.size))
        clear r0 r1
        go_wp2_with fail
        go_ret
        exact ⟨rfl, BQ.out⟩
      | true => simp [g2] at hne
    · have g1 : ((inn.length : Int) == 0) = false := by rw [beq_eq_false_iff_ne]; omega
      have g2 : (inn.length == 0) = false := by rw [beq_eq_false_iff_ne]; omega
      clear hk hin hne
      refine wp_region_quiet_below (l := opsL110) (by kernel_rfl) lex110 ?_
      unfold opsL110
      repeat (first | go_big_quiet_step ((first | with_reducible exact G_td.out _ _ | with_reducible exact G_mk.out _ _ | with_reducible exact G_rn.out _ _ | with_reducible exact G_is.out _ _ | with_reducible exact G_ps.out _ _ | with_reducible exact G_up.out _ _ | with_reducible exact G_vr.out _ _ | with_reducible exact G_dp.out _ _ | with_reducible exact G_rt.out _ _ | with_reducible exact G_om.out _ _ | with_reducible exact G_bd.out _ _)) | quiet_step ((first | with_reducible exact G_td.out _ _ | with_reducible exact G_mk.out _ _ | with_reducible exact G_rn.out _ _ | with_reducible exact G_is.out _ _ | with_reducible exact G_ps.out _ _ | with_reducible exact G_up.out _ _ | with_reducible exact G_vr.out _ _ | with_reducible exact G_dp.out _ _ | with_reducible exact G_rt.out _ _ | with_reducible exact G_om.out _ _ | with_reducible exact G_bd.out _ _)))
      refine wpQuiet_nil ?_
      intro _ hw'
      obtain ⟨⟨dq, osq⟩, hw''⟩ := hw'
      subst hw''
      have BQ := Lib.hid (S0.out.bel.trans ((below_regrown w2 dq osq).mono S0.out.bel.size))
      clear r0 r1
      go_wp2_with fail
      go_ret
      exact ⟨rfl, BQ.out⟩
end Go.Proofs.YtciijpahjjoppaaGreat
end
section
namespace Go.Proofs.YtciijpahjjoppaaGreat
open Go.RowKit Go.Deep Go.Maps Go.Sort

set_option linter.unusedVariables false

def RtS (w : World) (d : Int) (ar : Nat) (m0 m1 : List (List D)) (nm : ByteArray) (rs : Int) (ps vr inn bd en : List (List D)) (m0a : Option Addr) (m0c : Nat) (m1a : Option Addr) (m1c : Nat) (psa : Option Addr) (psc : Nat) (vra : Option Addr) (vrc : Nat) (ina : Option Addr) (inc : Nat) (bda : Option Addr) (bdc : Nat) (ena : Option Addr) (enc : Nat) (W : World) : Prop := W.cell? ⟨w.heap.size, 0, none⟩ = some (.int .i64 d) ∧ W.cell? ⟨w.heap.size, 1, none⟩ = some (.int .i64 ar) ∧ W.cell? ⟨w.heap.size + 1, 0, none⟩ = some (.slice m0a m0.length m0c) ∧ W.cell? ⟨w.heap.size + 1, 1, none⟩ = some (.slice m1a m1.length m1c) ∧ W.cell? ⟨w.heap.size + 1, 2, none⟩ = some (.string nm) ∧ W.cell? ⟨w.heap.size + 1, 3, none⟩ = some (.int .i64 rs) ∧ W.cell? ⟨w.heap.size + 1, 4, none⟩ = some (.slice psa ps.length psc) ∧ W.cell? ⟨w.heap.size + 1, 5, none⟩ = some (.slice vra vr.length vrc) ∧ W.cell? ⟨w.heap.size + 1, 6, none⟩ = some (.slice ina inn.length inc) ∧ W.cell? ⟨w.heap.size + 1, 7, none⟩ = some (.slice bda bd.length bdc) ∧ W.cell? ⟨w.heap.size + 1, 8, none⟩ = some (.slice ena en.length enc) ∧ Since w W
theorem RtS.since {w : World} {d : Int} {ar : Nat} {m0 m1 : List (List D)} {nm : ByteArray} {rs : Int} {ps vr inn bd en : List (List D)} {m0a : Option Addr} {m0c : Nat} {m1a : Option Addr} {m1c : Nat} {psa : Option Addr} {psc : Nat} {vra : Option Addr} {vrc : Nat} {ina : Option Addr} {inc : Nat} {bda : Option Addr} {bdc : Nat} {ena : Option Addr} {enc : Nat} {W : World} (h : RtS w d ar m0 m1 nm rs ps vr inn bd en m0a m0c m1a m1c psa psc vra vrc ina inc bda bdc ena enc W) : Since w W := h.2.2.2.2.2.2.2.2.2.2.2
theorem RtS.step {w : World} {d : Int} {ar : Nat} {m0 m1 : List (List D)} {nm : ByteArray} {rs : Int} {ps vr inn bd en : List (List D)} {m0a : Option Addr} {m0c : Nat} {m1a : Option Addr} {m1c : Nat} {psa : Option Addr} {psc : Nat} {vra : Option Addr} {vrc : Nat} {ina : Option Addr} {inc : Nat} {bda : Option Addr} {bdc : Nat} {ena : Option Addr} {enc : Nat} {W W' : World} (h : RtS w d ar m0 m1 nm rs ps vr inn bd en m0a m0c m1a m1c psa psc vra vrc ina inc bda bdc ena enc W) (b : Below W.heap.size W W') : RtS w d ar m0 m1 nm rs ps vr inn bd en m0a m0c m1a m1c psa psc vra vrc ina inc bda bdc ena enc W' := by
  obtain ⟨h0, h1, h2, h3, h4, h5, h6, h7, h8, h9, h10, h11⟩ := h
  exact ⟨cell_stays h0 b, cell_stays h1 b, cell_stays h2 b, cell_stays h3 b, cell_stays h4 b, cell_stays h5 b, cell_stays h6 b, cell_stays h7 b, cell_stays h8 b, cell_stays h9 b, cell_stays h10 b, h11.step b⟩
end Go.Proofs.YtciijpahjjoppaaGreat
end
