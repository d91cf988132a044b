/-
  What every card of Cee needs: a world that holds what the rows list, and what they say of two variables.
-/
import Derived.Test.YtjdmaindoohmkaaGreatDoorCards
import Derived.Test.YtjdmaindoohmkaaGreatDoorTie
import Derived.Test.YtjdmaindoohmkaaGreatDoorSc
import Derived.WalkKit
import Derived.ProofKit
import Derived.OpenShut
import Derived.ShutString
import Derived.ChangeOld
import Derived.Below
import Derived.Deep.DeepHandedRow
import Derived.Deep.MidRow
import Derived.Stop.LaidErr
import Derived.Lay
namespace Go.Proofs.YtjdmaindoohmkaaGreatDoor
open Go.ChangeShapes Go.WideShapes Go.ChangeAt Go.RowKit

theorem own : ownKnob Tryz.prog.godebug = none := by kernel_rfl
theorem laidOut : laidOutB Tryz.prog = true := by kernel_rfl
def tabs : List (String × DataW Unit) := [("math/bits.deBruijn32tab", Rows.laid_math_bits_deBruijn32tab), ("math/bits.deBruijn64tab", Rows.laid_math_bits_deBruijn64tab), ("internal/strconv.uint64pow10", Rows.laid_internal_strconv_uint64pow10), ("strconv.ErrRange", Rows.laid_strconv_ErrRange), ("strconv.ErrSyntax", Rows.laid_strconv_ErrSyntax)]
noncomputable def laidWorld (os : Os) : World := World.laidAll Tryz.prog os tabs
theorem laid_fits (os : Os) : (World.holding Tryz.prog os ⟨#[], #[], []⟩).layFits Tryz.prog tabs [] = true := by kernel_rfl
theorem laid_ifaces (os : Os) : (World.holding Tryz.prog os ⟨#[], #[], []⟩).layIfaces Tryz.prog tabs (World.laidAll Tryz.prog os tabs) = true := by kernel_rfl
theorem laid_all (os : Os) (args : Array Value) : laidMet Tryz.prog tabs ((laidWorld os).forCall (fun _ _ => 0) ⟨#[], args, []⟩).memory := laidMet_laidAll args (laid_fits os) (laid_ifaces os)
theorem shaped (os : Os) (args : Array Value) : ((laidWorld os).forCall (fun _ _ => 0) ⟨#[], args, []⟩).Shaped Tryz.prog := World.shaped_of_ZipB (by kernel_rfl) (by kernel_rfl)
/-- There is an input that fits. -/
theorem fits {H : Type} {enc : TypeId × Value → H} {os : Os} {f : FuncId} {fn : Func} {sp : OpenSpec} {conds : List PathCond} {apart : Bool} (args : Array Value)
    (hok : Input.okWideB Tryz.prog ((laidWorld os).forCall (fun _ _ => 0) ⟨#[], args, []⟩) f ⟨#[], args, []⟩ = true)
    (hrow : sp.preRow enc Tryz.prog fn conds apart tabs ((laidWorld os).forCall (fun _ _ => 0) ⟨#[], args, []⟩).memory args) :
    ∃ (w : World) (tape : Tape) (i : Input), w.os = os ∧ (w.forCall tape i).Shaped Tryz.prog ∧ i.vars = [] ∧ Input.okWide Tryz.prog (w.forCall tape i) .any w.heap.size f i ∧
      sp.preRow enc Tryz.prog fn conds apart tabs (w.forCall tape i).memory i.args ∧ ({ modest := false } : Assume).holds Tryz.prog (lone (Frame.enter Tryz.prog f i.args .normal) [] (w.forCall tape i)) :=
  ⟨laidWorld os, fun _ _ => 0, ⟨#[], args, []⟩, World.laidAll_os _ _ _, shaped os args, (Input.okWide_of_okWideB (base := 0) hok).1, (Input.okWide_of_okWideB hok).2, hrow, by
    simp [Assume.holds]⟩
theorem gRng : Tryz.prog.globalNamed "strconv.ErrRange" = some 2 := by kernel_rfl
theorem gRngT : (Tryz.prog.globals[2]?).map (·.type) = some 88 := by kernel_rfl
theorem gSyn : Tryz.prog.globalNamed "strconv.ErrSyntax" = some 1 := by kernel_rfl
theorem gSynT : (Tryz.prog.globals[1]?).map (·.type) = some 88 := by kernel_rfl
theorem cellsES : Tryz.prog.cellsOf 130 = 1 := by kernel_rfl
theorem cells9 : Tryz.prog.cellsOf 9 = 1 := by kernel_rfl
theorem starES : "*" ++ "errors.errorString" = "*errors.errorString" := by decide
theorem rowES (u : TypeId) (h : Tryz.prog.typeName? 3 u = some "*errors.errorString") : u = 128 :=
  typeName_ptr_named (nm := "errors.errorString") (by rw [starES]; kernel_rfl) (by kernel_rfl) (by decide) u (by rw [starES]; exact h)
theorem varOk {W : World} (h : laidMet Tryz.prog tabs W) : VarOk W := by
  have h3 := h.tail.tail.tail
  obtain ⟨a, s, hv, _⟩ := laid_sentinel h3 gRng gRngT Tryz.underlying88 rowES Tryz.underlying128 Tryz.underlying130 rfl rfl Tryz.underlying9 cellsES cells9
  obtain ⟨b, t, hv2, _⟩ := laid_sentinel h3.tail gSyn gSynT Tryz.underlying88 rowES Tryz.underlying128 Tryz.underlying130 rfl rfl Tryz.underlying9 cellsES cells9
  have c1 : W.cell? ⟨1, 0, none⟩ = some (.iface 128 (.pointer (some b))) := by
    have := World.var?_cell gSyn hv2 0
    simpa using this
  have c2 : W.cell? ⟨2, 0, none⟩ = some (.iface 128 (.pointer (some a))) := by
    have := World.var?_cell gRng hv 0
    simpa using this
  exact ⟨⟨_, _, c1⟩, ⟨_, _, c2⟩⟩
end Go.Proofs.YtjdmaindoohmkaaGreatDoor
