/-
  What every card of Cee needs: a world that holds what the rows list, and what they say of two variables.
-/
import Derived.Test.YtjdmaindoohmkaaDoorCards
import Derived.Test.YtjdmaindoohmkaaDoorTie
import Derived.Test.YtjdmaindoohmkaaDoorSc
import Derived.WalkKit
import Derived.ProofKit
import Derived.OpenShut
import Derived.ShutString
import Derived.ChangeOld
import Derived.Below
import Derived.Deep.DeepHandedRow
import Derived.Deep.MidRow
import Derived.Stop.LaidErr
import Derived.Lay
namespace Go.Proofs.YtjdmaindoohmkaaDoor
open Go.ChangeShapes Go.WideShapes Go.ChangeAt Go.RowKit

theorem own : ownKnob Tryd.prog.godebug = none := by kernel_rfl
theorem laidOut : laidOutB Tryd.prog = true := by kernel_rfl
def tabs : List (String × DataW Unit) := [("math/bits.deBruijn32tab", Rows.laid_math_bits_deBruijn32tab), ("math/bits.deBruijn64tab", Rows.laid_math_bits_deBruijn64tab), ("internal/strconv.uint64pow10", Rows.laid_internal_strconv_uint64pow10), ("strconv.ErrRange", Rows.laid_strconv_ErrRange), ("strconv.ErrSyntax", Rows.laid_strconv_ErrSyntax)]
noncomputable def laidWorld (os : Os) : World := World.laidAll Tryd.prog os tabs
theorem laid_fits (os : Os) : (World.holding Tryd.prog os ⟨#[], #[], []⟩).layFits Tryd.prog tabs [] = true := by kernel_rfl
theorem laid_ifaces (os : Os) : (World.holding Tryd.prog os ⟨#[], #[], []⟩).layIfaces Tryd.prog tabs (World.laidAll Tryd.prog os tabs) = true := by kernel_rfl
theorem laid_all (os : Os) (args : Array Value) : laidMet Tryd.prog tabs ((laidWorld os).forCall (fun _ _ => 0) ⟨#[], args, []⟩).memory := laidMet_laidAll args (laid_fits os) (laid_ifaces os)
theorem shaped (os : Os) (args : Array Value) : ((laidWorld os).forCall (fun _ _ => 0) ⟨#[], args, []⟩).Shaped Tryd.prog := World.shaped_of_ZipB (by kernel_rfl) (by kernel_rfl)
/-- There is an input that fits. -/
theorem fits {H : Type} {enc : TypeId × Value → H} {os : Os} {f : FuncId} {fn : Func} {sp : OpenSpec} {conds : List PathCond} {apart : Bool} (args : Array Value)
    (hok : Input.okWideB Tryd.prog ((laidWorld os).forCall (fun _ _ => 0) ⟨#[], args, []⟩) f ⟨#[], args, []⟩ = true)
    (hrow : sp.preRow enc Tryd.prog fn conds apart tabs ((laidWorld os).forCall (fun _ _ => 0) ⟨#[], args, []⟩).memory args) :
    ∃ (w : World) (tape : Tape) (i : Input), w.os = os ∧ (w.forCall tape i).Shaped Tryd.prog ∧ i.vars = [] ∧ Input.okWide Tryd.prog (w.forCall tape i) .any w.heap.size f i ∧
      sp.preRow enc Tryd.prog fn conds apart tabs (w.forCall tape i).memory i.args ∧ ({ modest := false } : Assume).holds Tryd.prog (lone (Frame.enter Tryd.prog f i.args .normal) [] (w.forCall tape i)) :=
  ⟨laidWorld os, fun _ _ => 0, ⟨#[], args, []⟩, World.laidAll_os _ _ _, shaped os args, (Input.okWide_of_okWideB (base := 0) hok).1, (Input.okWide_of_okWideB hok).2, hrow, by
    simp [Assume.holds]⟩
theorem gRng : Tryd.prog.globalNamed "strconv.ErrRange" = some 5 := by kernel_rfl
theorem gRngT : (Tryd.prog.globals[5]?).map (·.type) = some 93 := by kernel_rfl
theorem gSyn : Tryd.prog.globalNamed "strconv.ErrSyntax" = some 4 := by kernel_rfl
theorem gSynT : (Tryd.prog.globals[4]?).map (·.type) = some 93 := by kernel_rfl
theorem cellsES : Tryd.prog.cellsOf 161 = 1 := by kernel_rfl
theorem cells9 : Tryd.prog.cellsOf 9 = 1 := by kernel_rfl
theorem starES : "*" ++ "errors.errorString" = "*errors.errorString" := by decide
theorem rowES (u : TypeId) (h : Tryd.prog.typeName? 3 u = some "*errors.errorString") : u = 159 :=
  typeName_ptr_named (nm := "errors.errorString") (by rw [starES]; kernel_rfl) (by kernel_rfl) (by decide) u (by rw [starES]; exact h)
theorem varOk {W : World} (h : laidMet Tryd.prog tabs W) : VarOk W := by
  have h3 := h.tail.tail.tail
  obtain ⟨a, s, hv, _⟩ := laid_sentinel h3 gRng gRngT Tryd.underlying93 rowES Tryd.underlying159 Tryd.underlying161 rfl rfl Tryd.underlying9 cellsES cells9
  obtain ⟨b, t, hv2, _⟩ := laid_sentinel h3.tail gSyn gSynT Tryd.underlying93 rowES Tryd.underlying159 Tryd.underlying161 rfl rfl Tryd.underlying9 cellsES cells9
  have c1 : W.cell? ⟨4, 0, none⟩ = some (.iface 159 (.pointer (some b))) := by
    have := World.var?_cell gSyn hv2 0
    simpa using this
  have c2 : W.cell? ⟨5, 0, none⟩ = some (.iface 159 (.pointer (some a))) := by
    have := World.var?_cell gRng hv 0
    simpa using this
  exact ⟨⟨_, _, c1⟩, ⟨_, _, c2⟩⟩
end Go.Proofs.YtjdmaindoohmkaaDoor
