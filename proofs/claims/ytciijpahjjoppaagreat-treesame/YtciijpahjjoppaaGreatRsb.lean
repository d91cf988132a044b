/-
  The reference's comparisons of rows: what they leave.
-/
import Derived.Test.YtciijpahjjoppaaGreatSmG
import Derived.Test.YtciijpahjjoppaaGreatStl
import Derived.Lib.QuietBelow
namespace Go.Proofs.YtciijpahjjoppaaGreat
open Go.RowKit Go.Deep Go.Sort
def RowsEq (w0 : World) (F : Nat) (l l' : List (List D)) : Prop := ∀ (a a' : Option Addr) (len len' cap cap' : Nat), At w0 (.slice a len cap) (.row l) → At w0 (.slice a' len' cap') (.row l') → ∀ W, Below w0.heap.size w0 W → Calls Tryz.prog F #[.slice a len cap, .slice a' len' cap'] W (EqPost l l' W)
theorem texts_rows (w0 : World) (l l' : List (List D)) (hs : ∀ x ∈ l, ShT x) (hs' : ∀ x ∈ l', ShT x) : RowsEq w0 18 l l' := fun a a' len len' cap cap' hA hA' W hW => texts_any w0 a a' len len' cap cap' l l' hA hA' hs hs' W hW
theorem cells_regrown {w : World} {n : Nat} {cs : Array Value} {t : TypeId} {fz : Nat × Nat} (h : w.heap[n]? = some (.cells cs t fz)) (d : Nat) (os : Array Obj) (i : Nat) : (grow (redrawn w d) os).cell? ⟨n, i, none⟩ = cs[i]? := by
  rw [(below_regrown w d os).cell (p := ⟨n, i, none⟩) (heap_lt h)]
  exact box_cells h i
end Go.Proofs.YtciijpahjjoppaaGreat
