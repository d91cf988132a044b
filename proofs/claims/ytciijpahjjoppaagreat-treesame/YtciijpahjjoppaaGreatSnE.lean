/-
  SameExpr at every pair of expressions; types as lists.
-/
import Derived.Test.YtciijpahjjoppaaGreatSmE
import Derived.Test.YtciijpahjjoppaaGreatEqT
namespace Go.Proofs.YtciijpahjjoppaaGreat
open Go.RowKit Go.Deep

theorem tyList_no {kd kd' sz sz' : Int} {tn tn' : ByteArray} (h : tySame kd kd' sz sz' tn tn' = false) : ([.int kd, .int sz, .str tn] : List D) ≠ [.int kd', .int sz', .str tn'] := fun e => by
  have : tySame kd kd' sz sz' tn tn' = true := tySame_iff.2 (by simpa using e)
  rw [h] at this
  cases this
theorem size_in {x z : List D} {l : List (List D)} (hl : D.row l ∈ x) (hz : z ∈ l) : SizeOf.sizeOf z < SizeOf.sizeOf x := by
  have h1 := List.sizeOf_lt_of_mem hl
  have h2 := List.sizeOf_lt_of_mem hz
  have h3 : SizeOf.sizeOf (D.row l) = 1 + SizeOf.sizeOf l := by simp
  omega
theorem size_pos (x : List D) : 0 < SizeOf.sizeOf x := by cases x <;> simp <;> omega
theorem sameExpr_upto (w0 : World) (n : Nat) : ∀ x y : List D, SizeOf.sizeOf x ≤ n → ShE x → ShE y → ∀ vs ws, AllAt w0 vs x → AllAt w0 ws y → ∀ W, Below w0.heap.size w0 W → Calls Tryz.prog 16 #[.agg ⟨vs⟩, .agg ⟨ws⟩] W (EqPost x y W) := by
  induction n with
  | zero => intro x y h; have := size_pos x; omega
  | succ n ih =>
    intro x y hn hx hy vs ws hv hw W hW
    exact sameExpr_step w0 x y hx hy vs ws hv hw (fun l l' hl _ hs hs' z hz z' hz' vs ws hv hw W hW => ih z z' (by have := size_in hl hz; omega) (hs z hz) (hs' z' hz') vs ws hv hw W hW) W hW
theorem sameExpr_any (w0 : World) (x y : List D) (hx : ShE x) (hy : ShE y) (vs ws : List Value) (hv : AllAt w0 vs x) (hw : AllAt w0 ws y) (W : World) (hW : Below w0.heap.size w0 W) : Calls Tryz.prog 16 #[.agg ⟨vs⟩, .agg ⟨ws⟩] W (EqPost x y W) :=
  sameExpr_upto w0 _ x y (Nat.le_refl _) hx hy vs ws hv hw W hW
theorem efn_E (w0 : World) (l l' : List (List D)) (hs : ∀ z ∈ l, ShE z) (hs' : ∀ z ∈ l', ShE z) : EqFn w0 16 l l' := fun x hx y hy vs ws hv hw W hW => sameExpr_any w0 x y (hs x hx) (hs' y hy) vs ws hv hw W hW
end Go.Proofs.YtciijpahjjoppaaGreat
