/-
  tree.all, at each element type: walked.
-/
import Derived.Test.YtciijpahjjoppaaGreatOpn
import Derived.Test.YtciijpahjjoppaaGreatBas
namespace Go.Proofs.YtciijpahjjoppaaGreat
open Go.RowKit Go.Deep
/-- A function that says of the elements of a row whether they are right. -/
def OkFn (w0 : World) (g : Nat) (c : Value) (l : List (List D)) (f : List D → Bool) : Prop := ∀ x ∈ l, ∀ vs, AllAt w0 vs x → ∀ W, Below w0.heap.size w0 W → Calls Tryz.prog g #[c, .agg ⟨vs⟩] W fun e W' => e = .returned (.bool (f x)) ∧ Below W.heap.size W W'
def okAll (l : List (List D)) (f : List D → Bool) : Bool := decide (l.length ≤ 512) && l.all f
theorem okAll_long {l : List (List D)} {f : List D → Bool} (h : 512 < l.length) : okAll l f = false := by
  unfold okAll
  rw [decide_eq_false (by omega)]
  rfl
theorem okAll_bad {l : List (List D)} {f : List D → Bool} {k : Nat} {x : List D} (hx : l[k]? = some x) (h : f x = false) : okAll l f = false := by
  unfold okAll
  have : l.all f = false := by
    rw [List.all_eq_false]
    exact ⟨x, List.mem_of_getElem? hx, by simp [h]⟩
  rw [this, Bool.and_false]
theorem okAll_good {l : List (List D)} {f : List D → Bool} (hl : l.length ≤ 512) (h : (l.take l.length).all f = true) : okAll l f = true := by
  rw [List.take_length] at h
  unfold okAll
  rw [h, decide_eq_true hl]
  rfl
theorem all_take_succ {l : List (List D)} {f : List D → Bool} {k : Nat} {x : List D} (hx : l[k]? = some x) (h : (l.take k).all f = true) (hf : f x = true) : (l.take (k + 1)).all f = true := by
  rw [List.take_add_one, hx, List.all_append, h]
  simpa using hf
end Go.Proofs.YtciijpahjjoppaaGreat
