/-
  Small facts for comparisons.
-/
import Derived.Test.YtciijpahjjoppaaGreatLws
namespace Go.Proofs.YtciijpahjjoppaaGreat
open Go.RowKit Go.Deep

theorem ba_eq_iff (a b : ByteArray) : (a.toList == b.toList) = true ↔ a = b := by
  constructor
  · intro h
    have h' : a.toList = b.toList := by simpa using h
    rw [ByteArray.toList_eq, ByteArray.toList_eq] at h'
    cases a; cases b
    simp_all
  · rintro rfl; simp
theorem box_first (w : World) (a b : Obj) : ((w.alloc a).alloc b).heap[w.heap.size]? = some a := by
  rw [((Below.refl (w.alloc a).heap.size (w.alloc a)).alloc (Nat.le_refl _) b).block _ (by simp)]
  exact heap_new w a
theorem box_second (w : World) (a b : Obj) : ((w.alloc a).alloc b).heap[w.heap.size + 1]? = some b := by
  have := heap_new (w.alloc a) b
  rwa [World.size_alloc] at this
def nth (z : List D) (i : Nat) : D := z.getD i (.int 0)
theorem same_neq {α : Type} {x y : α} (h : same x y = false) : x ≠ y := fun e => by
  subst e
  rw [same_refl] at h
  cases h
end Go.Proofs.YtciijpahjjoppaaGreat
