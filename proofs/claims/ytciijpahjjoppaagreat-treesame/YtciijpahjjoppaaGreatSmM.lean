/-
  Two structs compared field by field: walked.
-/
import Derived.Test.YtciijpahjjoppaaGreatEqT
import Derived.Test.YtciijpahjjoppaaGreatBas
namespace Go.Proofs.YtciijpahjjoppaaGreat
open Go.RowKit Go.Deep
set_option maxRecDepth 100000 in
set_option maxHeartbeats 2000000 in
theorem sameMarks_any (w0 : World) (m0a m1a m0a' m1a' : Option Addr) (m0c m1c m0c' m1c' : Nat) (m0 m1 m0' m1' : List (List D)) (am0 : At w0 (.slice m0a m0.length m0c) (.row m0)) (am1 : At w0 (.slice m1a m1.length m1c) (.row m1)) (am0' : At w0 (.slice m0a' m0'.length m0c') (.row m0')) (am1' : At w0 (.slice m1a' m1'.length m1c') (.row m1')) (sm0 : ∀ x ∈ m0, ShT x) (sm1 : ∀ x ∈ m1, ShT x) (sm0' : ∀ x ∈ m0', ShT x) (sm1' : ∀ x ∈ m1', ShT x)
    (W : World) (hW : Below w0.heap.size w0 W) : Calls Tryz.prog 82 #[.agg #[.slice m0a m0.length m0c, .slice m1a m1.length m1c], .agg #[.slice m0a' m0'.length m0c', .slice m1a' m1'.length m1c']] W (EqPost (α := List D) [.row m0, .row m1] [.row m0', .row m1'] W) := by
  have Am0 := Lib.hid am0
  have Sm0 := Lib.hid sm0
  have Am1 := Lib.hid am1
  have Sm1 := Lib.hid sm1
  have Am0' := Lib.hid am0'
  have Sm0' := Lib.hid sm0'
  have Am1' := Lib.hid am1'
  have Sm1' := Lib.hid sm1'
  clear am0 am1 am0' am1' sm0 sm1 sm0' sm1'
  have HW := Lib.hid hW
  clear hW
  go_enter Tryz.func82, Tryz.ntmps82
  go_wp2_with fail
  have R0 := Lib.hid (((Below.refl W.heap.size W).alloc (Nat.le_refl _) (.cells #[.slice m0a m0.length m0c, .slice m1a m1.length m1c] 59)).alloc (by simp) (.cells #[.slice m0a' m0'.length m0c', .slice m1a' m1'.length m1c'] 59))
  have KA0 := Lib.hid (show ((W.alloc (.cells #[.slice m0a m0.length m0c, .slice m1a m1.length m1c] 59)).alloc (.cells #[.slice m0a' m0'.length m0c', .slice m1a' m1'.length m1c'] 59)).heap[W.heap.size]? = some (.cells #[.slice m0a m0.length m0c, .slice m1a m1.length m1c] 59) from box_first W (.cells #[.slice m0a m0.length m0c, .slice m1a m1.length m1c] 59) (.cells #[.slice m0a' m0'.length m0c', .slice m1a' m1'.length m1c'] 59))
  have KB0 := Lib.hid (show ((W.alloc (.cells #[.slice m0a m0.length m0c, .slice m1a m1.length m1c] 59)).alloc (.cells #[.slice m0a' m0'.length m0c', .slice m1a' m1'.length m1c'] 59)).heap[W.heap.size + 1]? = some (.cells #[.slice m0a' m0'.length m0c', .slice m1a' m1'.length m1c'] 59) from box_second W (.cells #[.slice m0a m0.length m0c, .slice m1a m1.length m1c] 59) (.cells #[.slice m0a' m0'.length m0c', .slice m1a' m1'.length m1c'] 59))
  have Z1 := HW.out.trans (R0.out.mono HW.out.size)
  refine (equalT_any w0 _ _ _ _ _ _ _ _ Am0.out Am0'.out Sm0.out Sm0'.out _ Z1).mono ?_
  rintro e w1 ⟨rfl, b1⟩
  have R1 := Lib.hid (R0.out.trans (b1.mono R0.out.size))
  have KA1 := Lib.hid ((b1.block _ (heap_lt KA0.out)).trans KA0.out)
  have KB1 := Lib.hid ((b1.block _ (heap_lt KB0.out)).trans KB0.out)
  have cA1 := box_cells KA1.out
  have cB1 := box_cells KB1.out
  clear b1 Z1
  cases hm0 : same m0 m0' with
  | false =>
    have GH := Lib.hid (same_neq hm0)
    clear hm0
    go_wp2_with fail
    go_ret
    exact ⟨by rw [same_no (α := List D) (x := [.row m0, .row m1]) (y := [.row m0', .row m1']) (fun z => GH.out (D.row.inj (congrArg (fun z : List D => nth z 0) z)))]; rfl, R1.out⟩
  | true =>
    have Qm0 := Lib.hid ((same_iff _ _).1 hm0)
    clear hm0
    go_wp2_with fail
    clear cA1 cB1
    have Z2 := HW.out.trans (R1.out.mono HW.out.size)
    refine (equalT_any w0 _ _ _ _ _ _ _ _ Am1.out Am1'.out Sm1.out Sm1'.out _ Z2).mono ?_
    rintro e w2 ⟨rfl, b2⟩
    have R2 := Lib.hid (R1.out.trans (b2.mono R1.out.size))
    have KA2 := Lib.hid ((b2.block _ (heap_lt KA1.out)).trans KA1.out)
    have KB2 := Lib.hid ((b2.block _ (heap_lt KB1.out)).trans KB1.out)
    have cA2 := box_cells KA2.out
    have cB2 := box_cells KB2.out
    clear b2 Z2
    cases hm1 : same m1 m1' with
    | false =>
      have GH := Lib.hid (same_neq hm1)
      clear hm1
      go_wp2_with fail
      go_ret
      exact ⟨by rw [same_no (α := List D) (x := [.row m0, .row m1]) (y := [.row m0', .row m1']) (fun z => GH.out (D.row.inj (congrArg (fun z : List D => nth z 1) z)))]; rfl, R2.out⟩
    | true =>
      have Qm1 := Lib.hid ((same_iff _ _).1 hm1)
      clear hm1
      have E := Lib.hid (show same (α := List D) [.row m0, .row m1] [.row m0', .row m1'] = true by
        obtain rfl := Qm0.out
        obtain rfl := Qm1.out
        exact same_refl _)
      go_wp2_with fail
      go_ret
      exact ⟨by rw [E.out]; rfl, R2.out⟩
end Go.Proofs.YtciijpahjjoppaaGreat
