/-
  Two structs compared field by field: walked.
-/
import Derived.Test.YtciijpahjjoppaaGreatEqE
import Derived.Test.YtciijpahjjoppaaGreatBas
namespace Go.Proofs.YtciijpahjjoppaaGreat
open Go.RowKit Go.Deep
set_option maxRecDepth 100000 in
set_option maxHeartbeats 2000000 in
theorem sameExpr_step (w0 : World) (x y : List D) (hx : ShE x) (hy : ShE y) (vs ws : List Value) (hv : AllAt w0 vs x) (hw : AllAt w0 ws y) (fkl : ∀ l l', D.row l ∈ x → D.row l' ∈ y → (∀ z ∈ l, ShE z) → (∀ z ∈ l', ShE z) → EqFn w0 16 l l')
    (W : World) (hW : Below w0.heap.size w0 W) : Calls Tryz.prog 16 #[.agg ⟨vs⟩, .agg ⟨ws⟩] W (EqPost x y W) := by
  obtain ⟨op, n, nm, fd, kl, kla, klc, rfl, rfl, -, -, -, -, akl, skl⟩ := hv.openE hx
  obtain ⟨op', n', nm', fd', kl', kla', klc', rfl, rfl, -, -, -, -, akl', skl'⟩ := hw.openE hy
  have Pkl := Lib.hid (fkl kl kl' (by simp) (by simp) skl skl')
  have Akl := Lib.hid akl
  have Skl := Lib.hid skl
  have Akl' := Lib.hid akl'
  have Skl' := Lib.hid skl'
  clear hx hy hv hw akl akl' skl skl' fkl
  have HW := Lib.hid hW
  clear hW
  cases hop : op == op' with
  | false =>
    have G : op ≠ op' := (by simpa using hop)
    have GH := Lib.hid G
    clear G
    go_enter Tryz.func16, Tryz.ntmps16
    go_wp2_with fail
    go_ret
    exact ⟨by rw [same_no (α := List D) (x := [.int op, .int n, .str nm, .str fd, .row kl]) (y := [.int op', .int n', .str nm', .str fd', .row kl']) (fun z => GH.out (D.int.inj (congrArg (fun z : List D => nth z 0) z)))]; rfl, ((Below.refl _ _).alloc (Nat.le_refl _) _).alloc (by simp) _⟩
  | true =>
    have Qop := Lib.hid (show op = op' from (by simpa using hop))
    cases hn : n == n' with
    | false =>
      have G : n ≠ n' := (by simpa using hn)
      have GH := Lib.hid G
      clear G
      go_enter Tryz.func16, Tryz.ntmps16
      go_wp2_with fail
      go_ret
      exact ⟨by rw [same_no (α := List D) (x := [.int op, .int n, .str nm, .str fd, .row kl]) (y := [.int op', .int n', .str nm', .str fd', .row kl']) (fun z => GH.out (D.int.inj (congrArg (fun z : List D => nth z 1) z)))]; rfl, ((Below.refl _ _).alloc (Nat.le_refl _) _).alloc (by simp) _⟩
    | true =>
      have Qn := Lib.hid (show n = n' from (by simpa using hn))
      cases hnm : nm.toList == nm'.toList with
      | false =>
        have G : nm ≠ nm' := (fun z => by subst z; simp at hnm)
        have GH := Lib.hid G
        clear G
        go_enter Tryz.func16, Tryz.ntmps16
        go_wp2_with fail
        go_ret
        exact ⟨by rw [same_no (α := List D) (x := [.int op, .int n, .str nm, .str fd, .row kl]) (y := [.int op', .int n', .str nm', .str fd', .row kl']) (fun z => GH.out (D.str.inj (congrArg (fun z : List D => nth z 2) z)))]; rfl, ((Below.refl _ _).alloc (Nat.le_refl _) _).alloc (by simp) _⟩
      | true =>
        have Qnm := Lib.hid (show nm = nm' from ((ba_eq_iff _ _).1 hnm))
        cases hfd : fd.toList == fd'.toList with
        | false =>
          have G : fd ≠ fd' := (fun z => by subst z; simp at hfd)
          have GH := Lib.hid G
          clear G
          go_enter Tryz.func16, Tryz.ntmps16
          go_wp2_with fail
          go_ret
          exact ⟨by rw [same_no (α := List D) (x := [.int op, .int n, .str nm, .str fd, .row kl]) (y := [.int op', .int n', .str nm', .str fd', .row kl']) (fun z => GH.out (D.str.inj (congrArg (fun z : List D => nth z 3) z)))]; rfl, ((Below.refl _ _).alloc (Nat.le_refl _) _).alloc (by simp) _⟩
        | true =>
          have Qfd := Lib.hid (show fd = fd' from ((ba_eq_iff _ _).1 hfd))
          go_enter Tryz.func16, Tryz.ntmps16
          go_wp2_with fail
          have R0 := Lib.hid (((Below.refl W.heap.size W).alloc (Nat.le_refl _) (.cells #[.int .i64 op, .int .i64 n, .string nm, .string fd, .slice kla kl.length klc] 24)).alloc (by simp) (.cells #[.int .i64 op', .int .i64 n', .string nm', .string fd', .slice kla' kl'.length klc'] 24))
          have KA0 := Lib.hid (show ((W.alloc (.cells #[.int .i64 op, .int .i64 n, .string nm, .string fd, .slice kla kl.length klc] 24)).alloc (.cells #[.int .i64 op', .int .i64 n', .string nm', .string fd', .slice kla' kl'.length klc'] 24)).heap[W.heap.size]? = some (.cells #[.int .i64 op, .int .i64 n, .string nm, .string fd, .slice kla kl.length klc] 24) from box_first W (.cells #[.int .i64 op, .int .i64 n, .string nm, .string fd, .slice kla kl.length klc] 24) (.cells #[.int .i64 op', .int .i64 n', .string nm', .string fd', .slice kla' kl'.length klc'] 24))
          have KB0 := Lib.hid (show ((W.alloc (.cells #[.int .i64 op, .int .i64 n, .string nm, .string fd, .slice kla kl.length klc] 24)).alloc (.cells #[.int .i64 op', .int .i64 n', .string nm', .string fd', .slice kla' kl'.length klc'] 24)).heap[W.heap.size + 1]? = some (.cells #[.int .i64 op', .int .i64 n', .string nm', .string fd', .slice kla' kl'.length klc'] 24) from box_second W (.cells #[.int .i64 op, .int .i64 n, .string nm, .string fd, .slice kla kl.length klc] 24) (.cells #[.int .i64 op', .int .i64 n', .string nm', .string fd', .slice kla' kl'.length klc'] 24))
          have Z1 := HW.out.trans (R0.out.mono HW.out.size)
          refine (equalE_any w0 _ _ _ _ _ _ _ _ Akl.out Akl'.out Skl.out Skl'.out Pkl.out _ Z1).mono ?_
          rintro e w1 ⟨rfl, b1⟩
          have R1 := Lib.hid (R0.out.trans (b1.mono R0.out.size))
          have KA1 := Lib.hid ((b1.block _ (heap_lt KA0.out)).trans KA0.out)
          have KB1 := Lib.hid ((b1.block _ (heap_lt KB0.out)).trans KB0.out)
          have cA1 := box_cells KA1.out
          have cB1 := box_cells KB1.out
          clear b1 Z1
          cases hkl : same kl kl' with
          | false =>
            have GH := Lib.hid (same_neq hkl)
            clear hkl
            go_wp2_with fail
            go_ret
            exact ⟨by rw [same_no (α := List D) (x := [.int op, .int n, .str nm, .str fd, .row kl]) (y := [.int op', .int n', .str nm', .str fd', .row kl']) (fun z => GH.out (D.row.inj (congrArg (fun z : List D => nth z 4) z)))]; rfl, R1.out⟩
          | true =>
            have Qkl := Lib.hid ((same_iff _ _).1 hkl)
            clear hkl
            have E := Lib.hid (show same (α := List D) [.int op, .int n, .str nm, .str fd, .row kl] [.int op', .int n', .str nm', .str fd', .row kl'] = true by
              obtain rfl := Qop.out
              obtain rfl := Qn.out
              obtain rfl := Qnm.out
              obtain rfl := Qfd.out
              obtain rfl := Qkl.out
              exact same_refl _)
            go_wp2_with fail
            go_ret
            exact ⟨by rw [E.out]; rfl, R1.out⟩
end Go.Proofs.YtciijpahjjoppaaGreat
