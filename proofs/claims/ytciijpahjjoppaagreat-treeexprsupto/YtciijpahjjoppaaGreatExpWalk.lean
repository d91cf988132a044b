/-
  TreeExprs, walked.
-/
import Derived.Test.YtciijpahjjoppaaGreatRfx
import Derived.Test.YtciijpahjjoppaaGreatAwa
namespace Go.Proofs.YtciijpahjjoppaaGreat
open Go.RowKit Go.Deep

set_option maxRecDepth 100000 in
set_option maxHeartbeats 2000000 in
theorem treeExprs_walk (d : Int) (w : World) (x : List D) (hx : ShE x) (hb : mRow x ≤ 2000000) (vs : List Value) (hv : AllAt w vs x) :
    Calls Tryz.prog 3 #[.int .i64 d, .agg ⟨vs⟩] w fun e w' => e = .returned (.bool true) ∧ Below w.heap.size w w' := by
  have HC := Lib.hid (fun (W : World) (hW : Below w.heap.size w W) => checkExpr_any w d x vs hx hv W hW)
  have HR := Lib.hid (fun (W : World) (hW : Below w.heap.size w W) => refExpr_any w d x vs hx hb hv W hW)
  obtain ⟨op, n, nm, fd, kl, kla, klc, hxe, rfl, _⟩ := hv.openE hx
  clear hv hx hxe hb
  have R0 := Lib.hid ((Below.refl w.heap.size w).alloc (Nat.le_refl _) (.cells #[.int .i64 op, .int .i64 n, .string nm, .string fd, .slice kla kl.length klc] 24))
  have KP := Lib.hid (heap_new w (.cells #[.int .i64 op, .int .i64 n, .string nm, .string fd, .slice kla kl.length klc] 24))
  go_enter Tryz.func3, Tryz.ntmps3
  go_wp2_with fail
  refine (HC.out _ R0.out).mono ?_
  rintro e w1 ⟨rfl, b1⟩
  have R1 := Lib.hid (R0.out.trans (b1.mono R0.out.size))
  have c1 := box_cells ((b1.block _ (heap_lt KP.out)).trans KP.out)
  clear b1
  cases hr : chkE d x with
  | false =>
    rw [hr] at HR
    rw [show codeOf false = 1 from rfl]
    clear hr
    go_wp2_with fail
    refine (HR.out _ R1.out).mono ?_
    rintro e w2 ⟨rfl, b2⟩
    have R2 := Lib.hid (R1.out.trans (b2.mono R1.out.size))
    clear b2 c1
    go_wp2_with fail
    refine (awake_any _).mono ?_
    rintro e w3 ⟨rfl, b3⟩
    have R3 := Lib.hid (R2.out.trans (b3.mono R2.out.size))
    clear b3
    go_wp2_with fail
    go_ret
    exact ⟨rfl, R3.out⟩
  | true =>
    rw [hr] at HR
    rw [show codeOf true = 0 from rfl]
    clear hr
    go_wp2_with fail
    refine (HR.out _ R1.out).mono ?_
    rintro e w2 ⟨rfl, b2⟩
    have R2 := Lib.hid (R1.out.trans (b2.mono R1.out.size))
    clear b2 c1
    go_wp2_with fail
    refine (awake_any _).mono ?_
    rintro e w3 ⟨rfl, b3⟩
    have R3 := Lib.hid (R2.out.trans (b3.mono R2.out.size))
    clear b3
    go_wp2_with fail
    go_ret
    exact ⟨rfl, R3.out⟩
end Go.Proofs.YtciijpahjjoppaaGreat
