/-
  tree.CheckExpr: walked.
-/
import Derived.Test.YtciijpahjjoppaaGreatExd
namespace Go.Proofs.YtciijpahjjoppaaGreat
open Go.RowKit Go.Deep Go.Maps

def codeOf (b : Bool) : Int := if b then 0 else 1
def chkE (d : Int) (x : List D) : Bool := knows d && okE d 48 x
set_option maxRecDepth 100000 in
set_option maxHeartbeats 2000000 in
theorem checkExpr_any (w0 : World) (d : Int) (x : List D) (vs : List Value) (hx : ShE x) (hv : AllAt w0 vs x) (w : World) (hW : Below w0.heap.size w0 w) :
    Calls Tryz.prog 9 #[.int .i64 d, .agg ⟨vs⟩] w fun e w' => e = .returned (.int .i64 (codeOf (chkE d x))) ∧ Below w.heap.size w w' := by
  have HE := Lib.hid (fun (W : World) (hW : Below w0.heap.size w0 W) => expr_any w0 d 48 0 rfl x vs hx hv W hW)
  obtain ⟨op, n, nm, fd, kl, kla, klc, hxe, rfl, _⟩ := hv.openE hx
  have HW := Lib.hid hW
  have HX := Lib.hid hxe
  clear hW hv hx hxe
  have R0 := Lib.hid (((Below.refl w.heap.size w).alloc (Nat.le_refl _) (.cells #[.int .i64 op, .int .i64 n, .string nm, .string fd, .slice kla kl.length klc] 24)).alloc (by simp) (.cells #[.int .i64 d, .int .i64 0] 51))
  have KQ := Lib.hid (box_first w (.cells #[.int .i64 op, .int .i64 n, .string nm, .string fd, .slice kla kl.length klc] 24) (.cells #[.int .i64 d, .int .i64 0] 51))
  have KP := Lib.hid (box_second w (.cells #[.int .i64 op, .int .i64 n, .string nm, .string fd, .slice kla kl.length klc] 24) (.cells #[.int .i64 d, .int .i64 0] 51))
  go_enter Tryz.func9, Tryz.ntmps9
  go_wp2_with fail
  refine (knows_any d 0 _).mono ?_
  rintro e w1 ⟨rfl, hw1⟩
  have b1 := (Below.refl _ ((w.alloc (.cells #[.int .i64 op, .int .i64 n, .string nm, .string fd, .slice kla kl.length klc] 24)).alloc (.cells #[.int .i64 d, .int .i64 0] 51))).alloc (Nat.le_refl _) (.cells #[.int .i64 d, .int .i64 0] 51)
  rw [← hw1] at b1
  clear hw1
  have R1 := Lib.hid (R0.out.trans (b1.mono R0.out.size))
  have cP1 := box_cells ((b1.block _ (heap_lt KP.out)).trans KP.out)
  have cQ1 := box_cells ((b1.block _ (heap_lt KQ.out)).trans KQ.out)
  clear b1
  cases hkn : knows d with
  | false =>
    have HO := Lib.hid (show chkE d x = false by unfold chkE; rw [hkn]; rfl)
    go_wp2_with fail
    refine (told_no _).mono ?_
    rintro e w2 ⟨rfl, rfl⟩
    go_wp2_with fail
    go_ret
    exact ⟨by rw [HO.out]; rfl, R1.out⟩
  | true =>
    have HO := Lib.hid (show chkE d x = okE d 48 x by unfold chkE; rw [hkn]; rfl)
    go_wp2_with fail
    refine (HE.out _ (HW.out.trans (R1.out.mono HW.out.size))).mono ?_
    rintro e w2 ⟨rfl, b2⟩
    have R2 := Lib.hid (R1.out.trans (b2.mono R1.out.size))
    clear b2 cP1 cQ1
    cases hr : okE d 48 x with
    | false =>
      go_wp2_with fail
      refine (told_no _).mono ?_
      rintro e w2 ⟨rfl, rfl⟩
      go_wp2_with fail
      go_ret
      exact ⟨by rw [HO.out, hr]; rfl, R2.out⟩
    | true =>
      go_wp2_with fail
      refine (told_yes _).mono ?_
      rintro e w2 ⟨rfl, rfl⟩
      go_wp2_with fail
      go_ret
      exact ⟨by rw [HO.out, hr]; rfl, R2.out⟩
end Go.Proofs.YtciijpahjjoppaaGreat
