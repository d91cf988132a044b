/-
  The reference's form and Expr in whole.
-/
import Derived.Test.YtpcldpnaljheoaaGreatDoorMff
namespace Go.Proofs.YtpcldpnaljheoaaGreatDoor
open Go.RowKit Go.Deep Go.Maps

set_option maxRecDepth 100000 in
set_option maxHeartbeats 2000000 in
theorem form_0 (d op n : Int) (nm fd : ByteArray) (la : Option Addr) (len lc : Nat) (w : World) :
    Calls Tryz.prog 29 #[.int .i64 d, .agg #[.int .i64 op, .int .i64 n, .string nm, .string fd, .slice la len lc], .int .i64 0] w fun e w' => e = .returned (.bool false) ∧ Below w.heap.size w w' := by
  have R0 := Lib.hid ((Below.refl w.heap.size w).alloc (Nat.le_refl _) (.cells #[.int .i64 op, .int .i64 n, .string nm, .string fd, .slice la len lc] 25))
  go_enter Tryz.func29, Tryz.ntmps29
  go_wp2_with fail
  go_ret
  exact ⟨rfl, R0.out⟩
theorem mRows_mem : ∀ {l : List (List D)} {x : List D}, x ∈ l → mRow x ≤ mRows l
  | y :: r, x, h => by
    rcases List.mem_cons.1 h with rfl | h
    · simp [mRows]
    · have := mRows_mem h; simp [mRows]; omega
theorem form_any (w0 : World) (d : Int) (hd : d = 0) : ∀ (m : Nat), m < 1000 → ∀ (x : List D) (vs : List Value), ShE x → mRow x ≤ 2000000 → AllAt w0 vs x → ∀ W, Below w0.heap.size w0 W → Calls Tryz.prog 29 #[.int .i64 d, .agg ⟨vs⟩, .int .i64 (m : Nat)] W fun e W' => e = .returned (.bool (okE d m x)) ∧ Below W.heap.size W W'
  | 0, _, x, vs, hx, _, hv, W, _ => by
    obtain ⟨op, n, nm, fd, kl, kla, klc, rfl, rfl, _, _, _, _, akl, _⟩ := hv.openE hx
    exact form_0 d op n nm fd kla kl.length klc W
  | m + 1, hm, x, vs, hx, hb, hv, W, hW => by
    obtain ⟨op, n, nm, fd, kl, kla, klc, rfl, rfl, _, ⟨_, hn2⟩, _, _, akl, skl⟩ := hv.openE hx
    rw [okE_ref d (.inl hd) m op n nm fd kl]
    simp only [mRow, mD] at hb
    exact form_step w0 d hd m (by omega) op n nm fd kla kl klc hn2 (by omega) (by omega) akl skl (fun y hy => by have := mRows_mem hy; omega) (fun y hy us hu U hU => form_any w0 d hd m (by omega) y us (skl y hy) (by have := mRows_mem hy; omega) hu U hU) W hW
set_option maxRecDepth 100000 in
set_option maxHeartbeats 2000000 in
theorem refExpr_z (w0 : World) (x : List D) (vs : List Value) (hx : ShE x) (hb : mRow x ≤ 2000000) (hv : AllAt w0 vs x) (w : World) (hW : Below w0.heap.size w0 w) :
    Calls Tryz.prog 14 #[.int .i64 0, .agg ⟨vs⟩] w fun e w' => e = .returned (.bool (chkE 0 x)) ∧ Below w.heap.size w w' := by
  have HFn := Lib.hid (fun (W : World) (hW : Below w0.heap.size w0 W) => form_any w0 0 rfl 48 (by omega) x vs hx hb hv W hW)
  have HDp := Lib.hid (fun (W : World) (hW : Below w0.heap.size w0 W) => deep_any w0 99 (by omega) x vs hx hv W hW)
  obtain ⟨op, n, nm, fd, kl, kla, klc, hxe, rfl, _⟩ := hv.openE hx
  have HW := Lib.hid hW
  clear hW hv hx hxe hb
  have R0 := Lib.hid ((Below.refl w.heap.size w).alloc (Nat.le_refl _) (.cells #[.int .i64 op, .int .i64 n, .string nm, .string fd, .slice kla kl.length klc] 25))
  have KP := Lib.hid (heap_new w (.cells #[.int .i64 op, .int .i64 n, .string nm, .string fd, .slice kla kl.length klc] 25))
  have HO := Lib.hid (show chkE 0 x = okE 0 48 x by unfold chkE; rw [show knows 0 = true from rfl]; rfl)
  have HDD := Lib.hid (okE_deep 0 48 99 x)
  go_enter Tryz.func14, Tryz.ntmps14
  go_wp2_with fail
  refine (HFn.out _ (HW.out.trans (R0.out.mono HW.out.size))).mono ?_
  rintro e w1 ⟨rfl, b1⟩
  have R1 := Lib.hid (R0.out.trans (b1.mono R0.out.size))
  have c1 := box_cells ((b1.block _ (heap_lt KP.out)).trans KP.out)
  clear b1
  cases hr : okE 0 48 x with
  | false =>
    go_wp2_with fail
    go_ret
    exact ⟨by rw [HO.out, hr]; rfl, R1.out⟩
  | true =>
    have hdp := HDD.out hr
    go_wp2_with fail
    refine (HDp.out _ (HW.out.trans (R1.out.mono HW.out.size))).mono ?_
    rintro e w2 ⟨rfl, b2⟩
    have R2 := Lib.hid (R1.out.trans (b2.mono R1.out.size))
    clear b2 c1
    generalize dep 99 x = q at *
    have hle : decide ((q : Int) ≤ 48) = true := by simp; omega
    go_wp2_with fail
    go_ret
    exact ⟨by rw [HO.out, hr]; rfl, R2.out⟩
end Go.Proofs.YtpcldpnaljheoaaGreatDoor
