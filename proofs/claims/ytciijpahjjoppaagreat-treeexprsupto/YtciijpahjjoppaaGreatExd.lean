/-
  checker.expr in whole; tree.CheckExpr: walked.
-/
import Derived.Test.YtciijpahjjoppaaGreatExc
namespace Go.Proofs.YtciijpahjjoppaaGreat
open Go.RowKit Go.Deep Go.Maps

set_option maxRecDepth 100000 in
set_option maxHeartbeats 2000000 in
theorem expr_deep (d op n : Int) (nm fd : ByteArray) (kla : Option Addr) (len klc : Nat) (w : World) :
    Calls Tryz.prog 25 #[.agg #[.int .i64 d, .int .i64 48], .agg #[.int .i64 op, .int .i64 n, .string nm, .string fd, .slice kla len klc]] w fun e w' => e = .returned (.bool false) ∧ Below w.heap.size w w' := by
  have R0 := Lib.hid ((((Below.refl w.heap.size w).alloc (Nat.le_refl _) (.cells #[.int .i64 d, .int .i64 48] 51)).alloc (by simp) (.cells #[.int .i64 op, .int .i64 n, .string nm, .string fd, .slice kla len klc] 24)).alloc (by simp; omega) (.cells #[.int .i64 d, .int .i64 48] 51))
  go_enter Tryz.func25, Tryz.ntmps25
  go_wp2_with fail
  refine (tooDeep_any d 48 _).mono ?_
  rintro e w1 ⟨rfl, rfl⟩
  rw [show decide ((48 : Int) ≤ 48) = true from rfl]
  go_wp2_with fail
  go_ret
  exact ⟨rfl, R0.out⟩
set_option maxRecDepth 100000 in
set_option maxHeartbeats 2000000 in
theorem expr_call (w0 : World) (d : Int) (ar k : Nat) (hk : ar + (k + 1) = 48) (n : Int) (nm fd : ByteArray) (kla : Option Addr) (kl : List (List D)) (klc : Nat) (hnm : nm.size ≤ maxLen) (hA : At w0 (.slice kla kl.length klc) (.row kl)) (hs : ∀ x ∈ kl, ShE x)
    (hf : OkFn w0 25 (.agg #[.int .i64 d, .int .i64 ((ar + 1 : Nat) : Int)]) kl (okE d k)) (w : World) (hW : Below w0.heap.size w0 w) :
    Calls Tryz.prog 25 #[.agg #[.int .i64 d, .int .i64 ar], .agg #[.int .i64 7, .int .i64 n, .string nm, .string fd, .slice kla kl.length klc]] w fun e w' => e = .returned (.bool (callE d n nm fd kl (okE d k))) ∧ Below w.heap.size w w' := by
  have hdp : decide ((48 : Int) ≤ (ar : Int)) = false := by simp; omega
  have HC := Lib.hid (fun (W : World) (hW : Below w0.heap.size w0 W) => call_form w0 d ar k hk 7 n nm fd kla kl klc hnm hA hs hf W hW)
  have HW := Lib.hid hW
  have R0 := Lib.hid (((Below.refl w.heap.size w).alloc (Nat.le_refl _) (.cells #[.int .i64 d, .int .i64 ar] 51)).alloc (by simp) (.cells #[.int .i64 7, .int .i64 n, .string nm, .string fd, .slice kla kl.length klc] 24))
  have KP := Lib.hid (box_first w (.cells #[.int .i64 d, .int .i64 ar] 51) (.cells #[.int .i64 7, .int .i64 n, .string nm, .string fd, .slice kla kl.length klc] 24))
  have KQ := Lib.hid (box_second w (.cells #[.int .i64 d, .int .i64 ar] 51) (.cells #[.int .i64 7, .int .i64 n, .string nm, .string fd, .slice kla kl.length klc] 24))
  clear hA hs hf hW hk
  go_enter Tryz.func25, Tryz.ntmps25
  go_wp2_with fail
  refine (tooDeep_any d ar _).mono ?_
  rintro e w1 ⟨rfl, hw1⟩
  have b1 := (Below.refl _ ((w.alloc (.cells #[.int .i64 d, .int .i64 ar] 51)).alloc (.cells #[.int .i64 7, .int .i64 n, .string nm, .string fd, .slice kla kl.length klc] 24))).alloc (Nat.le_refl _) (.cells #[.int .i64 d, .int .i64 ar] 51)
  rw [← hw1] at b1
  clear hw1
  have R1 := Lib.hid (R0.out.trans (b1.mono R0.out.size))
  have cP1 := box_cells ((b1.block _ (heap_lt KP.out)).trans KP.out)
  have cQ1 := box_cells ((b1.block _ (heap_lt KQ.out)).trans KQ.out)
  rw [hdp]
  clear b1
  go_wp2_with fail
  refine (HC.out _ (HW.out.trans (R1.out.mono HW.out.size))).mono ?_
  rintro e w2 ⟨rfl, b2⟩
  have R2 := Lib.hid (R1.out.trans (b2.mono R1.out.size))
  clear b2 cP1 cQ1
  generalize hr : callE d n nm fd kl (okE d k) = r
  go_wp2_with fail
  go_ret
  exact ⟨by rw [hr]; rfl, R2.out⟩
theorem expr_any (w0 : World) (d : Int) : ∀ (k ar : Nat), ar + k = 48 → ∀ (x : List D) (vs : List Value), ShE x → AllAt w0 vs x → ∀ W, Below w0.heap.size w0 W →
    Calls Tryz.prog 25 #[.agg #[.int .i64 d, .int .i64 ar], .agg ⟨vs⟩] W fun e W' => e = .returned (.bool (okE d k x)) ∧ Below W.heap.size W W'
  | 0, ar, hk, x, vs, hx, hv, W, hW => by
    obtain ⟨op, n, nm, fd, kl, kla, klc, rfl, rfl, _⟩ := hv.openE hx
    obtain rfl : ar = 48 := by omega
    exact expr_deep d op n nm fd kla kl.length klc W
  | k + 1, ar, hk, x, vs, hx, hv, W, hW => by
    obtain ⟨op, n, nm, fd, kl, kla, klc, rfl, rfl, _, _, hnm, hfd, akl, skl⟩ := hv.openE hx
    have hf : OkFn w0 25 (.agg #[.int .i64 d, .int .i64 ((ar + 1 : Nat) : Int)]) kl (okE d k) := fun y hy us hu U hU => expr_any w0 d k (ar + 1) (by omega) y us (skl y hy) hu U hU
    cases hop : op == 7 with
    | true =>
      obtain rfl : op = 7 := by simpa using hop
      exact expr_call w0 d ar k (by omega) n nm fd kla kl klc hnm akl skl hf W hW
    | false =>
      rw [show okE d (k + 1) [.int op, .int n, .str nm, .str fd, .row kl] = formE d op n nm fd kl (okE d k) by simp [okE, hop]]
      exact expr_form w0 d ar k (by omega) op n nm fd kla kl klc hop hnm hfd akl skl hf W hW
end Go.Proofs.YtciijpahjjoppaaGreat
