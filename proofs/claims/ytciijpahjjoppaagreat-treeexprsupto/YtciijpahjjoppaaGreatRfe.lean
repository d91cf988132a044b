/-
  The reference's Deep in whole.
-/
import Derived.Test.YtciijpahjjoppaaGreatRfd
namespace Go.Proofs.YtciijpahjjoppaaGreat
open Go.RowKit Go.Deep Go.Maps

set_option maxRecDepth 100000 in
set_option maxHeartbeats 2000000 in
theorem deep_0 (op n : Int) (nm fd : ByteArray) (la : Option Addr) (len lc : Nat) (hl : len ≤ 9223372036854775807) (w : World) :
    Calls Tryz.prog 27 #[.agg #[.int .i64 op, .int .i64 n, .string nm, .string fd, .slice la len lc], .int .i64 0] w fun e w' => e = .returned (.int .i64 1) ∧ Below w.heap.size w w' := by
  have KB := Lib.hid (heap_new w (.cells #[.int .i64 op, .int .i64 n, .string nm, .string fd, .slice la len lc] 24))
  have R0 := Lib.hid ((Below.refl w.heap.size w).alloc (Nat.le_refl _) (.cells #[.int .i64 op, .int .i64 n, .string nm, .string fd, .slice la len lc] 24))
  go_enter Tryz.func27, Tryz.ntmps27
  go_wp2_with fail
  go_loopw [5, 6] (fun dv iv wr => iv = .int .i64 0 ∧ dv = .int .i64 0 ∧ wr = w.alloc (.cells #[.int .i64 op, .int .i64 n, .string nm, .string fd, .slice la len lc] 24)) (fun _ _ _ => 0)
  case atStart => exact ⟨rfl, rfl, rfl⟩
  case round =>
    obtain ⟨rfl, rfl, rfl⟩ := hrel
    by_cases hlt : 0 < len
    · have hd : decide ((0 : Int) < (len : Int)) = true := by simp; omega
      go_wp2_with fail
      go_ret
      exact ⟨rfl, R0.out⟩
    · obtain rfl : len = 0 := by omega
      go_wp2_with fail
      go_ret
      exact ⟨rfl, R0.out⟩
theorem deep_any (w0 : World) : ∀ (m : Nat), m < 1000 → ∀ (x : List D) (vs : List Value), ShE x → AllAt w0 vs x → ∀ W, Below w0.heap.size w0 W → Calls Tryz.prog 27 #[.agg ⟨vs⟩, .int .i64 (m : Nat)] W fun e W' => e = .returned (.int .i64 (dep m x : Nat)) ∧ Below W.heap.size W W'
  | 0, _, x, vs, hx, hv, W, _ => by
    obtain ⟨op, n, nm, fd, kl, kla, klc, rfl, rfl, _, _, _, _, akl, _⟩ := hv.openE hx
    exact deep_0 op n nm fd kla kl.length klc akl.len_le W
  | m + 1, hm, x, vs, hx, hv, W, hW => by
    obtain ⟨op, n, nm, fd, kl, kla, klc, rfl, rfl, _, _, _, _, akl, skl⟩ := hv.openE hx
    exact deep_step w0 m (by omega) op n nm fd kla kl klc akl skl (fun y hy us hu U hU => deep_any w0 m (by omega) y us (skl y hy) hu U hU) W hW
end Go.Proofs.YtciijpahjjoppaaGreat
