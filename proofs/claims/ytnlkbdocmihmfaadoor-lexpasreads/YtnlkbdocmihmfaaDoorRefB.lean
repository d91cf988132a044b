/-
  The reference's Begins and Read, walked.
-/
import Derived.Test.YtnlkbdocmihmfaaDoorRead
import Derived.Test.YtnlkbdocmihmfaaDoorOwn
namespace Go.Proofs.YtnlkbdocmihmfaaDoor
open Go.RowKit

theorem hp_at (s : ByteArray) (k : Nat) (h : k < s.size) (n : Nat) (hn : n < 256) (xs : List UInt8) : Lib.hasPrefix (s.data.toList.drop k) (n.toUInt8 :: xs) = (((s[k].toNat : Int) == (n : Int)) && Lib.hasPrefix (s.data.toList.drop (k + 1)) xs) := by
  rw [drop_bt s k h, hp_cons, bt_eq s k h, eqb _ n hn, show (n.toUInt8 == bt s k) = (bt s k == n.toUInt8) from Bool.beq_comm ..]
theorem hp_off (s : ByteArray) (k : Nat) (h : ¬ k < s.size) (x : UInt8) (xs : List UInt8) : Lib.hasPrefix (s.data.toList.drop k) (x :: xs) = false := by
  rw [drop_end s k h]; rfl
theorem begL_0 (s : ByteArray) : begL 0 s.data.toList = Lib.hasPrefix (s.data.toList.drop 0) [123] := rfl
set_option maxHeartbeats 400000 in
theorem refBeg_0 (s : ByteArray) (w : World) :
    Calls Tryd.prog 34 #[.int .i64 0, .string s] w fun e w' => e = .returned (.bool (begL 0 s.data.toList)) ∧ w = w' := by
  rw [begL_0]
  by_cases h0 : 0 < s.size
  · rw [show Lib.hasPrefix (s.data.toList.drop 0) [123] = _ from hp_at s 0 h0 123 (by decide) [], hp_nil, Bool.and_true]
    rw [show (((123 : Nat)) : Int) = 123 from rfl]
    cases h1 : ((s[0].toNat : Int) == 123) with
    | true =>
      go_enter Tryd.func34, Tryd.ntmps34
      go_wp2_with fail
      go_ret
      exact ⟨rfl, rfl⟩
    | false =>
      go_enter Tryd.func34, Tryd.ntmps34
      go_wp2_with fail
      go_ret
      exact ⟨rfl, rfl⟩
  · rw [hp_off s 0 h0]
    go_enter Tryd.func34, Tryd.ntmps34
    go_wp2_with fail
    go_ret
    exact ⟨rfl, rfl⟩
end Go.Proofs.YtnlkbdocmihmfaaDoor
