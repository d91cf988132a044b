/-
  The reference's Begins and Read, walked.
-/
import Derived.Test.YtjdmaindoohmkaaDoorRead
import Derived.Test.YtjdmaindoohmkaaDoorOwn
namespace Go.Proofs.YtjdmaindoohmkaaDoor
open Go.RowKit

theorem hp_at (s : ByteArray) (k : Nat) (h : k < s.size) (n : Nat) (hn : n < 256) (xs : List UInt8) : Lib.hasPrefix (s.data.toList.drop k) (n.toUInt8 :: xs) = (((s[k].toNat : Int) == (n : Int)) && Lib.hasPrefix (s.data.toList.drop (k + 1)) xs) := by
  rw [drop_bt s k h, hp_cons, bt_eq s k h, eqb _ n hn, show (n.toUInt8 == bt s k) = (bt s k == n.toUInt8) from Bool.beq_comm ..]
theorem hp_off (s : ByteArray) (k : Nat) (h : ¬ k < s.size) (x : UInt8) (xs : List UInt8) : Lib.hasPrefix (s.data.toList.drop k) (x :: xs) = false := by
  rw [drop_end s k h]; rfl
theorem begL_0 (s : ByteArray) : begL 0 s.data.toList = Lib.hasPrefix (s.data.toList.drop 0) [123] := rfl
theorem begL_1 (s : ByteArray) : begL 1 s.data.toList = Lib.hasPrefix (s.data.toList.drop 0) [47, 42] := rfl
set_option maxHeartbeats 400000 in
theorem refBeg_0 (s : ByteArray) (w : World) :
    Calls Tryd.prog 41 #[.int .i64 0, .string s] w fun e w' => e = .returned (.bool (begL 0 s.data.toList)) ∧ w = w' := by
  rw [begL_0]
  by_cases h0 : 0 < s.size
  · rw [show Lib.hasPrefix (s.data.toList.drop 0) [123] = _ from hp_at s 0 h0 123 (by decide) [], hp_nil, Bool.and_true]
    rw [show (((123 : Nat)) : Int) = 123 from rfl]
    cases h1 : ((s[0].toNat : Int) == 123) with
    | true =>
      go_enter Tryd.func41, Tryd.ntmps41
      go_wp2_with fail
      go_ret
      exact ⟨rfl, rfl⟩
    | false =>
      go_enter Tryd.func41, Tryd.ntmps41
      go_wp2_with fail
      go_ret
      exact ⟨rfl, rfl⟩
  · rw [hp_off s 0 h0]
    go_enter Tryd.func41, Tryd.ntmps41
    go_wp2_with fail
    go_ret
    exact ⟨rfl, rfl⟩
set_option maxHeartbeats 400000 in
theorem refBeg_1 (s : ByteArray) (w : World) :
    Calls Tryd.prog 41 #[.int .i64 1, .string s] w fun e w' => e = .returned (.bool (begL 1 s.data.toList)) ∧ w = w' := by
  rw [begL_1]
  by_cases h0 : 1 < s.size
  · have h00 : 0 < s.size := by omega
    rw [show Lib.hasPrefix (s.data.toList.drop 0) [47, 42] = _ from hp_at s 0 h00 47 (by decide) [42], show Lib.hasPrefix (s.data.toList.drop (0 + 1)) [42] = _ from hp_at s 1 h0 42 (by decide) [], hp_nil, Bool.and_true]
    rw [show (((47 : Nat)) : Int) = 47 from rfl, show (((42 : Nat)) : Int) = 42 from rfl]
    cases h1 : ((s[0].toNat : Int) == 47) with
    | true =>
      cases h2 : ((s[1].toNat : Int) == 42) with
      | true =>
        go_enter Tryd.func41, Tryd.ntmps41
        go_wp2_with fail
        go_ret
        exact ⟨rfl, rfl⟩
      | false =>
        go_enter Tryd.func41, Tryd.ntmps41
        go_wp2_with fail
        go_ret
        exact ⟨rfl, rfl⟩
    | false =>
      go_enter Tryd.func41, Tryd.ntmps41
      go_wp2_with fail
      go_ret
      exact ⟨rfl, rfl⟩
  · have e : Lib.hasPrefix (s.data.toList.drop 0) [47, 42] = false := by
      by_cases h00 : 0 < s.size
      · rw [show Lib.hasPrefix (s.data.toList.drop 0) [47, 42] = _ from hp_at s 0 h00 47 (by decide) [42], hp_off s 1 h0, Bool.and_false]
      · exact hp_off s 0 h00 _ _
    rw [e]
    clear e
    go_enter Tryd.func41, Tryd.ntmps41
    go_wp2_with fail
    go_ret
    exact ⟨rfl, rfl⟩
set_option maxHeartbeats 400000 in
theorem refBeg_any (d : Int) (s : ByteArray) (w : World) :
    Calls Tryd.prog 41 #[.int .i64 d, .string s] w fun e w' => e = .returned (.bool (begL d s.data.toList)) ∧ w = w' := by
  by_cases hd : Dia d
  · rcases hd with rfl | rfl
    · exact refBeg_0 s w
    · exact refBeg_1 s w
  · have h0 : (d == 0) = false := by unfold Dia at hd; simp; omega
    have h1 : (d == 1) = false := by unfold Dia at hd; simp; omega
    have e : begL d s.data.toList = false := by unfold begL; rw [not_dia hd]; rfl
    rw [e]
    clear e hd
    go_enter Tryd.func41, Tryd.ntmps41
    go_wp2_with fail
    go_ret
    exact ⟨rfl, rfl⟩
end Go.Proofs.YtjdmaindoohmkaaDoor
