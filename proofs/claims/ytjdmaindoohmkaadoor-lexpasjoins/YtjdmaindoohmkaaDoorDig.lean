/-
  Digits, walked: the reference's long and Digits, text.Digits, text.Join.
-/
import Derived.Test.YtjdmaindoohmkaaDoorNum
import Derived.Lib.AppendIntMem
namespace Go.Proofs.YtjdmaindoohmkaaDoor
open Go.RowKit

theorem dig_piece (d : Nat) (h : d < 10) : (ByteArray.mk #[48, 49, 50, 51, 52, 53, 54, 55, 56, 57]).extract d (d + 1) = ⟨[UInt8.ofNat (48 + d)].toArray⟩ := by
  have : ∀ d : Fin 10, (ByteArray.mk #[48, 49, 50, 51, 52, 53, 54, 55, 56, 57]).extract d.1 (d.1 + 1) = ⟨[UInt8.ofNat (48 + d.1)].toArray⟩ := by decide
  exact this ⟨d, h⟩

theorem dd_len (u : Nat) : (Lib.decDigits u).length ≤ u + 1 := by
  induction u using Nat.strongRecOn with
  | ind u ih =>
    by_cases h : u < 10
    · rw [Lib.decDigits_one h]; simp
    · rw [Lib.decDigits, dif_neg h]
      have := ih (u / 10) (by omega)
      simp; omega

theorem dd_len2 (u : Nat) (h : 10 ≤ u) : (Lib.decDigits u).length + 5 ≤ u := by
  rw [Lib.decDigits, dif_neg (by omega)]
  have := dd_len (u / 10)
  simp; omega
set_option maxHeartbeats 400000 in
theorem long_any (m : Nat) : ∀ (a : Int) (w : World), 0 ≤ a → a ≤ (m : Int) + 9 → a ≤ 9223372036854775808 →
    Calls Tryd.prog 48 #[.int .u64 a] w fun e w' => e = .returned (.string ⟨(Lib.decDigits a.toNat).toArray⟩) ∧ ∃ k, w' = w.drewN k := by
  have small : ∀ (a : Int) (w : World), 0 ≤ a → a < 10 →
    Calls Tryd.prog 48 #[.int .u64 a] w fun e w' => e = .returned (.string ⟨(Lib.decDigits a.toNat).toArray⟩) ∧ ∃ k, w' = w.drewN k := by
    intro a w h0 hlt
    obtain ⟨n, rfl⟩ := Int.eq_ofNat_of_zero_le h0
    rw [Int.toNat_natCast, Lib.decDigits_one (by omega), ← dig_piece n (by omega)]
    go_enter Tryd.func48, Tryd.ntmps48
    go_wp2_with fail
    go_ret
    exact ⟨rfl, 0, rfl⟩
  induction m with
  | zero =>
    intro a w h0 hn hm
    exact small a w h0 (by omega)
  | succ m ih =>
    intro a w h0 hn hm
    by_cases hlt : a < 10
    · exact small a w h0 hlt
    · obtain ⟨n, rfl⟩ := Int.eq_ofNat_of_zero_le h0
      have e : Lib.decDigits ((n : Int)).toNat = Lib.decDigits (n / 10) ++ [UInt8.ofNat (48 + n % 10)] := by
        rw [Int.toNat_natCast, Lib.decDigits, dif_neg (by omega)]
      have E := Lib.hid e
      have IH := Lib.hid ih
      have S := Lib.hid small
      have h10 : ((n : Int) / 10).toNat = n / 10 := by omega
      have H10 := Lib.hid h10
      clear ih e small h10
      have r0 : IntKind.u64.wrap ((n : Int) / 10) = (n : Int) / 10 := IntWalk.u64_in _ (by omega)
      obtain ⟨d, hd⟩ : ∃ d : Nat, d = n % 10 := ⟨_, rfl⟩
      have r4 : (n : Int).tmod 10 = (d : Int) := by rw [Int.tmod_eq_emod_of_nonneg (by omega)]; omega
      rw [← hd] at E
      have r9 : d < 10 := by omega
      clear hd
      have hsl : ∀ w : World, (Instr.slice 9 (.string ⟨#[48, 49, 50, 51, 52, 53, 54, 55, 56, 57]⟩) (some (.int .u64 (d : Int))) (some (.int .u64 ((d : Int) + 1))) none).run Tryd.prog w = .ok (.string ⟨[UInt8.ofNat (48 + d)].toArray⟩) w := fun w => by
        rw [run_slice_string w 9 _ _ _ _ _ Tryd.underlying9 (by omega) (by omega) (show (d : Int) + 1 ≤ ((10 : Nat) : Int) by omega), show ((d : Int) + 1).toNat = d + 1 by omega, Int.toNat_natCast, dig_piece d r9]
      have hadd : ∀ w : World, (Op.stringOp .add ⟨(Lib.decDigits ((n : Int) / 10).toNat).toArray⟩ ⟨#[48 + UInt8.ofNat d]⟩).run Tryd.prog w = .ok (.string ⟨(Lib.decDigits ((n : Int)).toNat).toArray⟩) w := fun w => by
        have hl := dd_len ((n : Int) / 10).toNat
        have hsz : (ByteArray.mk (Lib.decDigits ((n : Int) / 10).toNat).toArray).size + (ByteArray.mk #[48 + UInt8.ofNat d]).size ≤ 9223372036854775807 := by
          show (Lib.decDigits ((n : Int) / 10).toNat).toArray.size + 1 ≤ _
          rw [List.size_toArray]
          omega
        rw [run_string_add_sum w _ _ hsz, E.out, H10.out, show UInt8.ofNat (48 + d) = 48 + UInt8.ofNat d from by simp]
        exact congrArg (fun b => Result.ok (Value.string b) w) (ByteArray.mk_append_mk _ [48 + UInt8.ofNat d])
      have r1 : IntKind.u64.wrap ((d : Int) + 1) = (d : Int) + 1 := IntWalk.u64_in _ (by omega)
      go_enter Tryd.func48, Tryd.ntmps48
      go_wp2_with fail
      go_quiet ((go_at_call 48; refine (IH.out _ _ (by omega) (by omega) (by omega)).mono ?_; rintro e w' ⟨rfl, k, rfl⟩; exact ⟨rfl, _, World.drewN_drewN ..⟩))
      go_wp2_with fail
      go_ret
      exact ⟨rfl, _, rfl⟩

set_option maxHeartbeats 400000 in
theorem refDigits_pos (n : Int) (w : World) (h0 : 0 ≤ n) (h1 : n ≤ 9223372036854775807) :
    Calls Tryd.prog 28 #[.int .i64 n] w fun e w' => e = .returned (.string ⟨(Lib.itoa n).toArray⟩) ∧ ∃ k, w' = w.drewN k := by
  have e : Lib.itoa n = Lib.decDigits n.toNat := by unfold Lib.itoa; rw [if_neg (by omega)]
  rw [e]
  clear e
  go_enter Tryd.func28, Tryd.ntmps28
  go_wp2_with fail
  refine (long_any n.toNat n _ h0 (by omega) (by omega)).mono ?_
  rintro e w' ⟨rfl, k, rfl⟩
  go_wp2_with fail
  go_ret
  exact ⟨rfl, _, rfl⟩

set_option maxHeartbeats 400000 in
theorem refDigits_neg (n : Int) (w : World) (h0 : n < 0) (h1 : -9223372036854775808 ≤ n) :
    Calls Tryd.prog 28 #[.int .i64 n] w fun e w' => e = .returned (.string ⟨(Lib.itoa n).toArray⟩) ∧ ∃ k, w' = w.drewN k := by
  have e : Lib.itoa n = 45 :: Lib.decDigits (-n).toNat := by unfold Lib.itoa; rw [if_pos h0]; congr; omega
  rw [e]
  clear e
  have hw : IntKind.u64.wrap (-IntKind.u64.wrap n) = -n := by rw [IntKind.wrap_u64, IntKind.wrap_u64]; omega
  have hl := dd_len (-n).toNat
  have hsz : (ByteArray.mk #[45]).size + (ByteArray.mk (Lib.decDigits (-n).toNat).toArray).size ≤ 9223372036854775807 := by
    show 1 + (Lib.decDigits (-n).toNat).toArray.size ≤ _
    rw [List.size_toArray]
    by_cases h10 : 10 ≤ (-n).toNat
    · have := dd_len2 (-n).toNat h10
      omega
    · omega
  have hadd : ∀ w : World, (Op.stringOp .add ⟨#[45]⟩ ⟨(Lib.decDigits (-n).toNat).toArray⟩).run Tryd.prog w = .ok (.string ⟨(45 :: Lib.decDigits (-n).toNat).toArray⟩) w := fun w => by
    rw [run_string_add_sum w _ _ hsz]
    exact congrArg (fun b => Result.ok (Value.string b) w) (ByteArray.mk_append_mk [45] _)
  clear hl hsz
  go_enter Tryd.func28, Tryd.ntmps28
  go_wp2_with fail
  refine (long_any (-n).toNat (-n) _ (by omega) (by omega) (by omega)).mono ?_
  rintro e w' ⟨rfl, k, rfl⟩
  go_wp2_with fail
  go_ret
  exact ⟨rfl, _, rfl⟩

end Go.Proofs.YtjdmaindoohmkaaDoor
