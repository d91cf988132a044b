/-
  TextNumbers and TextDigits, walked.
-/
import Derived.Test.YtlmigpobillkoaaDoorAwake
import Derived.Test.YtlmigpobillkoaaDoorDgs
namespace Go.Proofs.YtlmigpobillkoaaDoor
open Go.RowKit

set_option maxHeartbeats 400000 in
theorem textNumbers_walk (s : ByteArray) (w : World) (hs : s.size ≤ maxLen) (htab : Lib.TabIs Tryd.prog w "internal/strconv.uint64pow10" .u64 Lib.pow10Tab) :
    Calls Tryd.prog 5 #[.string s] w fun e w' => e = .returned (.bool true) ∧ Below w.heap.size w w' := by
  have T := Lib.hid htab
  clear htab
  by_cases hl : (5000 : Int) < (s.size : Int)
  · go_enter Tryd.func5, Tryd.ntmps5
    go_wp2_with fail
    refine (awake_any _ T.out).mono ?_
    rintro e w' ⟨rfl, b⟩
    have B := Lib.hid b
    clear b
    go_wp2_with fail
    go_ret
    exact ⟨rfl, B.out⟩
  · by_cases hA : AD s
    · by_cases hv : (valTo s s.size : Int) ≤ 9223372036854775807
      · have HA := Lib.hid hA
        have HV := Lib.hid hv
        clear hA hv
        have hq : ((valTo s s.size : Int) == (valTo s s.size : Int)) = true := by simp
        go_enter Tryd.func5, Tryd.ntmps5
        go_wp2_with fail
        refine (number_ok s _ hs HA.out HV.out).mono ?_
        rintro e w' ⟨rfl, rfl⟩
        go_wp2_with fail
        refine (refNumber_ok s _ hs HA.out HV.out).mono ?_
        rintro e w' ⟨rfl, rfl⟩
        go_wp2_with fail
        refine (awake_any _ T.out).mono ?_
        rintro e w' ⟨rfl, b⟩
        have B := Lib.hid b
        clear b
        go_wp2_with fail
        go_ret
        exact ⟨rfl, B.out⟩
      · have HA := Lib.hid hA
        have HV := Lib.hid (show (9223372036854775807 : Int) < (valTo s s.size : Int) by omega)
        clear hA hv
        go_enter Tryd.func5, Tryd.ntmps5
        go_wp2_with fail
        refine (number_big s _ hs HA.out HV.out).mono ?_
        rintro e w' ⟨rfl, rfl⟩
        go_wp2_with fail
        refine (refNumber_big s _ hs HA.out HV.out).mono ?_
        rintro e w' ⟨rfl, rfl⟩
        go_wp2_with fail
        refine (awake_any _ T.out).mono ?_
        rintro e w' ⟨rfl, b⟩
        have B := Lib.hid b
        clear b
        go_wp2_with fail
        go_ret
        exact ⟨rfl, B.out⟩
    · have HA := Lib.hid hA
      clear hA
      go_enter Tryd.func5, Tryd.ntmps5
      go_wp2_with fail
      refine (number_bad s _ hs HA.out).mono ?_
      rintro e w' ⟨rfl, rfl⟩
      go_wp2_with fail
      refine (refNumber_bad s _ hs HA.out).mono ?_
      rintro e w' ⟨rfl, rfl⟩
      go_wp2_with fail
      refine (awake_any _ T.out).mono ?_
      rintro e w' ⟨rfl, b⟩
      have B := Lib.hid b
      clear b
      go_wp2_with fail
      go_ret
      exact ⟨rfl, B.out⟩

set_option maxHeartbeats 400000 in
theorem textDigits_walk (n : Int) (w : World) (h0 : -9223372036854775808 ≤ n) (h1 : n ≤ 9223372036854775807) (htab : Lib.TabIs Tryd.prog w "internal/strconv.uint64pow10" .u64 Lib.pow10Tab) :
    Calls Tryd.prog 6 #[.int .i64 n] w fun e w' => e = .returned (.bool true) ∧ Below w.heap.size w w' := by
  have T := Lib.hid htab
  have L := Lib.hid (itoa_len n h0 h1)
  clear htab
  by_cases hn : n < 0
  · have HA := Lib.hid (notAD_itoa n hn)
    go_enter Tryd.func6, Tryd.ntmps6
    go_wp2_with fail
    refine (digits_any n _ h0 h1 T.out).mono ?_
    generalize hl : Lib.itoa n = l at *
    have HL := Lib.hid hl
    clear hl
    rintro e w1 ⟨rfl, b1⟩
    have B1 := Lib.hid b1
    clear b1
    go_wp2_with fail
    refine (number_bad ⟨l.toArray⟩ _ L.out HA.out).mono ?_
    rintro e w' ⟨rfl, rfl⟩
    go_wp2_with fail
    refine (refDigits_neg n _ hn h0).mono ?_
    rw [HL.out]
    rintro e w' ⟨rfl, k, rfl⟩
    have B2 := Lib.hid (show Below w.heap.size w (w1.drewN k) from ⟨B1.out.os, B1.out.tape, B1.out.output, B1.out.size, B1.out.block⟩)
    clear B1
    go_wp2_with fail
    refine (awake_any _ (Joins.tab_stays gPow T.out B2.out (Nat.le_refl _))).mono ?_
    rintro e w3 ⟨rfl, b3⟩
    have B3 := Lib.hid (B2.out.trans (b3.mono B2.out.size))
    clear b3 B2
    go_wp2_with fail
    go_ret
    exact ⟨rfl, B3.out⟩
  · have HA := Lib.hid (AD_itoa n (by omega))
    have hv := val_itoa n (by omega)
    go_enter Tryd.func6, Tryd.ntmps6
    go_wp2_with fail
    refine (digits_any n _ h0 h1 T.out).mono ?_
    generalize hl : Lib.itoa n = l at *
    have HL := Lib.hid hl
    have HV := Lib.hid hv
    clear hl hv
    rintro e w1 ⟨rfl, b1⟩
    have B1 := Lib.hid b1
    clear b1
    go_wp2_with fail
    refine (number_ok ⟨l.toArray⟩ _ L.out HA.out (by rw [HV.out]; omega)).mono ?_
    rw [HV.out]
    rintro e w' ⟨rfl, rfl⟩
    have hq : (n == n) = true := by simp
    go_wp2_with fail
    refine (refDigits_pos n _ (by omega) h1).mono ?_
    rw [HL.out]
    rintro e w' ⟨rfl, k, rfl⟩
    have B2 := Lib.hid (show Below w.heap.size w (w1.drewN k) from ⟨B1.out.os, B1.out.tape, B1.out.output, B1.out.size, B1.out.block⟩)
    clear B1
    go_wp2_with fail
    refine (awake_any _ (Joins.tab_stays gPow T.out B2.out (Nat.le_refl _))).mono ?_
    rintro e w3 ⟨rfl, b3⟩
    have B3 := Lib.hid (B2.out.trans (b3.mono B2.out.size))
    clear b3 B2
    go_wp2_with fail
    go_ret
    exact ⟨rfl, B3.out⟩
end Go.Proofs.YtlmigpobillkoaaDoor
