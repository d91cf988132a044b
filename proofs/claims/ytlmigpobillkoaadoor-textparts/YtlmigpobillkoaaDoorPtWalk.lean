/-
  TextParts, walked.
-/
import Derived.Test.YtlmigpobillkoaaDoorAwake
import Derived.Test.YtlmigpobillkoaaDoorWhile
namespace Go.Proofs.YtlmigpobillkoaaDoor
open Go.RowKit

/-- A slice of texts that came in. -/
def IsStrs (w : World) (a : Option Addr) (len cap : Nat) (ss : List ByteArray) : Prop :=
  ss.length = len ∧ len ≤ cap ∧ cap ≤ maxLen ∧ (∀ x ∈ ss, x.size ≤ maxLen) ∧ (len = 0 ∨ ∃ b o, a = some ⟨b, o, none⟩ ∧ b < w.heap.size ∧ ∀ j x, ss[j]? = some x → w.cell? ⟨b, o + j, none⟩ = some (.string x))

theorem ext_size (s : ByteArray) (k : Nat) (h : k ≤ s.size) : (s.extract 0 k).size = k := by
  rw [ByteArray.size_extract]; omega
theorem ext_app (s : ByteArray) (k m : Nat) (h : k ≤ m) (hm : m ≤ s.size) : s.extract 0 k ++ s.extract k m = s.extract 0 m := by
  apply ByteArray.ext
  rw [ByteArray.data_append, ByteArray.data_extract, ByteArray.data_extract, ByteArray.data_extract]
  apply Array.ext_getElem?
  intro i
  have hsz : s.data.size = s.size := rfl
  rw [Array.getElem?_append, Array.getElem?_extract, Array.getElem?_extract, Array.getElem?_extract]
  simp only [Array.size_extract]
  by_cases h1 : i < k
  · rw [if_pos (by omega), if_pos (by omega), if_pos (by omega)]
  · rw [if_neg (by omega)]
    by_cases h2 : i < m
    · rw [if_pos (by omega), if_pos (by omega)]
      congr 1; omega
    · rw [if_neg (by omega), if_neg (by omega)]
theorem ext_one (s : ByteArray) (k : Nat) (h : k < s.size) : s.extract k (k + 1) = ⟨#[bt s k]⟩ := by
  apply ByteArray.ext
  rw [ByteArray.data_extract]
  apply Array.ext_getElem?
  intro i
  have hsz : s.data.size = s.size := rfl
  rw [Array.getElem?_extract]
  by_cases h1 : i = 0
  · subst h1
    rw [if_pos (by omega)]
    have e := bt_eq s k h
    show s.data[k + 0]? = _
    rw [Nat.add_zero, Array.getElem?_eq_getElem (by omega), ← e]
    rfl
  · rw [if_neg (by omega)]
    simp; omega
theorem ext_all (s : ByteArray) : s.extract 0 s.size = s := by
  apply ByteArray.ext
  rw [ByteArray.data_extract]
  have hsz : s.data.size = s.size := rfl
  rw [← hsz]
  simp
theorem add_run (a b c : ByteArray) (h : a ++ b = c) (hs : c.size ≤ 9223372036854775807) : ∀ w : World, (Op.stringOp .add a b).run Tryd.prog w = .ok (.string c) w := fun w => by
  rw [run_string_add_sum w _ _ (by rw [← h, ByteArray.size_append] at hs; exact hs), h]

theorem conv_one (c : UInt8) (w : World) : (convert 55 9 (.slice (some ⟨w.heap.size, 0, none⟩) 1 1)).run Tryd.prog (w.alloc (.cells #[.int .u8 (c.toNat : Int)] 5)) = .ok (.string ⟨#[c]⟩) (w.alloc (.cells #[.int .u8 (c.toNat : Int)] 5)) := by
  exact run_convert_bytes_back (P := Tryd.prog) (w.alloc (.cells #[.int .u8 (c.toNat : Int)] 5)) 55 9 5 ⟨w.heap.size, 0, none⟩ 1 [c] Tryd.underlying55 Tryd.underlying5 Tryd.underlying9 (fun j hj => by
    have : j = 0 := by simpa using hj
    subst this
    show (w.alloc (.cells #[.int .u8 (c.toNat : Int)] 5)).cell? ⟨w.heap.size, 0, none⟩ = _
    rw [cell_new]; rfl)

set_option maxHeartbeats 1000000 in
theorem textParts_walk (s : ByteArray) (a : Option Addr) (len cap : Nat) (ss : List ByteArray) (w : World) (hs : s.size ≤ maxLen) (hS : IsStrs w a len cap ss) (htab : Lib.TabIs Tryd.prog w "internal/strconv.uint64pow10" .u64 Lib.pow10Tab) :
    Calls Tryd.prog 10 #[.string s, .slice a len cap] w fun e w' => e = .returned (.bool true) ∧ Below w.heap.size w w' := by
  have T := Lib.hid htab
  clear htab
  obtain ⟨hl, hlc, hcm, hsz, hcells⟩ := hS
  by_cases hl2 : (2000 : Int) < (s.size : Int)
  · clear hl hlc hcm hsz hcells
    go_enter Tryd.func10, Tryd.ntmps10
    go_wp2_with fail
    refine (awake_any _ T.out).mono ?_
    rintro e w' ⟨rfl, b⟩
    have B := Lib.hid b
    clear b
    go_wp2_with fail
    go_ret
    exact ⟨rfl, B.out⟩
  · have HL := Lib.hid hl
    have HS := Lib.hid hsz
    have HC := Lib.hid hcells
    clear hl hsz hcells
    unfold maxLen at hcm
    go_enter Tryd.func10, Tryd.ntmps10
    go_wp2_with fail
    refine (new2 s _).mono ?_
    rintro e w1 ⟨rfl, c1, b1⟩
    have C1 := Lib.hid c1
    have B1 := Lib.hid b1
    clear c1 b1
    have hemp : (ByteArray.mk #[]) = s.extract 0 0 := by
      apply ByteArray.ext
      rw [ByteArray.data_extract]; simp
    have HE := Lib.hid hemp
    clear hemp
    go_wp2_with fail
    go_loopw [6, 7] (fun al i wr => ∃ k j : Nat, al = .string (s.extract 0 k) ∧ i = .int .i64 j ∧ j ≤ k ∧ CurAt wr w.heap.size s k ∧ Below w.heap.size w wr) (fun _ _ wr => leftOf s w.heap.size wr)
    case atStart => exact ⟨0, 0, by rw [HE.out], rfl, Nat.le_refl _, C1.out, B1.out⟩
    case round =>
      obtain ⟨k, j, rfl, rfl, hjk, hcj, hb⟩ := hrel
      have hle := hcj.le
      have hex := ext_size s k hle
      have CJ := Lib.hid hcj
      have BJ := Lib.hid hb
      clear hcj hb
      by_cases hin : k < s.size
      · by_cases hjl : j < len
        · obtain ⟨x, hx⟩ : ∃ x, ss[j]? = some x := ⟨ss[j]'(by rw [HL.out]; exact hjl), List.getElem?_eq_getElem _⟩
          obtain ⟨bb, oo, rfl, hbb, hcell⟩ : ∃ b o, a = some ⟨b, o, none⟩ ∧ b < w.heap.size ∧ ∀ j x, ss[j]? = some x → w.cell? ⟨b, o + j, none⟩ = some (.string x) := by
            rcases HC.out with h | h
            · omega
            · exact h
          have hxm := HS.out x (List.mem_of_getElem? hx)
          have hcl := hcell j x hx
          rw [← BJ.out.cell (p := ⟨bb, oo + j, none⟩) hbb] at hcl
          have HX := Lib.hid hx
          have HCE := Lib.hid hcell
          clear hx hcell
          go_wp2_with fail
          refine (while_any w.heap.size k s x _ CJ.out hs hxm).mono ?_
          obtain ⟨hm1, hm2⟩ := whEnd_bd x s k hle
          generalize whEnd x s k = m at *
          rintro e w3 ⟨rfl, c3, o3⟩
          have C3 := Lib.hid c3
          have B3 := Lib.hid (BJ.out.trans (o3.below (B := w.heap.size) (Nat.le_refl _) BJ.out.size))
          clear c3 o3 hcl
          have hadd1 := add_run (s.extract 0 k) (s.extract k m) (s.extract 0 m) (ext_app s k m hm1 hm2) (by rw [ext_size s m hm2]; omega)
          go_wp2_with fail
          clear hadd1
          by_cases hmn : m < s.size
          · refine (next_in w.heap.size m s _ C3.out hs hmn).mono ?_
            rintro e w4 ⟨rfl, c4, o4⟩
            have C4 := Lib.hid c4
            have B4 := Lib.hid (B3.out.trans (o4.below (B := w.heap.size) (Nat.le_refl _) B3.out.size))
            clear c4 o4
            have hcv := conv_one (bt s m)
            have hadd := add_run (s.extract 0 m) ⟨#[bt s m]⟩ (s.extract 0 (m + 1)) (by rw [← ext_one s m hmn]; exact ext_app s m (m + 1) (by omega) (by omega)) (by rw [ext_size s (m + 1) (by omega)]; omega)
            go_wp2_with fail
            have C5 := Lib.hid (C4.out.stays (Below.heap_alloc w4 (.cells #[.int .u8 ((bt s m).toNat : Int)] 5) _ C4.out.lt))
            have B5 := Lib.hid (B4.out.alloc B4.out.size (.cells #[.int .u8 ((bt s m).toNat : Int)] 5))
            go_roundw
            case rel => exact ⟨m + 1, j + 1, rfl, by go_num, by omega, C5.out, B5.out⟩
            case measure => rw [leftOf_at C5.out, leftOf_at CJ.out]; omega
          · refine (next_out w.heap.size m s _ C3.out hs (by omega)).mono ?_
            rintro e w4 ⟨rfl, n4, rfl⟩
            go_wp2_with fail
            go_roundw
            case rel => exact ⟨m, j + 1, rfl, by go_num, by omega, C3.out.drewN _, ⟨B3.out.os, B3.out.tape, B3.out.output, B3.out.size, B3.out.block⟩⟩
            case measure => rw [leftOf_at (C3.out.drewN n4), leftOf_at CJ.out]; omega
        · go_wp2_with fail
          refine (next_in w.heap.size k s _ CJ.out hs hin).mono ?_
          rintro e w2 ⟨rfl, c2, o2⟩
          have C2 := Lib.hid c2
          have B2 := Lib.hid (BJ.out.trans (o2.below (B := w.heap.size) (Nat.le_refl _) BJ.out.size))
          clear c2 o2
          have hcv := conv_one (bt s k)
          have hadd := add_run (s.extract 0 k) ⟨#[bt s k]⟩ (s.extract 0 (k + 1)) (by rw [← ext_one s k hin]; exact ext_app s k (k + 1) (by omega) (by omega)) (by rw [ext_size s (k + 1) (by omega)]; omega)
          go_wp2_with fail
          have C3 := Lib.hid (C2.out.stays (Below.heap_alloc w2 (.cells #[.int .u8 ((bt s k).toNat : Int)] 5) _ C2.out.lt))
          have B3 := Lib.hid (B2.out.alloc B2.out.size (.cells #[.int .u8 ((bt s k).toNat : Int)] 5))
          go_roundw
          case rel => exact ⟨k + 1, j + 1, rfl, by go_num, by omega, C3.out, B3.out⟩
          case measure => rw [leftOf_at C3.out, leftOf_at CJ.out]; omega
      · obtain rfl : k = s.size := by omega
        have hall := ext_all s
        go_wp2_with fail
        refine (next_out w.heap.size s.size s _ CJ.out hs (Nat.le_refl _)).mono ?_
        rintro e w2 ⟨rfl, n2, rfl⟩
        have B2 := Lib.hid (show Below w.heap.size w (wr.drewN n2) from ⟨BJ.out.os, BJ.out.tape, BJ.out.output, BJ.out.size, BJ.out.block⟩)
        go_wp2_with fail
        refine (awake_any _ (Joins.tab_stays gPow T.out B2.out (Nat.le_refl _))).mono ?_
        rintro e w3 ⟨rfl, b3⟩
        have B3 := Lib.hid (B2.out.trans (b3.mono B2.out.size))
        clear b3
        go_wp2_with fail
        go_ret
        exact ⟨rfl, B3.out⟩
end Go.Proofs.YtlmigpobillkoaaDoor
