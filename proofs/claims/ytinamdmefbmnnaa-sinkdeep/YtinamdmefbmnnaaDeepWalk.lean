/-
  SinkDeep, walked.
-/
import Derived.Test.YtinamdmefbmnnaaAwk
namespace Go.Proofs.Ytinamdmefbmnnaa
open Go.RowKit

def IsBools (w : World) (a : Option Addr) (len cap : Nat) (bs : List Bool) : Prop :=
  bs.length = len ∧ len ≤ cap ∧ cap ≤ maxLen ∧ (len = 0 ∨ ∃ b o, a = some ⟨b, o, none⟩ ∧ b < w.heap.size ∧ ∀ j x, bs[j]? = some x → w.cell? ⟨b, o + j, none⟩ = some (.bool x))
theorem ba_ext {s t : ByteArray} (h : s.data.toList = t.data.toList) : s = t := by
  cases s; cases t
  simp at h
  subst h
  rfl
theorem fl1 : (flat [⟨#[120]⟩]).length = 1 := rfl
theorem app32 {t : ByteArray} {acc : List UInt8} {j : Nat} (h : t.data.toList = acc ++ List.replicate (2 * j) 32) : (t ++ ⟨#[32, 32]⟩).data.toList = acc ++ List.replicate (2 * (j + 1)) 32 := by
  rw [show 2 * (j + 1) = 2 * j + 2 by omega, ← List.replicate_append_replicate, ← List.append_assoc, ← h]
  simp [ByteArray.data_append]
theorem app120 {t : ByteArray} {acc : List UInt8} {j : Nat} (h : t.data.toList = acc ++ List.replicate (2 * j) 32) : (t ++ ⟨#[120, 10]⟩).data.toList = acc ++ (List.replicate (2 * j) 32 ++ [120, 10]) := by
  rw [← List.append_assoc, ← h]
  simp [ByteArray.data_append]
/-- Behind n lines of which none is deeper than it is long there is room. -/
structure DeepIn (w wr : World) (k deep : Nat) (s : ByteArray) : Prop where
  ex : ∃ acc room, Run w wr w.heap.size acc room deep false ∧ s.data.toList = acc ∧ room + acc.length = 1048576 ∧ acc.length ≤ 300 * k
  le : deep ≤ k
set_option maxHeartbeats 1600000 in
theorem sinkDeep_walk (a : Option Addr) (len cap : Nat) (bs : List Bool) (w : World) (hS : IsBools w a len cap bs) :
    Calls Try.prog 7 #[.slice a len cap] w fun e w' => e = .returned (.bool true) ∧ Below w.heap.size w w' := by
  have HS := Lib.hid hS
  have hcap : len ≤ maxLen := by have := hS.2.1; have := hS.2.2.1; omega
  unfold maxLen at hcap
  clear hS
  by_cases hl : 100 < len
  · have hd : decide ((100 : Int) < (len : Int)) = true := by simp; omega
    go_enter Try.func7, Try.ntmps7
    go_wp2_with fail
    refine (awake_any _).mono ?_
    rintro e w1 ⟨rfl, b1⟩
    have B1 := Lib.hid b1
    clear b1
    go_wp2_with fail
    go_ret
    exact ⟨rfl, B1.out⟩
  · have hd : decide ((100 : Int) < (len : Int)) = false := by simp; omega
    go_enter Try.func7, Try.ntmps7
    go_wp2_with fail
    refine (new_any 1048576 1048576 (by decide) _).mono ?_
    have R0 := Lib.hid (Run.new w 1048576)
    generalize (w.alloc (.cells #[.slice none 0 0, .int .i64 ((1048576 : Nat) : Int), .int .i64 0, .bool false] 46)) = w1 at R0 ⊢
    rintro e w' ⟨rfl, rfl⟩
    go_wp2_with fail
    go_loopw [4, 5, 6] (fun d v i wr => ∃ (k deep : Nat) (s : ByteArray), d = .int .i64 deep ∧ v = .string s ∧ i = .int .i64 k ∧ k ≤ len ∧ DeepIn w wr k deep s) (fun _ _ i _ => len - (intOf i).toNat)
    case atStart => exact ⟨0, 0, ⟨#[]⟩, rfl, rfl, rfl, Nat.zero_le _, ⟨[], 1048576, R0.out, rfl, by simp, by simp⟩, Nat.le_refl _⟩
    case round =>
      obtain ⟨k, deep, s, rfl, rfl, rfl, hk, hD⟩ := hrel
      have D := Lib.hid hD
      clear hD
      by_cases hlt : k < len
      · obtain ⟨x, hx⟩ : ∃ x, bs[k]? = some x := ⟨bs[k]'(by rw [HS.out.1]; exact hlt), List.getElem?_eq_getElem _⟩
        obtain ⟨acc, room, hR, hsa, hra, hak⟩ := D.out.ex
        have hdk := D.out.le
        rcases HS.out.2.2.2 with h0 | ⟨b, o, rfl, hbl, hcell⟩
        · omega
        · have hc : wr.cell? ⟨b, o + k, none⟩ = some (.bool x) := by
            rw [hR.bel.cell (p := ⟨b, o + k, none⟩) hbl]; exact hcell k x hx
          have R := Lib.hid hR
          have HSA := Lib.hid hsa
          clear hcell hx hR hsa D HS
          cases x with
          | true =>
            have hw : IntKind.i64.wrap ((deep : Int) + 1) = ((deep + 1 : Nat) : Int) := by rw [IntWalk.i64_in _ (by omega)]; omega
            go_wp2_with fail
            refine (in_any R.out.sk (by omega)).mono ?_
            rintro e w2 ⟨rfl, s2, d2⟩
            have R2 := Lib.hid (R.out.did s2 d2)
            clear s2 d2
            generalize hdd : deep + 1 = n at *
            go_wp2_with fail
            have P3 := Lib.hid (parts_lit R2.out.sk [⟨#[120]⟩] (by decide) (by simp; decide)).strs
            have R3 := Lib.hid (R2.out.alloc (.cells ([⟨#[120]⟩].map Value.string).toArray 9))
            refine (line_any R3.out.sk P3.out (by decide) (by omega) (by rw [fl1]; omega) (by unfold maxLen; omega) true (by rw [fl1]; simp; omega)).mono ?_
            rintro e w4 ⟨rfl, s4, d4⟩
            have R4 : Hid (Run w w4 w.heap.size (acc ++ (List.replicate (2 * n) 32 ++ [120, 10])) (room - (2 * n + 2)) n false) := Lib.hid (R3.out.did s4 d4)
            clear s4 d4 R3 R2 P3
            go_wp2_with fail
            go_loopw [5, 7] (fun v i wr => ∃ (j : Nat) (t : ByteArray), v = .string t ∧ i = .int .i64 j ∧ j ≤ n ∧ t.data.toList = acc ++ List.replicate (2 * j) 32 ∧ wr = w4) (fun _ i _ => n - (intOf i).toNat)
            case atStart => exact ⟨0, s, rfl, rfl, Nat.zero_le _, by simpa using HSA.out, rfl⟩
            case round =>
              obtain ⟨j, t, rfl, rfl, hj, ht, rfl⟩ := hrel
              have HT := Lib.hid ht
              clear ht
              by_cases hlj : j < n
              · have hsz : t.size ≤ 100000 := by rw [← len_size, HT.out, List.length_append, List.length_replicate]; omega
                go_wp2_with fail
                go_roundw
                case rel => exact ⟨j + 1, _, rfl, by go_num, by omega, app32 HT.out, trivial⟩
                case measure => simp [intOf]; omega
              · have hje : j = n := by omega
                subst hje
                have hsz : t.size ≤ 100000 := by rw [← len_size, HT.out, List.length_append, List.length_replicate]; omega
                go_wp2_with fail
                go_roundw
                case rel => exact ⟨k + 1, _, _, by first | rfl | (congr 1; omega), rfl, by go_num, by omega, ⟨_, _, R4.out, app120 HT.out, by simp; omega, by simp; omega⟩, by omega⟩
                case measure => simp [intOf]; omega
          | false =>
            have hw : max 0 (IntKind.i64.wrap ((deep : Int) - 1)) = ((deep - 1 : Nat) : Int) := by rw [IntWalk.i64_in _ (by omega)]; omega
            go_wp2_with fail
            refine (out_any R.out.sk (by omega)).mono ?_
            rintro e w2 ⟨rfl, s2, d2⟩
            have R2 := Lib.hid (R.out.did s2 d2)
            clear s2 d2
            generalize hdd : deep - 1 = n at *
            go_wp2_with fail
            have P3 := Lib.hid (parts_lit R2.out.sk [⟨#[120]⟩] (by decide) (by simp; decide)).strs
            have R3 := Lib.hid (R2.out.alloc (.cells ([⟨#[120]⟩].map Value.string).toArray 9))
            refine (line_any R3.out.sk P3.out (by decide) (by omega) (by rw [fl1]; omega) (by unfold maxLen; omega) true (by rw [fl1]; simp; omega)).mono ?_
            rintro e w4 ⟨rfl, s4, d4⟩
            have R4 : Hid (Run w w4 w.heap.size (acc ++ (List.replicate (2 * n) 32 ++ [120, 10])) (room - (2 * n + 2)) n false) := Lib.hid (R3.out.did s4 d4)
            clear s4 d4 R3 R2 P3
            go_wp2_with fail
            go_loopw [5, 7] (fun v i wr => ∃ (j : Nat) (t : ByteArray), v = .string t ∧ i = .int .i64 j ∧ j ≤ n ∧ t.data.toList = acc ++ List.replicate (2 * j) 32 ∧ wr = w4) (fun _ i _ => n - (intOf i).toNat)
            case atStart => exact ⟨0, s, rfl, rfl, Nat.zero_le _, by simpa using HSA.out, rfl⟩
            case round =>
              obtain ⟨j, t, rfl, rfl, hj, ht, rfl⟩ := hrel
              have HT := Lib.hid ht
              clear ht
              by_cases hlj : j < n
              · have hsz : t.size ≤ 100000 := by rw [← len_size, HT.out, List.length_append, List.length_replicate]; omega
                go_wp2_with fail
                go_roundw
                case rel => exact ⟨j + 1, _, rfl, by go_num, by omega, app32 HT.out, trivial⟩
                case measure => simp [intOf]; omega
              · have hje : j = n := by omega
                subst hje
                have hsz : t.size ≤ 100000 := by rw [← len_size, HT.out, List.length_append, List.length_replicate]; omega
                go_wp2_with fail
                go_roundw
                case rel => exact ⟨k + 1, _, _, by first | rfl | (congr 1; omega), rfl, by go_num, by omega, ⟨_, _, R4.out, app120 HT.out, by simp; omega, by simp; omega⟩, by omega⟩
                case measure => simp [intOf]; omega
      · obtain ⟨acc, room, hR, hsa, hra, hak⟩ := D.out.ex
        have R := Lib.hid hR
        have e : s = ⟨acc.toArray⟩ := ba_ext (by simpa using hsa)
        subst e
        clear hR hsa D
        go_wp2_with fail
        refine (string_any R.out.sk).mono ?_
        rintro e w8 ⟨rfl, rfl⟩
        go_wp2_with fail
        refine (awake_any _).mono ?_
        rintro e w10 ⟨rfl, b10⟩
        have B10 := Lib.hid (R.out.bel.trans (b10.mono R.out.bel.size))
        clear b10
        go_wp2_with fail
        go_ret
        exact ⟨rfl, B10.out⟩
end Go.Proofs.Ytinamdmefbmnnaa
