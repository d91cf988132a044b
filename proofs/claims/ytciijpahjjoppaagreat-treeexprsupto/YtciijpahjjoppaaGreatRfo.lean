/-
  The reference's Routine: walked.
-/
import Derived.Test.YtciijpahjjoppaaGreatRfq
namespace Go.Proofs.YtciijpahjjoppaaGreat
open Go.RowKit Go.Maps

theorem allB_take_succ {l : List ByteArray} {f : ByteArray → Bool} {k : Nat} {x : ByteArray} (hx : l[k]? = some x) (h : (l.take k).all f = true) (hf : f x = true) : (l.take (k + 1)).all f = true := by
  rw [List.take_add_one, hx, List.all_append, h]
  simpa using hf
theorem allB_bad {l : List ByteArray} {f : ByteArray → Bool} {k : Nat} {x : ByteArray} (hx : l[k]? = some x) (h : f x = false) : l.all f = false := by
  rw [List.all_eq_false]
  exact ⟨x, List.mem_of_getElem? hx, by simp [h]⟩
set_option maxRecDepth 100000 in
set_option maxHeartbeats 2000000 in
theorem refRoutine_0 (s : ByteArray) (w : World) (hs : s.size ≤ 2000000) : Calls Tryz.prog 66 #[.int .i64 0, .string s] w fun e w' => e = .returned (.bool (okR 0 s)) ∧ Below w.heap.size w w' := by
  have HO := Lib.hid (show okR 0 s = okName 0 s from rfl)
  go_enter Tryz.func66, Tryz.ntmps66
  go_wp2_with fail
  refine (refName_any 0 s _ (by unfold maxLen; omega)).mono ?_
  rintro e w1 ⟨rfl, b1⟩
  have B1 := Lib.hid b1
  clear b1
  generalize hr : okName 0 s = r
  rw [hr] at HO
  go_wp2_with fail
  go_ret
  exact ⟨by rw [HO.out]; rfl, B1.out⟩
set_option maxRecDepth 100000 in
set_option maxHeartbeats 2000000 in
theorem refRoutine_1 (s : ByteArray) (w : World) (hs : s.size ≤ 2000000) : Calls Tryz.prog 66 #[.int .i64 1, .string s] w fun e w' => e = .returned (.bool (okR 1 s)) ∧ Below w.heap.size w w' := by
  have HO := Lib.hid (show okR 1 s = (parts s).all (okName 1) from rfl)
  have hall : ∀ x ∈ parts s, x.size ≤ maxLen := fun x hx => by have := parts_mem s x hx; unfold maxLen; omega
  have hpl := parts_len s
  go_enter Tryz.func66, Tryz.ntmps66
  go_wp2_with fail
  refine (refParts_any s _ hs).mono ?_
  rintro e w1 ⟨v, rfl, ho, b1⟩
  obtain ⟨a, cap, rfl, hS⟩ := ho.strs hall
  generalize hl : parts s = l at *
  have HS := Lib.hid hS
  have B1 := Lib.hid b1
  clear ho b1 hS hl
  go_wp2_with fail
  go_loopw [6] (fun i wr => ∃ k : Nat, k ≤ l.length ∧ i = .int .i64 k ∧ (l.take k).all (okName 1) = true ∧ Below w1.heap.size w1 wr) (fun i _ => l.length - (intOf i).toNat)
  case atStart => exact ⟨0, Nat.zero_le _, rfl, rfl, Below.refl _ _⟩
  case round =>
    obtain ⟨k, hk, rfl, ht, hb⟩ := hrel
    have HT := Lib.hid ht
    have HB := Lib.hid hb
    clear ht hb
    by_cases hlt : k < l.length
    · obtain ⟨b, o, x, rfl, hx, hc⟩ := (HS.out.below HB.out).at hlt
      have HX := Lib.hid hx
      have hxm := hall x (List.mem_of_getElem? hx)
      clear hx
      go_wp2_with fail
      refine (refName_any 1 x _ hxm).mono ?_
      rintro e w3 ⟨rfl, b3⟩
      have HB4 := Lib.hid (HB.out.trans (b3.mono HB.out.size))
      clear b3
      cases hn : okName 1 x with
      | true =>
        have HE := Lib.hid (allB_take_succ HX.out HT.out hn)
        clear hn
        go_wp2_with fail
        go_roundw
        case rel => exact ⟨k + 1, by omega, by go_num, HE.out, HB4.out⟩
        case measure => simp [intOf]; omega
      | false =>
        have HE := Lib.hid (allB_bad HX.out hn)
        clear hn
        go_wp2_with fail
        go_ret
        exact ⟨by rw [HO.out, HE.out]; rfl, B1.out.trans (HB4.out.mono B1.out.size)⟩
    · obtain rfl : k = l.length := by omega
      have HE := Lib.hid (show l.all (okName 1) = true by have := HT.out; rwa [List.take_length] at this)
      go_wp2_with fail
      go_ret
      exact ⟨by rw [HO.out, HE.out]; rfl, B1.out.trans (HB.out.mono B1.out.size)⟩
theorem refRoutine_any (d : Int) (hd : d = 0 ∨ d = 1) (s : ByteArray) (w : World) (hs : s.size ≤ 2000000) : Calls Tryz.prog 66 #[.int .i64 d, .string s] w fun e w' => e = .returned (.bool (okR d s)) ∧ Below w.heap.size w w' := by
  rcases hd with rfl | rfl
  · exact refRoutine_0 s w hs
  · exact refRoutine_1 s w hs
end Go.Proofs.YtciijpahjjoppaaGreat
