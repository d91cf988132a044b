/-
  TextJoins, walked.
-/
import Derived.Test.YtlmigpobillkoaaDoorAwake
import Derived.Test.YtlmigpobillkoaaDoorJn
import Derived.Deep.RegionHeld3
namespace Go.Proofs.YtlmigpobillkoaaDoor
open Go.RowKit

theorem awakeB (W : World) (T : Lib.TabIs Tryd.prog W "internal/strconv.uint64pow10" .u64 Lib.pow10Tab) (w1 : World) (hb : Below W.heap.size W w1) :
    Calls Tryd.prog 11 #[] w1 fun e w' => e = .returned (.bool true) ∧ Below W.heap.size W w' :=
  (awake_any w1 (Joins.tab_stays gPow T hb (Nat.le_refl _))).mono fun _ _ ⟨he, hb2⟩ => ⟨he, hb.trans (hb2.mono hb.size)⟩
theorem joinNil (W w1 : World) (hb : Below W.heap.size W w1) :
    Calls Tryd.prog 26 #[.slice none 0 0] w1 fun e w' => e = .returned (.string ⟨#[]⟩) ∧ Below W.heap.size W w' :=
  (join_none none 0 w1).mono fun _ _ ⟨he, hw⟩ => ⟨he, by rw [← hw]; exact hb⟩

def InB (W w' : World) : Prop := Below W.heap.size W w'
theorem InB.start (W : World) : InB W W.drew := (Below.refl _ _).drew
theorem InB.alloc {W w : World} (h : InB W w) (o : Obj) : InB W (w.alloc o) := Below.alloc h h.size o
theorem InB.drew {W w : World} (h : InB W w) : InB W w.drew := Below.drew h

theorem elem49 : Tryd.prog.elem 49 = 9 := by kernel_rfl
theorem slice_tail (b o k cap m : Nat) (hm : m ≤ k) (hk : k ≤ cap) (W : World) (ss : List ByteArray) (h : IsStrs W (some ⟨b, o, none⟩) k cap ss) (h0 : 0 < k) :
    ∃ a2, IsStrs W a2 (k - m) (cap - m) (ss.drop m) ∧ ∀ w, (Instr.slice 49 (.slice (some ⟨b, o, none⟩) k cap) (some (.int .i64 (m : Int))) none none).run Tryd.prog w = .ok (.slice a2 (k - m) (cap - m)) w := by
  by_cases e : cap = m
  · refine ⟨some ⟨b, o, none⟩, ⟨by rw [List.length_drop, h.1], by omega, by have := h.2.2.1; omega, fun x hx => h.2.2.2.1 x (List.mem_of_mem_drop hx), .inl (by omega)⟩, fun w => ?_⟩
    rw [run_slice_l w 49 (some ⟨b, o, none⟩) k cap Tryd.underlying49 .i64 (m : Int) (by omega) (by omega), elem49, Tryd.sizeOf9 w]
    simp [Result.andThen, sliced, e]
  · refine ⟨some ⟨b, o + m, none⟩, isStrs_drop h h0 m hm, fun w => ?_⟩
    rw [run_slice_l w 49 (some ⟨b, o, none⟩) k cap Tryd.underlying49 .i64 (m : Int) (by omega) (by omega), elem49, Tryd.sizeOf9 w]
    simp [Result.andThen, sliced, e, Addr.add_mid]
theorem slice_head (b o k cap m : Nat) (hm : m ≤ cap) : ∀ w, (Instr.slice 49 (.slice (some ⟨b, o, none⟩) k cap) none (some (.int .i64 (m : Int))) none).run Tryd.prog w = .ok (.slice (some ⟨b, o, none⟩) m cap) w := fun w => by
  rw [run_slice_h w 49 (some ⟨b, o, none⟩) k cap Tryd.underlying49 .i64 (m : Int) (by omega) (by omega), elem49, Tryd.sizeOf9 w]
  simp [Result.andThen, sliced, Addr.add_mid]

set_option maxHeartbeats 1000000 in
theorem textJoins_walk (b o len cap : Nat) (ss : List ByteArray) (cut : Int) (w : World) (c0 : -9223372036854775808 ≤ cut) (c1 : cut ≤ 9223372036854775807) (hlen : 0 < len) (hS : IsStrs w (some ⟨b, o, none⟩) len cap ss) (htab : Lib.TabIs Tryd.prog w "internal/strconv.uint64pow10" .u64 Lib.pow10Tab) :
    Calls Tryd.prog 7 #[.slice (some ⟨b, o, none⟩) len cap, .int .i64 cut] w fun e w' => e = .returned (.bool true) ∧ Below w.heap.size w w' := by
  have T := Lib.hid htab
  have ST := Lib.hid hS
  clear htab
  obtain ⟨hl, hlc, hcm, hsz, hcells⟩ := hS
  by_cases hl2 : (50 : Int) < (len : Int)
  · clear hl hlc hcm hsz hcells
    go_enter Tryd.func7, Tryd.ntmps7
    go_wp2_with fail
    refine (awake_any _ T.out).mono ?_
    rintro e w' ⟨rfl, b⟩
    have B := Lib.hid b
    clear b
    go_wp2_with fail
    go_ret
    exact ⟨rfl, B.out⟩
  · have hce : ∀ j x, ss[j]? = some x → w.cell? ⟨b, o + j, none⟩ = some (.string x) := by
      rcases hcells with h | ⟨b', o', e, _, hc⟩
      · omega
      · cases e; exact hc
    have HC := Lib.hid hce
    have HL := Lib.hid hl
    have HS := Lib.hid hsz
    clear hl hsz hcells hce
    unfold maxLen at hcm
    go_enter Tryd.func7, Tryd.ntmps7
    go_wp2_with fail
    go_loop [5, 6] (fun s i => ∃ k : Nat, k ≤ len ∧ i = .int .i64 k ∧ s = .string (cat (ss.take k)) ∧ (cat (ss.take k)).size ≤ 20000) (fun _ i => len - (intOf i).toNat)
    case atStart => exact ⟨0, Nat.zero_le _, rfl, rfl, show (cat []).size ≤ 20000 by decide⟩
    case round =>
      obtain ⟨k, hk, rfl, rfl, hcs⟩ := hrel
      by_cases hlt : k < len
      · obtain ⟨x, hx⟩ : ∃ x, ss[k]? = some x := ⟨ss[k]'(by rw [HL.out]; exact hlt), List.getElem?_eq_getElem _⟩
        have hcl := HC.out k x hx
        have hct := cat_take ss k x hx
        have HCT := Lib.hid hct
        clear hct
        by_cases hb1 : (10000 : Int) < ((cat (ss.take k)).size : Int)
        · go_wp2_with fail
          refine (awake_any _ T.out).mono ?_
          rintro e w' ⟨rfl, b⟩
          have B := Lib.hid b
          clear b
          go_wp2_with fail
          go_ret
          exact ⟨rfl, B.out⟩
        · by_cases hb2 : (10000 : Int) < (x.size : Int)
          · go_wp2_with fail
            refine (awake_any _ T.out).mono ?_
            rintro e w' ⟨rfl, b⟩
            have B := Lib.hid b
            clear b
            go_wp2_with fail
            go_ret
            exact ⟨rfl, B.out⟩
          · have hsz2 : (cat (ss.take (k + 1))).size ≤ 20000 := by rw [HCT.out, ByteArray.size_append]; omega
            have hadd := add_run (cat (ss.take k)) x (cat (ss.take (k + 1))) HCT.out.symm (by omega)
            have HZ := Lib.hid hsz2
            clear hsz2
            go_wp2_with fail
            go_round
            case rel => exact ⟨k + 1, by omega, by go_num, rfl, HZ.out⟩
            case measure => simp [intOf]; omega
      · obtain rfl : k = len := by omega
        have hall : ss.take k = ss := by rw [← HL.out]; exact List.take_length
        rw [hall] at hcs
        have HA := Lib.hid hall
        clear hall hlt hk
        go_wp2_with fail
        refine (pick_any cut _ _ c0 c1 (by omega) (by omega)).mono ?_
        have p0 := Int.emod_nonneg cut (show (k : Int) + 1 ≠ 0 by omega)
        have p1 := Int.emod_lt_of_pos cut (show (0 : Int) < (k : Int) + 1 by omega)
        generalize cut % ((k : Int) + 1) = m at *
        obtain ⟨m, rfl⟩ := Int.eq_ofNat_of_zero_le p0
        rintro e w' ⟨rfl, rfl⟩
        rw [HA.out]
        go_wp2_with fail
        obtain ⟨a2, hs2, hsl2⟩ := slice_tail b o k cap m (by omega) hlc w ss ST.out hlen
        have hsl1 := slice_head b o k cap m (by omega)
        have hp := cat_parts ss m
        have hz1 : (cat (ss.take m)).size ≤ 1000000 := by rw [← hp, ByteArray.size_append] at hcs; omega
        have hz2 : (cat (ss.drop m)).size ≤ 1000000 := by rw [← hp, ByteArray.size_append] at hcs; omega
        have J1 := Lib.hid (show ∀ w1, InB w w1 → Calls Tryd.prog 26 #[.slice (some ⟨b, o, none⟩) k cap] w1 fun e w' => e = .returned (.string (cat ss)) ∧ InB w w' from
          fun w1 hb => joinAt w _ k cap ss ST.out (by omega) (by omega) w1 hb)
        have J2 := Lib.hid (show ∀ w1, InB w w1 → Calls Tryd.prog 26 #[.slice (some ⟨b, o, none⟩) m cap] w1 fun e w' => e = .returned (.string (cat (ss.take m))) ∧ InB w w' from
          fun w1 hb => joinAt w _ m cap (ss.take m) (isStrs_take ST.out hlen m (by omega)) hz1 (by omega) w1 hb)
        have J3 := Lib.hid (show ∀ w1, InB w w1 → Calls Tryd.prog 26 #[.slice a2 (k - m) (cap - m)] w1 fun e w' => e = .returned (.string (cat (ss.drop m))) ∧ InB w w' from
          fun w1 hb => joinAt w _ (k - m) (cap - m) (ss.drop m) hs2 hz2 (by omega) w1 hb)
        have J4 := Lib.hid (show ∀ w1 : World, InB w (w1.alloc (.cells #[.string (cat (ss.take m)), .string (cat (ss.drop m))] 9)) → Calls Tryd.prog 26 #[.slice (some ⟨w1.heap.size, 0, none⟩) 2 2] (w1.alloc (.cells #[.string (cat (ss.take m)), .string (cat (ss.drop m))] 9)) fun e w' => e = .returned (.string (cat ss)) ∧ InB w w' from
          fun w1 hb => by
            have := joinTwo w w1 (cat (ss.take m)) (cat (ss.drop m)) (by rw [hp]; omega) hb
            rw [hp] at this
            exact this)
        have J5 := Lib.hid (show ∀ w1, InB w w1 → Calls Tryd.prog 26 #[.slice none 0 0] w1 fun e w' => e = .returned (.string ⟨#[]⟩) ∧ InB w w' from fun w1 hb => joinNil w w1 hb)
        have J6 := Lib.hid (show ∀ w1, InB w w1 → Calls Tryd.prog 11 #[] w1 fun e w' => e = .returned (.bool true) ∧ InB w w' from fun w1 hb => awakeB w T.out w1 hb)
        have hs0 := InB.start w
        clear hp hz1 hz2 hs2 hcs p0 HA ST HC HL HS T hcm hlc hl2 hlen c0 c1
        go_region_held3 (fun w' => InB w w') (first | assumption | exact InB.start w | (refine InB.alloc ?_ _; assumption))
          (first
            | (go_at_call_of 26 (Value.slice (some { block := b, off := o }) k cap); with_reducible refine (J1.out _ ?_).mono ?_; assumption; rintro e w' ⟨rfl, hb⟩)
            | (go_at_call_of 26 (Value.slice (some { block := b, off := o }) m cap); with_reducible refine (J2.out _ ?_).mono ?_; assumption; rintro e w' ⟨rfl, hb⟩)
            | (go_at_call_of 26 (Value.slice a2 (k - m) (cap - m)); with_reducible refine (J3.out _ ?_).mono ?_; assumption; rintro e w' ⟨rfl, hb⟩)
            | (go_at_call_of 26 (Value.slice none 0 0); with_reducible refine (J5.out _ ?_).mono ?_; assumption; rintro e w' ⟨rfl, hb⟩)
            | (go_at_call 26; with_reducible refine (J4.out _ ?_).mono ?_; assumption; rintro e w' ⟨rfl, hb⟩)
            | (go_at_call 11; with_reducible refine (J6.out _ ?_).mono ?_; assumption; rintro e w' ⟨rfl, hb⟩))
        go_wp2_with fail
        go_ret
        exact ⟨rfl, hb⟩

theorem slice_zero_h (a : Option Addr) (cap : Nat) : ∃ a1, ∀ w, (Instr.slice 49 (.slice a 0 cap) none (some (.int .i64 0)) none).run Tryd.prog w = .ok (.slice a1 0 cap) w :=
  ⟨if cap = 0 then a else a.map (·.add (0 * 1)), fun w => by
    rw [run_slice_h w 49 a 0 cap Tryd.underlying49 .i64 0 (by omega) (by omega), elem49, Tryd.sizeOf9 w]
    simp [Result.andThen, sliced]⟩
theorem slice_zero_l (a : Option Addr) (cap : Nat) : ∃ a1, ∀ w, (Instr.slice 49 (.slice a 0 cap) (some (.int .i64 0)) none none).run Tryd.prog w = .ok (.slice a1 0 cap) w :=
  ⟨if cap = 0 then a else a.map (·.add (0 * 1)), fun w => by
    rw [run_slice_l w 49 a 0 cap Tryd.underlying49 .i64 0 (by omega) (by omega), elem49, Tryd.sizeOf9 w]
    simp [Result.andThen, sliced]⟩
set_option maxHeartbeats 1000000 in
theorem textJoins_zero (a : Option Addr) (cap : Nat) (cut : Int) (w : World) (c0 : -9223372036854775808 ≤ cut) (c1 : cut ≤ 9223372036854775807) (htab : Lib.TabIs Tryd.prog w "internal/strconv.uint64pow10" .u64 Lib.pow10Tab) :
    Calls Tryd.prog 7 #[.slice a 0 cap, .int .i64 cut] w fun e w' => e = .returned (.bool true) ∧ Below w.heap.size w w' := by
  have T := Lib.hid htab
  clear htab
  go_enter Tryd.func7, Tryd.ntmps7
  go_wp2_with fail
  go_loop [5, 6] (fun s i => i = .int .i64 0 ∧ s = .string ⟨#[]⟩) (fun _ _ => 0)
  case atStart => exact ⟨rfl, rfl⟩
  case round =>
    obtain ⟨rfl, rfl⟩ := hrel
    go_wp2_with fail
    refine (pick_any cut _ _ c0 c1 (by omega) (by omega)).mono ?_
    rw [show cut % 1 = 0 from Int.emod_one cut]
    rintro e w' ⟨rfl, rfl⟩
    obtain ⟨a1, hsl1⟩ := slice_zero_h a cap
    obtain ⟨a2, hsl2⟩ := slice_zero_l a cap
    have JN := Lib.hid (show ∀ (a : Option Addr) (c : Nat) (w1 : World), InB w w1 → Calls Tryd.prog 26 #[.slice a 0 c] w1 fun e w' => e = .returned (.string ⟨#[]⟩) ∧ InB w w' from
      fun a c w1 hb => (join_none a c w1).mono fun _ _ ⟨he, hw⟩ => ⟨he, by rw [← hw]; exact hb⟩)
    have J4 := Lib.hid (show ∀ w1 : World, InB w (w1.alloc (.cells #[.string ⟨#[]⟩, .string ⟨#[]⟩] 9)) → Calls Tryd.prog 26 #[.slice (some ⟨w1.heap.size, 0, none⟩) 2 2] (w1.alloc (.cells #[.string ⟨#[]⟩, .string ⟨#[]⟩] 9)) fun e w' => e = .returned (.string ⟨#[]⟩) ∧ InB w w' from
      fun w1 hb => joinTwo w w1 ⟨#[]⟩ ⟨#[]⟩ (by decide) hb)
    have J6 := Lib.hid (show ∀ w1, InB w w1 → Calls Tryd.prog 11 #[] w1 fun e w' => e = .returned (.bool true) ∧ InB w w' from fun w1 hb => awakeB w T.out w1 hb)
    have hs0 := InB.start w
    clear T c0 c1
    go_wp2_with fail
    go_region_held3 (fun w' => InB w w') (first | assumption | exact InB.start w | (refine InB.alloc ?_ _; assumption))
      (first
        | (go_at_call 26; with_reducible refine (J4.out _ ?_).mono ?_; assumption; rintro e w' ⟨rfl, hb⟩)
        | (go_at_call 26; with_reducible refine (JN.out _ _ _ ?_).mono ?_; assumption; rintro e w' ⟨rfl, hb⟩)
        | (go_at_call 11; with_reducible refine (J6.out _ ?_).mono ?_; assumption; rintro e w' ⟨rfl, hb⟩))
    go_wp2_with fail
    go_ret
    exact ⟨rfl, hb⟩
theorem textJoins_any (a : Option Addr) (len cap : Nat) (ss : List ByteArray) (cut : Int) (w : World) (c0 : -9223372036854775808 ≤ cut) (c1 : cut ≤ 9223372036854775807) (hS : IsStrs w a len cap ss) (htab : Lib.TabIs Tryd.prog w "internal/strconv.uint64pow10" .u64 Lib.pow10Tab) :
    Calls Tryd.prog 7 #[.slice a len cap, .int .i64 cut] w fun e w' => e = .returned (.bool true) ∧ Below w.heap.size w w' := by
  by_cases h0 : len = 0
  · subst h0; exact textJoins_zero a cap cut w c0 c1 htab
  · have hS' := hS
    rcases hS.2.2.2.2 with h | ⟨b, o, rfl, _, _⟩
    · exact absurd h h0
    · exact textJoins_walk b o len cap ss cut w c0 c1 (by omega) hS' htab
end Go.Proofs.YtlmigpobillkoaaDoor
