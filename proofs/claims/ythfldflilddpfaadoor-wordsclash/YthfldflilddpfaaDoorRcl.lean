/-
  The reference's Clash, walked.
-/
import Derived.Test.YthfldflilddpfaaDoorCla
namespace Go.Proofs.YthfldflilddpfaaDoor
open Go.RowKit Go.Maps

theorem clash_ok (d : Int) (ss : List ByteArray) : ∀ x ∈ clash (wordsOf d) ss, x.size ≤ maxLen := fun x hx => words_ok d x (clash_mem _ _ x hx)

set_option maxHeartbeats 3200000 in
theorem refClash_any (d : Int) (a : Option Addr) (len cap : Nat) (ss : List ByteArray) (w : World) (hS : IsStrs w a len cap ss) (hl : len ≤ 61) :
    Calls Tryd.prog 21 #[.int .i64 d, .slice a len cap] w (ClashPost (wordsOf d) ss w) := by
  have HS := Lib.hid hS
  clear hS
  go_enter Tryd.func21, Tryd.ntmps21
  go_wp2_with fail
  go_loopw [5, 6] (fun v i wr => ∃ k : Nat, i = .int .i64 (k : Nat) ∧ k ≤ len ∧ OwnS w.heap.size wr v (clash (wordsOf d) (ss.take k)) ∧ Below w.heap.size w wr)
    (fun _ i _ => len - (intOf i).toNat)
  case atStart => exact ⟨0, rfl, Nat.zero_le _, OwnS.nil _ _, Below.refl _ _⟩
  case round =>
    obtain ⟨k, rfl, hk, hrow, hnx⟩ := hrel
    have HR := Lib.hid hrow
    have HB := Lib.hid hnx
    clear hnx
    by_cases hlt : k < len
    · obtain ⟨b, o, x, rfl, hx, hxs, hc⟩ := (HS.out.below HB.out).at hlt
      obtain ⟨a2, c2, hv, S2⟩ := hrow.strs (clash_ok d _)
      subst hv
      have HX := Lib.hid hx
      have H2 := Lib.hid S2
      have hcl : (clash (wordsOf d) (ss.take k)).length ≤ 61 := by
        have h1 := clash_len (wordsOf d) (ss.take k)
        have h2 : (ss.take k).length ≤ k := List.length_take_le _ _
        omega
      clear hx S2 hrow
      go_wp2_with fail
      refine (refIs_any d x _).mono ?_
      rintro e w5 ⟨rfl, b5⟩
      have HB2 := Lib.hid (HB.out.trans (b5.mono HB.out.size))
      have HR2 := Lib.hid (HR.out.below b5)
      have H3 := Lib.hid (H2.out.below b5)
      have hc5 : w5.cell? ⟨b, o + k, none⟩ = some (.string x) := by
        obtain ⟨b', o', x', e', hx', _, hc'⟩ := (HS.out.below HB2.out).at hlt
        cases e'
        rw [HX.out] at hx'
        cases hx'
        exact hc'
      have hq5 : w.heap.size ≤ w5.heap.size := HB2.out.size
      clear b5 HB HR H2 hc
      cases hb : isIn x (wordsOf d) with
      | false =>
        have HY := Lib.hid (clash_no (ws := wordsOf d) HX.out (by rw [hb]; rfl))
        clear hb
        go_wp2_with fail
        go_roundw
        case rel => exact ⟨k + 1, by go_num, by omega, by rw [HY.out]; exact HR2.out, HB2.out⟩
        case measure => simp [intOf]; omega
      | true =>
        go_wp2_with fail
        refine (among_any _ _ _ _ x _ H3.out).mono ?_
        rintro e w6 ⟨rfl, rfl⟩
        cases hb2 : isIn x (clash (wordsOf d) (ss.take k)) with
        | true =>
          have HY := Lib.hid (clash_no (ws := wordsOf d) HX.out (by rw [hb, hb2]; rfl))
          clear hb hb2
          go_wp2_with fail
          go_roundw
          case rel => exact ⟨k + 1, by go_num, by omega, by rw [HY.out]; exact HR2.out, HB2.out⟩
          case measure => simp [intOf]; omega
        | false =>
          have HY := Lib.hid (clash_yes (ws := wordsOf d) HX.out (by rw [hb, hb2]; rfl))
          clear hb hb2
          have HB3 := Lib.hid (HB2.out.alloc HB2.out.size (.cells (([x] : List ByteArray).map Value.string).toArray 9))
          have HR3 := Lib.hid (HR2.out.below ((Below.refl w6.heap.size w6).alloc (Nat.le_refl _) (.cells (([x] : List ByteArray).map Value.string).toArray 9)))
          have HLs := Lib.hid (lit_strs w6 [x] (by simp [maxLen]) (by simpa using hxs))
          go_wp2_with (first
            | (at_builtin
               refine wp_appS rfl (.tmp 28) (.tmp 33) rfl HR3.out (by simp; omega) HLs.out rfl rfl (by simp; omega) ?_
               intro v' w7 hown7 hgrow7
               have HR7 := Lib.hid hown7
               have HB7 := Lib.hid (HB3.out.grown hgrow7 (by simp; omega) (fun j hj => (HR3.out.lt j hj).1))
               clear hown7 hgrow7)
            | go_in)
          go_roundw
          case rel => exact ⟨k + 1, by go_num, by omega, by rw [HY.out]; exact HR7.out, HB7.out⟩
          case measure => simp [intOf]; omega
    · have hk2 : k = len := by omega
      subst hk2
      have HR2 := HR.out
      rw [List.take_of_length_le (by rw [HS.out.1]; omega)] at HR2
      have HR3 := Lib.hid HR2
      clear HR2 hrow
      go_wp2_with fail
      go_ret
      exact ⟨_, rfl, HR3.out, HB.out⟩
end Go.Proofs.YthfldflilddpfaaDoor
