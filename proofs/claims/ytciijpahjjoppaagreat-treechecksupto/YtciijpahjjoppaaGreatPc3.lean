/-
  Texts of this proof, put together.
-/
import Derived.Test.YtciijpahjjoppaaGreatPc2
import Derived.Test.YtciijpahjjoppaaGreatPc1
import Derived.Maps.Views
import Derived.Laws.Cover3
section
namespace Go.Proofs.YtciijpahjjoppaaGreat
open Go.RowKit Go.Deep Go.Maps

def okName (d : Int) (s : ByteArray) : Bool := decide (chk s = 0) && !isIn s (wordsOf d)
set_option maxRecDepth 100000 in
set_option maxHeartbeats 1000000 in
theorem cname_any (d ar : Int) (s : ByteArray) (w : World) (hs : s.size ≤ maxLen) : Calls Tryz.prog 67 #[.agg #[.int .i64 d, .int .i64 ar], .string s] w fun e w' => e = .returned (.bool (okName d s)) ∧ Below w.heap.size w w' := by
  have HC := Lib.hid (check_any s (w.alloc (.cells #[.int .i64 d, .int .i64 ar] 51)) hs)
  by_cases h0 : chk s = 0
  · have HO := Lib.hid (show okName d s = !isIn s (wordsOf d) by unfold okName; rw [h0]; simp)
    go_enter Tryz.func67, Tryz.ntmps67
    go_wp2_with fail
    refine HC.out.mono ?_
    rw [h0]
    rintro e w' ⟨rfl, rfl⟩
    go_wp2_with fail
    refine (is_any d s _).mono ?_
    rintro e w1 ⟨rfl, b1⟩
    have B1 := Lib.hid (((Below.refl w.heap.size w).alloc (Nat.le_refl _) (.cells #[.int .i64 d, .int .i64 ar] 51)).trans (b1.mono (by simp)))
    clear b1
    generalize hr : isIn s (wordsOf d) = r
    rw [hr] at HO
    go_wp2_with fail
    go_ret
    exact ⟨by rw [HO.out]; rfl, B1.out⟩
  · have HO := Lib.hid (show okName d s = false by unfold okName; simp [h0])
    have h1 : (((chk s : Nat) : Int) == 0) = false := by simpa using h0
    go_enter Tryz.func67, Tryz.ntmps67
    go_wp2_with fail
    refine HC.out.mono ?_
    rintro e w' ⟨rfl, rfl⟩
    go_wp2_with fail
    go_ret
    exact ⟨by rw [HO.out]; rfl, (Below.refl w.heap.size w).alloc (Nat.le_refl _) _⟩
theorem allNil_69 (f : Value) (w : World) : Calls Tryz.prog 69 #[.slice none 0 0, f] w fun e w' => e = .returned (.bool true) ∧ w = w' := by
  go_enter Tryz.func69, Tryz.ntmps69
  go_wp2_with fail
  go_loop [12] (fun i => i = .int .i64 0) (fun _ => 0)
  case atStart => rfl
  case round =>
    subst hrel
    go_wp2_with fail
    go_ret
    exact ⟨rfl, rfl⟩
theorem allNil_71 (f : Value) (w : World) : Calls Tryz.prog 71 #[.slice none 0 0, f] w fun e w' => e = .returned (.bool true) ∧ w = w' := by
  go_enter Tryz.func71, Tryz.ntmps71
  go_wp2_with fail
  go_loop [12] (fun i => i = .int .i64 0) (fun _ => 0)
  case atStart => rfl
  case round =>
    subst hrel
    go_wp2_with fail
    go_ret
    exact ⟨rfl, rfl⟩
theorem allNil_74 (f : Value) (w : World) : Calls Tryz.prog 74 #[.slice none 0 0, f] w fun e w' => e = .returned (.bool true) ∧ w = w' := by
  go_enter Tryz.func74, Tryz.ntmps74
  go_wp2_with fail
  go_loop [12] (fun i => i = .int .i64 0) (fun _ => 0)
  case atStart => rfl
  case round =>
    subst hrel
    go_wp2_with fail
    go_ret
    exact ⟨rfl, rfl⟩
theorem allNil_103 (f : Value) (w : World) : Calls Tryz.prog 103 #[.slice none 0 0, f] w fun e w' => e = .returned (.bool true) ∧ w = w' := by
  go_enter Tryz.func103, Tryz.ntmps103
  go_wp2_with fail
  go_loop [12] (fun i => i = .int .i64 0) (fun _ => 0)
  case atStart => rfl
  case round =>
    subst hrel
    go_wp2_with fail
    go_ret
    exact ⟨rfl, rfl⟩
theorem allNil_109 (f : Value) (w : World) : Calls Tryz.prog 109 #[.slice none 0 0, f] w fun e w' => e = .returned (.bool true) ∧ w = w' := by
  go_enter Tryz.func109, Tryz.ntmps109
  go_wp2_with fail
  go_loop [12] (fun i => i = .int .i64 0) (fun _ => 0)
  case atStart => rfl
  case round =>
    subst hrel
    go_wp2_with fail
    go_ret
    exact ⟨rfl, rfl⟩
theorem ownNil (w : World) : Calls Tryz.prog 111 #[.slice none 0 0] w fun e w' => e = .returned (.bool true) ∧ Below w.heap.size w w' := by
  have hmm := @run_makeMap Tryz.prog
  go_enter Tryz.func111, Tryz.ntmps111
  go_wp2_with fail
  go_loopw [9] (fun i wr => i = .int .i64 0 ∧ SetAt wr w.heap.size 0 (setD []) ∧ Below w.heap.size w wr) (fun _ _ => 0)
  case atStart => exact ⟨rfl, World.ownsMap_made _ _ _ _, (Below.refl _ _).alloc (Nat.le_refl _) _⟩
  case round =>
    obtain ⟨rfl, hO, hB⟩ := hrel
    have HO := Lib.hid hO
    have HB := Lib.hid hB
    clear hO hB
    go_wp2_with (first | (at_len; refine wpList_len_own _ rfl _ 92 rfl 9 93 under92 _ w.heap.size 0 (setD []) rfl HO.out ?_))
    go_ret
    exact ⟨rfl, HB.out⟩
set_option maxRecDepth 100000 in
set_option maxHeartbeats 1000000 in
theorem routinesNil (d ar : Int) (w : World) : Calls Tryz.prog 73 #[.agg #[.int .i64 d, .int .i64 ar], .slice none 0 0] w fun e w' => e = .returned (.bool true) ∧ Below w.heap.size w w' := by
  go_enter Tryz.func73, Tryz.ntmps73
  go_wp2_with fail
  refine (allNil_109 _ _).mono ?_
  rintro e w1 ⟨rfl, rfl⟩
  go_wp2_with fail
  refine (ownNil _).mono ?_
  rintro e w2 ⟨rfl, b2⟩
  have B2 := Lib.hid (((Below.refl w.heap.size w).alloc (Nat.le_refl _) (.cells #[.int .i64 d, .int .i64 ar] 51)).trans (b2.mono (by simp)))
  clear b2
  go_wp2_with fail
  go_ret
  exact ⟨rfl, B2.out⟩
set_option maxRecDepth 100000 in
set_option maxHeartbeats 1000000 in
theorem notesNil (d ar : Int) (b : Nat) (w : World) (hb : b < w.heap.size) (hc : ∀ j, j < 4 → w.cell? ⟨b, j, none⟩ = some (.slice none 0 0)) : Calls Tryz.prog 68 #[.agg #[.int .i64 d, .int .i64 ar], .slice (some ⟨b, 0, none⟩) 4 4] w fun e w' => e = .returned (.bool true) ∧ Below w.heap.size w w' := by
  have HC := Lib.hid hc
  clear hc
  go_enter Tryz.func68, Tryz.ntmps68
  go_wp2_with fail
  go_loopw [9] (fun i wr => ∃ k : Nat, k ≤ 4 ∧ i = .int .i64 k ∧ wr.heap[w.heap.size]? = some (.cells #[.int .i64 d, .int .i64 ar] 51) ∧ Below w.heap.size w wr) (fun i _ => 4 - (intOf i).toNat)
  case atStart => exact ⟨0, by omega, rfl, heap_new _ _, (Below.refl _ _).alloc (Nat.le_refl _) _⟩
  case round =>
    obtain ⟨k, hk, rfl, hbx, hB⟩ := hrel
    have HB := Lib.hid hB
    have HX := Lib.hid hbx
    have cx := box_cells hbx
    clear hB hbx
    by_cases hlt : k < 4
    · have ck : wr.cell? ⟨b, k, none⟩ = some (.slice none 0 0) := (HB.out.cell (p := ⟨b, k, none⟩) hb).trans (HC.out k hlt)
      go_wp2_with fail
      refine (allNil_103 _ _).mono ?_
      rintro e w1 ⟨rfl, rfl⟩
      go_wp2_with fail
      go_roundw
      case rel => exact ⟨k + 1, by omega, by go_num, HX.out, HB.out⟩
      case measure => simp [intOf]; omega
    · obtain rfl : k = 4 := by omega
      go_wp2_with fail
      go_ret
      exact ⟨rfl, HB.out⟩
set_option maxRecDepth 100000 in
set_option maxHeartbeats 2000000 in
theorem programEmp (d ar : Int) (nm : ByteArray) (w : World) (hn : nm.size ≤ maxLen) : Calls Tryz.prog 28 #[.agg #[.int .i64 d, .int .i64 ar], .agg #[.string nm, .slice none 0 0, .slice none 0 0, .slice none 0 0, .slice none 0 0, .slice none 0 0, .slice none 0 0, .slice none 0 0, .slice none 0 0]] w fun e w' => e = .returned (.bool (okName d nm)) ∧ Below w.heap.size w w' := by
  have HN := Lib.hid hn
  clear hn
  have R0 := Lib.hid (((Below.refl w.heap.size w).alloc (Nat.le_refl _) (.cells #[.int .i64 d, .int .i64 ar] 51)).alloc (by simp) (.cells #[.string nm, .slice none 0 0, .slice none 0 0, .slice none 0 0, .slice none 0 0, .slice none 0 0, .slice none 0 0, .slice none 0 0, .slice none 0 0] 35))
  have KA0 := Lib.hid (box_first w (.cells #[.int .i64 d, .int .i64 ar] 51) (.cells #[.string nm, .slice none 0 0, .slice none 0 0, .slice none 0 0, .slice none 0 0, .slice none 0 0, .slice none 0 0, .slice none 0 0, .slice none 0 0] 35))
  have KB0 := Lib.hid (box_second w (.cells #[.int .i64 d, .int .i64 ar] 51) (.cells #[.string nm, .slice none 0 0, .slice none 0 0, .slice none 0 0, .slice none 0 0, .slice none 0 0, .slice none 0 0, .slice none 0 0, .slice none 0 0] 35))
  go_enter Tryz.func28, Tryz.ntmps28
  go_wp2_with fail
  refine (cname_any d ar nm _ HN.out).mono ?_
  rintro e w1 ⟨rfl, b1⟩
  have R1 := Lib.hid (R0.out.trans (b1.mono R0.out.size))
  have KA1 := Lib.hid ((b1.block _ (heap_lt KA0.out)).trans KA0.out)
  have KB1 := Lib.hid ((b1.block _ (heap_lt KB0.out)).trans KB0.out)
  have cA1 := box_cells KA1.out
  have cB1 := box_cells KB1.out
  clear b1
  cases hok : okName d nm with
  | false =>
    go_wp2_with fail
    go_ret
    exact ⟨by first | rfl | (rw [hok]; rfl), R1.out⟩
  | true =>
    go_wp2_with fail
    have A2 := (Below.refl w1.heap.size w1).alloc (Nat.le_refl _) (.cells #[.slice none 0 0, .slice none 0 0, .slice none 0 0, .slice none 0 0] 29)
    refine (notesNil d ar w1.heap.size _ (by simp) (fun j hj => by
      rw [box_cells (heap_new w1 _)]
      match j, hj with
      | 0, _ => rfl
      | 1, _ => rfl
      | 2, _ => rfl
      | 3, _ => rfl)).mono ?_
    rintro e w2 ⟨rfl, b2⟩
    have b2' := A2.trans (b2.mono A2.size)
    have R2 := Lib.hid (R1.out.trans (b2'.mono R1.out.size))
    have KA2 := Lib.hid ((b2'.block _ (heap_lt KA1.out)).trans KA1.out)
    have KB2 := Lib.hid ((b2'.block _ (heap_lt KB1.out)).trans KB1.out)
    have cA2 := box_cells KA2.out
    have cB2 := box_cells KB2.out
    clear b2 b2' A2 cA1 cB1
    go_wp2_with fail
    refine (allNil_69 _ _).mono ?_
    rintro e w3 ⟨rfl, rfl⟩
    go_wp2_with fail
    refine (allNil_71 _ _).mono ?_
    rintro e w3 ⟨rfl, rfl⟩
    go_wp2_with fail
    refine (routinesNil d ar _).mono ?_
    rintro e w3 ⟨rfl, b3⟩
    have R3 := Lib.hid (R2.out.trans (b3.mono R2.out.size))
    have KA3 := Lib.hid ((b3.block _ (heap_lt KA2.out)).trans KA2.out)
    have KB3 := Lib.hid ((b3.block _ (heap_lt KB2.out)).trans KB2.out)
    have cA3 := box_cells KA3.out
    have cB3 := box_cells KB3.out
    clear b3 cA2 cB2
    go_wp2_with fail
    refine (allNil_74 _ _).mono ?_
    rintro e w4 ⟨rfl, rfl⟩
    go_wp2_with fail
    go_ret
    exact ⟨by first | rfl | (rw [hok]; rfl), R3.out⟩
theorem told_yes (w : World) : Calls Tryz.prog 23 #[.bool true] w fun e w' => e = .returned (.int .i64 0) ∧ w = w' := by
  go_enter Tryz.func23, Tryz.ntmps23
  go_wp2_with fail
  go_ret
  exact ⟨rfl, rfl⟩
theorem told_no (w : World) : Calls Tryz.prog 23 #[.bool false] w fun e w' => e = .returned (.int .i64 1) ∧ w = w' := by
  go_enter Tryz.func23, Tryz.ntmps23
  go_wp2_with fail
  go_ret
  exact ⟨rfl, rfl⟩
def knows (d : Int) : Bool := d == 0 || d == 1
theorem knows_any (d ar : Int) (w : World) : Calls Tryz.prog 24 #[.agg #[.int .i64 d, .int .i64 ar]] w fun e w' => e = .returned (.bool (knows d)) ∧ w' = w.alloc (.cells #[.int .i64 d, .int .i64 ar] 51) := by
  unfold knows
  cases h0 : d == 0 with
  | true =>
    go_enter Tryz.func24, Tryz.ntmps24
    go_wp2_with fail
    go_ret
    exact ⟨rfl, rfl⟩
  | false =>
    cases h1 : d == 1 <;>
    · go_enter Tryz.func24, Tryz.ntmps24
      go_wp2_with fail
      go_ret
      exact ⟨rfl, rfl⟩
set_option maxRecDepth 100000 in
set_option maxHeartbeats 2000000 in
theorem checkEmp_yes (nm : ByteArray) (w : World) (hn : nm.size ≤ maxLen) (hok : okName 0 nm = true) : Calls Tryz.prog 12 #[.int .i64 0, .agg #[.string nm, .slice none 0 0, .slice none 0 0, .slice none 0 0, .slice none 0 0, .slice none 0 0, .slice none 0 0, .slice none 0 0, .slice none 0 0]] w fun e w' => e = .returned (.int .i64 0) ∧ Below w.heap.size w w' := by
  have HN := Lib.hid hn
  have HOK := Lib.hid hok
  clear hn hok
  have R0 := Lib.hid (((Below.refl w.heap.size w).alloc (Nat.le_refl _) (.cells #[.string nm, .slice none 0 0, .slice none 0 0, .slice none 0 0, .slice none 0 0, .slice none 0 0, .slice none 0 0, .slice none 0 0, .slice none 0 0] 35)).alloc (by simp) (.cells #[.int .i64 0, .int .i64 0] 51))
  have KA0 := Lib.hid (box_first w (.cells #[.string nm, .slice none 0 0, .slice none 0 0, .slice none 0 0, .slice none 0 0, .slice none 0 0, .slice none 0 0, .slice none 0 0, .slice none 0 0] 35) (.cells #[.int .i64 0, .int .i64 0] 51))
  have KB0 := Lib.hid (box_second w (.cells #[.string nm, .slice none 0 0, .slice none 0 0, .slice none 0 0, .slice none 0 0, .slice none 0 0, .slice none 0 0, .slice none 0 0, .slice none 0 0] 35) (.cells #[.int .i64 0, .int .i64 0] 51))
  go_enter Tryz.func12, Tryz.ntmps12
  go_wp2_with fail
  refine (knows_any 0 0 _).mono ?_
  rintro e w1 ⟨rfl, hw1⟩
  have b1 : Below ((w.alloc (.cells #[.string nm, .slice none 0 0, .slice none 0 0, .slice none 0 0, .slice none 0 0, .slice none 0 0, .slice none 0 0, .slice none 0 0, .slice none 0 0] 35)).alloc (.cells #[.int .i64 0, .int .i64 0] 51)).heap.size ((w.alloc (.cells #[.string nm, .slice none 0 0, .slice none 0 0, .slice none 0 0, .slice none 0 0, .slice none 0 0, .slice none 0 0, .slice none 0 0, .slice none 0 0] 35)).alloc (.cells #[.int .i64 0, .int .i64 0] 51)) w1 := by rw [hw1]; exact (Below.refl _ _).alloc (Nat.le_refl _) _
  have R1 := Lib.hid (R0.out.trans (b1.mono R0.out.size))
  have KA1 := Lib.hid ((b1.block _ (heap_lt KA0.out)).trans KA0.out)
  have KB1 := Lib.hid ((b1.block _ (heap_lt KB0.out)).trans KB0.out)
  have cA1 := box_cells KA1.out
  have cB1 := box_cells KB1.out
  have hk : knows 0 = true := rfl
  rw [hk]
  clear b1 hw1
  go_wp2_with fail
  refine (programEmp 0 0 nm _ HN.out).mono ?_
  rw [HOK.out]
  rintro e w2 ⟨rfl, b2⟩
  have R2 := Lib.hid (R1.out.trans (b2.mono R1.out.size))
  clear b2 cA1 cB1
  go_wp2_with fail
  refine (told_yes _).mono ?_
  rintro e w3 ⟨rfl, rfl⟩
  go_wp2_with fail
  go_ret
  exact ⟨rfl, R2.out⟩
set_option maxRecDepth 100000 in
set_option maxHeartbeats 2000000 in
theorem checkEmp_no (nm : ByteArray) (w : World) (hn : nm.size ≤ maxLen) (hok : okName 0 nm = false) : Calls Tryz.prog 12 #[.int .i64 0, .agg #[.string nm, .slice none 0 0, .slice none 0 0, .slice none 0 0, .slice none 0 0, .slice none 0 0, .slice none 0 0, .slice none 0 0, .slice none 0 0]] w fun e w' => e = .returned (.int .i64 1) ∧ Below w.heap.size w w' := by
  have HN := Lib.hid hn
  have HOK := Lib.hid hok
  clear hn hok
  have R0 := Lib.hid (((Below.refl w.heap.size w).alloc (Nat.le_refl _) (.cells #[.string nm, .slice none 0 0, .slice none 0 0, .slice none 0 0, .slice none 0 0, .slice none 0 0, .slice none 0 0, .slice none 0 0, .slice none 0 0] 35)).alloc (by simp) (.cells #[.int .i64 0, .int .i64 0] 51))
  have KA0 := Lib.hid (box_first w (.cells #[.string nm, .slice none 0 0, .slice none 0 0, .slice none 0 0, .slice none 0 0, .slice none 0 0, .slice none 0 0, .slice none 0 0, .slice none 0 0] 35) (.cells #[.int .i64 0, .int .i64 0] 51))
  have KB0 := Lib.hid (box_second w (.cells #[.string nm, .slice none 0 0, .slice none 0 0, .slice none 0 0, .slice none 0 0, .slice none 0 0, .slice none 0 0, .slice none 0 0, .slice none 0 0] 35) (.cells #[.int .i64 0, .int .i64 0] 51))
  go_enter Tryz.func12, Tryz.ntmps12
  go_wp2_with fail
  refine (knows_any 0 0 _).mono ?_
  rintro e w1 ⟨rfl, hw1⟩
  have b1 : Below ((w.alloc (.cells #[.string nm, .slice none 0 0, .slice none 0 0, .slice none 0 0, .slice none 0 0, .slice none 0 0, .slice none 0 0, .slice none 0 0, .slice none 0 0] 35)).alloc (.cells #[.int .i64 0, .int .i64 0] 51)).heap.size ((w.alloc (.cells #[.string nm, .slice none 0 0, .slice none 0 0, .slice none 0 0, .slice none 0 0, .slice none 0 0, .slice none 0 0, .slice none 0 0, .slice none 0 0] 35)).alloc (.cells #[.int .i64 0, .int .i64 0] 51)) w1 := by rw [hw1]; exact (Below.refl _ _).alloc (Nat.le_refl _) _
  have R1 := Lib.hid (R0.out.trans (b1.mono R0.out.size))
  have KA1 := Lib.hid ((b1.block _ (heap_lt KA0.out)).trans KA0.out)
  have KB1 := Lib.hid ((b1.block _ (heap_lt KB0.out)).trans KB0.out)
  have cA1 := box_cells KA1.out
  have cB1 := box_cells KB1.out
  have hk : knows 0 = true := rfl
  rw [hk]
  clear b1 hw1
  go_wp2_with fail
  refine (programEmp 0 0 nm _ HN.out).mono ?_
  rw [HOK.out]
  rintro e w2 ⟨rfl, b2⟩
  have R2 := Lib.hid (R1.out.trans (b2.mono R1.out.size))
  clear b2 cA1 cB1
  go_wp2_with fail
  refine (told_no _).mono ?_
  rintro e w3 ⟨rfl, rfl⟩
  go_wp2_with fail
  go_ret
  exact ⟨rfl, R2.out⟩
end Go.Proofs.YtciijpahjjoppaaGreat
end
section
namespace Go.Proofs.YtciijpahjjoppaaGreat
open Go.RowKit Go.Deep
/-- A function that says of the elements of a row whether they are right. -/
def OkFn (w0 : World) (g : Nat) (c : Value) (l : List (List D)) (f : List D → Bool) : Prop := ∀ x ∈ l, ∀ vs, AllAt w0 vs x → ∀ W, Below w0.heap.size w0 W → Calls Tryz.prog g #[c, .agg ⟨vs⟩] W fun e W' => e = .returned (.bool (f x)) ∧ Below W.heap.size W W'
def okAll (l : List (List D)) (f : List D → Bool) : Bool := decide (l.length ≤ 512) && l.all f
theorem okAll_long {l : List (List D)} {f : List D → Bool} (h : 512 < l.length) : okAll l f = false := by
  unfold okAll
  rw [decide_eq_false (by omega)]
  rfl
theorem okAll_bad {l : List (List D)} {f : List D → Bool} {k : Nat} {x : List D} (hx : l[k]? = some x) (h : f x = false) : okAll l f = false := by
  unfold okAll
  have : l.all f = false := by
    rw [List.all_eq_false]
    exact ⟨x, List.mem_of_getElem? hx, by simp [h]⟩
  rw [this, Bool.and_false]
theorem okAll_good {l : List (List D)} {f : List D → Bool} (hl : l.length ≤ 512) (h : (l.take l.length).all f = true) : okAll l f = true := by
  rw [List.take_length] at h
  unfold okAll
  rw [h, decide_eq_true hl]
  rfl
theorem all_take_succ {l : List (List D)} {f : List D → Bool} {k : Nat} {x : List D} (hx : l[k]? = some x) (h : (l.take k).all f = true) (hf : f x = true) : (l.take (k + 1)).all f = true := by
  rw [List.take_add_one, hx, List.all_append, h]
  simpa using hf
end Go.Proofs.YtciijpahjjoppaaGreat
end
section
namespace Go.Proofs.YtciijpahjjoppaaGreat
open Go.RowKit Go.Shelf Go.Deep Go.Maps

def ixOf (ps : List (ByteArray × ByteArray)) (x : ByteArray) : Option Nat := ps.findIdx? fun p => p.1.toList == x.toList
def FirstD (D : DataW Unit) (ps : List (ByteArray × ByteArray)) : Prop := IsMap D ∧ ∀ x, (∀ i, ixOf ps x = some i → has D (keyL x) = true ∧ ∀ z, D.atKey (keyL x) z = .lit (.int .i64 i)) ∧ (ixOf ps x = none → has D (keyL x) = false)
theorem keyL_lit (x : ByteArray) : WideAt.IsKeyLit (keyL x) := trivial
theorem firstD_nil : FirstD (.map []) [] := ⟨⟨_, rfl⟩, fun _ => ⟨fun i h => by simp [ixOf] at h, fun _ => rfl⟩⟩
theorem ixOf_snoc (ps : List (ByteArray × ByteArray)) (o n x : ByteArray) : ixOf (ps ++ [(o, n)]) x = (ixOf ps x).or (if o.toList == x.toList then some ps.length else none) := by
  unfold ixOf
  rw [List.findIdx?_append]
  congr 1
  cases h : o.toList == x.toList <;> simp [h, List.findIdx?_cons]
theorem firstD_old {D : DataW Unit} {ps : List (ByteArray × ByteArray)} (h : FirstD D ps) {o : ByteArray} (n : ByteArray) (ho : has D (keyL o) = true) : FirstD D (ps ++ [(o, n)]) := by
  refine ⟨h.1, fun x => ?_⟩
  rw [ixOf_snoc]
  cases hx : ixOf ps x with
  | some j => exact ⟨fun i hi => by simp at hi; subst hi; exact ((h.2 x).1 j hx), fun hn => by simp at hn⟩
  | none =>
    have hf := (h.2 x).2 hx
    have hne : (o.toList == x.toList) = false := by
      cases e : o.toList == x.toList with
      | false => rfl
      | true =>
        rw [(beq_iff o x).1 e, hf] at ho
        cases ho
    rw [hne]
    exact ⟨fun i hi => by simp at hi, fun _ => hf⟩
theorem firstD_new {D : DataW Unit} {ps : List (ByteArray × ByteArray)} (h : FirstD D ps) {o : ByteArray} (n : ByteArray) (ho : has D (keyL o) = false) : FirstD (D.put (keyL o) (.lit (.int .i64 ps.length))) (ps ++ [(o, n)]) := by
  refine ⟨h.1.put _ _, fun x => ?_⟩
  rw [ixOf_snoc]
  by_cases e : o = x
  · subst e
    have hx : ixOf ps o = none := by
      cases hx : ixOf ps o with
      | none => rfl
      | some j => rw [((h.2 o).1 j hx).1] at ho; cases ho
    rw [hx]
    refine ⟨fun i hi => ?_, fun hn => by simp at hn⟩
    simp at hi
    subst hi
    exact ⟨has_put_same h.1 (keyL_lit _) _, fun z => atKey_put_same h.1 (keyL_lit _) _ z⟩
  · have hne : (o.toList == x.toList) = false := by
      cases e' : o.toList == x.toList with
      | false => rfl
      | true => exact absurd ((beq_iff o x).1 e') e
    have hk : keyL x ≠ keyL o := fun e' => e (keyL_inj e').symm
    rw [hne]
    refine ⟨fun i hi => ?_, fun hn => ?_⟩
    · have hi' : ixOf ps x = some i := by simpa using hi
      obtain ⟨h1, h2⟩ := (h.2 x).1 i hi'
      exact ⟨by rw [has_put_other hk]; exact h1, fun z => by rw [atKey_put_other hk]; exact h2 z⟩
    · rw [has_put_other hk]
      exact (h.2 x).2 (by simpa using hn)
theorem wf_k (k : Nat) (h : k ≤ 9223372036854775807) : (Lit.int .i64 (k : Nat)).wf = true := by
  rw [show Lit.wf (.int .i64 (k : Nat)) = (decide ((-9223372036854775808 : Int) ≤ (k : Nat)) && decide (((k : Nat) : Int) ≤ 9223372036854775807)) from rfl]
  simp
  omega
/-- A row of pairs. -/
def PairsAt (w : World) (a : Option Addr) (len cap : Nat) (ps : List (ByteArray × ByteArray)) : Prop :=
  ps.length = len ∧ len ≤ cap ∧ cap ≤ maxLen ∧ (∀ p ∈ ps, p.1.size ≤ lim ∧ p.2.size ≤ lim) ∧ (len = 0 ∨ ∃ b o, a = some ⟨b, o, none⟩ ∧ b < w.heap.size ∧ ∀ (j : Nat) p, ps[j]? = some p → w.cell? ⟨b, o + j * 2, none⟩ = some (.string p.1) ∧ w.cell? ⟨b, o + j * 2 + 1, none⟩ = some (.string p.2))
theorem PairsAt.kept {w w' : World} {a : Option Addr} {len cap : Nat} {ps : List (ByteArray × ByteArray)} (h : PairsAt w a len cap ps) (hs : w.heap.size ≤ w'.heap.size) (hb : ∀ b, b < w.heap.size → w'.heap[b]? = w.heap[b]?) : PairsAt w' a len cap ps := by
  obtain ⟨h1, h2, h3, h4, h5⟩ := h
  refine ⟨h1, h2, h3, h4, ?_⟩
  rcases h5 with h5 | ⟨b, o, e, hl, hc⟩
  · exact .inl h5
  · exact .inr ⟨b, o, e, by omega, fun j p hp => ⟨(cell_eq (hb b hl)).trans (hc j p hp).1, (cell_eq (hb b hl)).trans (hc j p hp).2⟩⟩
theorem PairsAt.at {w : World} {a : Option Addr} {len cap : Nat} {ps : List (ByteArray × ByteArray)} (h : PairsAt w a len cap ps) {k : Nat} (hk : k < len) :
    ∃ b o p, a = some ⟨b, o, none⟩ ∧ b < w.heap.size ∧ ps[k]? = some p ∧ p.1.size ≤ lim ∧ p.2.size ≤ lim ∧ w.cell? ⟨b, o + k * 2, none⟩ = some (.string p.1) ∧ w.cell? ⟨b, o + k * 2 + 1, none⟩ = some (.string p.2) := by
  obtain ⟨p, hp⟩ : ∃ p, ps[k]? = some p := ⟨ps[k]'(by rw [h.1]; exact hk), List.getElem?_eq_getElem _⟩
  rcases h.2.2.2.2 with h0 | ⟨b, o, rfl, hb, hc⟩
  · omega
  · exact ⟨b, o, p, rfl, hb, hp, (h.2.2.2.1 p (List.mem_of_getElem? hp)).1, (h.2.2.2.1 p (List.mem_of_getElem? hp)).2, hc k p hp⟩
theorem under106 : Tryz.prog.underlying 106 = some (.map 9 3) := by kernel_rfl
theorem zero3 (w : World) : (zeroValue 3).run Tryz.prog w = .ok (.int .i64 0) w := by kernel_rfl
abbrev MapAt (w : World) (B n : Nat) (D : DataW Unit) : Prop := w.ownsMap Tryz.prog 9 (plainElem Tryz.prog 3) B n D

set_option maxRecDepth 100000 in
set_option maxHeartbeats 2000000 in
theorem firstOf_any (a : Option Addr) (len cap : Nat) (ps : List (ByteArray × ByteArray)) (w : World) (hP : PairsAt w a len cap ps) :
    Calls Tryz.prog 58 #[.slice a len cap] w fun e w' => e = .returned (.map (some w.heap.size)) ∧ (∃ D n, MapAt w' w.heap.size n D ∧ FirstD D ps) ∧ Below w.heap.size w w' := by
  have hmm := @run_makeMap Tryz.prog
  have hlc := hP.2.1
  have hcm := hP.2.2.1
  have HL := Lib.hid hP.1
  have HP := Lib.hid hP
  unfold maxLen at hcm
  clear hP
  go_enter Tryz.func58, Tryz.ntmps58
  go_wp2_with fail
  go_loopw [11] (fun i wr => ∃ k : Nat, k ≤ len ∧ i = .int .i64 k ∧ (∃ D n, n ≤ k ∧ MapAt wr w.heap.size n D ∧ FirstD D (ps.take k)) ∧ Below w.heap.size w wr) (fun i _ => len - (intOf i).toNat)
  case atStart => exact ⟨0, Nat.zero_le _, rfl, ⟨.map [], 0, Nat.le_refl _, World.ownsMap_made _ _ _ _, firstD_nil⟩, (Below.refl _ _).alloc (Nat.le_refl _) _⟩
  case round =>
    obtain ⟨k, hk, rfl, ⟨D, n, hn, hM, hF⟩, hB⟩ := hrel
    have HM := Lib.hid hM
    have HF := Lib.hid hF
    have HB := Lib.hid hB
    clear hM hF hB
    by_cases hlt : k < len
    · obtain ⟨b, o, p, rfl, hb, hp, hp1, hp2, c0, c1⟩ := HP.out.at hlt
      rw [← HB.out.cell (p := ⟨b, o + k * 2, none⟩) hb] at c0
      rw [← HB.out.cell (p := ⟨b, o + k * 2 + 1, none⟩) hb] at c1
      have HPK := Lib.hid hp
      have HTK := Lib.hid (show ps.take (k + 1) = ps.take k ++ [(p.1, p.2)] by rw [List.take_add_one, hp]; rfl)
      have HLK := Lib.hid (show (ps.take k).length = k by rw [List.length_take, HL.out]; omega)
      have HKEY := Lib.hid (key9 (s := p.1) (Nat.le_trans hp1 (by decide)))
      have hm1 := Lib.hid (HM.out.alloc (.cells #[.string p.1, .string p.2] 47))
      have B1 := Lib.hid (HB.out.trans (((Below.refl wr.heap.size wr).alloc (Nat.le_refl _) (.cells #[.string p.1, .string p.2] 47)).mono HB.out.size))
      have HWF := Lib.hid (show (Lit.int .i64 (k : Nat)).wf = true from wf_k k (by omega))
      clear hp
      cases hh : has D (keyL p.1) with
      | true =>
        have HH := Lib.hid hh
        clear hh
        go_wp2_with (first
          | (at_lookup; refine wpList_lookup_own_ok_int _ rfl _ _ 106 rfl 9 3 .i64 law9 under106 Tryz.underlying3 (zero3 _) w.heap.size n D rfl hm1.out _ _ rfl HKEY.out ?_; intro c hat hwc; rw [HH.out]; clear hat hwc))
        go_roundw
        case rel => exact ⟨k + 1, by omega, by go_num, ⟨D, n, by omega, hm1.out, by rw [HTK.out]; exact firstD_old HF.out _ HH.out⟩, B1.out⟩
        case measure => simp [intOf]; omega
      | false =>
        have HH := Lib.hid hh
        clear hh
        go_wp2_with (first
          | (at_lookup; refine wpList_lookup_own_ok_int _ rfl _ _ 106 rfl 9 3 .i64 law9 under106 Tryz.underlying3 (zero3 _) w.heap.size n D rfl hm1.out _ _ rfl HKEY.out ?_; intro c hat hwc; rw [HH.out]; clear hat hwc)
          | (at_mapUpdate; refine wpList_mapUpdate_own _ rfl _ _ _ 106 rfl 9 3 law9 under106 (plainElem Tryz.prog 3) w.heap.size _ _ rfl hm1.out (by unfold maxLen; omega) _ _ _ rfl rfl HKEY.out _ [] (plainElem_int Tryz.underlying3 (HWF.out)) ?_; intro w1 hown1 hgrow1))
        have HO1 := Lib.hid hown1
        have HB3 := Lib.hid (B1.out.grown hgrow1 B1.out.size (fun j hj => by cases hj; exact Nat.le_refl _))
        clear hown1 hgrow1
        go_roundw
        case rel => exact ⟨k + 1, by omega, by go_num, ⟨_, n + 1, by omega, HO1.out, by rw [HTK.out]; have := firstD_new HF.out p.2 HH.out; rw [HLK.out] at this; exact this⟩, HB3.out⟩
        case measure => simp [intOf]; omega
    · obtain rfl : k = len := by omega
      have HE := Lib.hid (show FirstD D ps by have := HF.out; rw [List.take_of_length_le (by rw [HL.out]; omega)] at this; exact this)
      go_wp2_with fail
      go_ret
      exact ⟨rfl, ⟨D, n, HM.out, HE.out⟩, HB.out⟩
end Go.Proofs.YtciijpahjjoppaaGreat
end
section
namespace Go.Proofs.YtciijpahjjoppaaGreat
open Go.RowKit Go.Shelf Go.Deep Go.Maps

structure RenB where
  B1 : Nat
  Bm : Nat
  Bf : Nat
  low : Nat
  hi : Nat
  a : Option Addr
  len : Nat
  cap : Nat
  ps : List (ByteArray × ByteArray)
structure RenI (r : RenB) (w : World) : Prop where
  o1 : r.low ≤ r.B1 ∧ r.B1 < r.hi
  om : r.low ≤ r.Bm ∧ r.Bm < r.hi
  of : r.low ≤ r.Bf ∧ r.Bf < r.hi
  sz : r.hi ≤ w.heap.size
  b1 : Boxed w r.B1 44 (.slice r.a r.len r.cap)
  bf : Boxed w r.Bf 106 (.map (some r.Bm))
  map : ∃ D k, MapAt w r.Bm k D ∧ FirstD D r.ps
  row : PairsAt w r.a r.len r.cap r.ps
  rlow : ∀ b o, r.a = some ⟨b, o, none⟩ → 0 < r.len → b < r.low
def RenO (r : RenB) (_ : World) (b : Nat) : Prop := b = r.B1 ∨ b = r.Bm ∨ b = r.Bf
def renOf (ps : List (ByteArray × ByteArray)) (x : ByteArray) : ByteArray := match ixOf ps x with
  | some i => (ps.getD i (x, x)).2
  | none => x
theorem RenI.keep {r : RenB} {w w' : World} (h : RenI r w) (hs : w.heap.size ≤ w'.heap.size) (hl : ∀ b, b < r.low → w'.heap[b]? = w.heap[b]?) (ho : ∀ b, RenO r w b → w'.heap[b]? = w.heap[b]?) : RenI r w' := by
  obtain ⟨D, k, h1, h2⟩ := h.map
  refine ⟨h.o1, h.om, h.of, Nat.le_trans h.sz hs, (ho _ (.inl rfl)).trans h.b1, (ho _ (.inr (.inr rfl))).trans h.bf, ⟨D, k, ownsMap_same h1 (ho _ (.inr (.inl rfl))), h2⟩, ?_, h.rlow⟩
  obtain ⟨g1, g2, g3, g4, g5⟩ := h.row
  refine ⟨g1, g2, g3, g4, ?_⟩
  rcases g5 with g5 | ⟨b, o, e, hb, hc⟩
  · exact .inl g5
  · rcases Nat.eq_zero_or_pos r.len with h0 | h0
    · exact .inl h0
    · have hbl := hl b (h.rlow b o e h0)
      exact .inr ⟨b, o, e, by omega, fun j p hp => ⟨(cell_eq hbl).trans (hc j p hp).1, (cell_eq hbl).trans (hc j p hp).2⟩⟩
theorem ixOf_lt {ps : List (ByteArray × ByteArray)} {x : ByteArray} {i : Nat} (h : ixOf ps x = some i) : i < ps.length := by
  unfold ixOf at h
  exact (List.findIdx?_eq_some_iff_findIdx_eq.1 h).1

set_option maxRecDepth 100000 in
set_option maxHeartbeats 2000000 in
theorem rename1_any (r : RenB) (w : World) (x : ByteArray) (h : RenI r w) (hx : x.size ≤ lim) :
    Calls Tryz.prog 59 #[.string x, .pointer (some ⟨r.Bf, 0, none⟩), .pointer (some ⟨r.B1, 0, none⟩)] w fun e w' => e = .returned (.string (renOf r.ps x)) ∧ w' = w := by
  have HK := Lib.hid (key9 (s := x) (Nat.le_trans hx (by decide)))
  obtain ⟨D, k, h1, h2⟩ := h.map
  have HM := Lib.hid h1
  have HF := Lib.hid h2
  have HR := Lib.hid h.row
  have cf := h.bf.cell
  have c1 := h.b1.cell
  have hlc := h.row.2.1
  have hcm := h.row.2.2.1
  have HL := Lib.hid h.row.1
  unfold maxLen at hcm
  clear h h1 h2
  obtain ⟨B1, Bm, Bf, low, hi, a, len, cap, ps⟩ := r
  simp only at *
  cases hix : ixOf ps x with
  | none =>
    have HH := Lib.hid ((HF.out.2 x).2 hix)
    have HO := Lib.hid (show renOf ps x = x by unfold renOf; rw [hix])
    clear hix
    go_enter Tryz.func59, Tryz.ntmps59
    go_wp2_with (first
      | (at_lookup; refine wpList_lookup_own_ok_int _ rfl _ _ 106 rfl 9 3 .i64 law9 under106 Tryz.underlying3 (zero3 _) Bm k D rfl HM.out _ _ rfl HK.out ?_; intro c hat hwc; rw [HH.out]; clear hat hwc))
    go_ret
    exact ⟨by rw [HO.out]; rfl, rfl⟩
  | some i =>
    obtain ⟨g1, g2⟩ := (HF.out.2 x).1 i hix
    have hil : i < len := by rw [← HL.out]; exact ixOf_lt hix
    obtain ⟨b, o, p, rfl, hb, hp, hp1, hp2, q0, q1⟩ := HR.out.at hil
    have HO := Lib.hid (show renOf ps x = p.2 by unfold renOf; rw [hix]; simp [hp])
    have HH := Lib.hid g1
    have HA := Lib.hid g2
    clear hix g1 g2 hp
    go_enter Tryz.func59, Tryz.ntmps59
    go_wp2_with (first
      | (at_lookup; refine wpList_lookup_own_ok_int _ rfl _ _ 106 rfl 9 3 .i64 law9 under106 Tryz.underlying3 (zero3 _) Bm k D rfl HM.out _ _ rfl HK.out ?_; intro c hat hwc; rw [HH.out]; (obtain rfl : c = (i : Nat) := by (rw [HA.out] at hat; simpa using hat.symm)); clear hat hwc))
    go_ret
    exact ⟨by rw [HO.out]; rfl, rfl⟩
theorem renOf_le {ps : List (ByteArray × ByteArray)} {x : ByteArray} (h : ∀ p ∈ ps, p.1.size ≤ lim ∧ p.2.size ≤ lim) (hx : x.size ≤ lim) : (renOf ps x).size ≤ lim := by
  unfold renOf
  split
  · rename_i i hi
    have hl := ixOf_lt hi
    rw [List.getD_eq_getElem?_getD, List.getElem?_eq_getElem hl]
    exact (h _ (List.getElem_mem hl)).2
  · exact hx
/-- Rename's function, for turner.name. -/
def renClo (r : RenB) : Clo Unit 59 (.pointer (some ⟨r.Bf, 0, none⟩)) (.pointer (some ⟨r.B1, 0, none⟩)) where
  O := RenO r
  low := r.low
  hi := r.hi
  I := fun _ _ w => RenI r w
  step := fun _ _ => ()
  out := fun _ x => renOf r.ps x
  ltO := fun h hb => by
    have h1 := h.o1
    have h2 := h.om
    have h3 := h.of
    have h4 := h.sz
    rcases hb with rfl | rfl | rfl <;> omega
  cellsO := fun h hb hh => by
    have h1 := h.o1
    have h2 := h.om
    have h3 := h.of
    rcases hb with rfl | rfl | rfl <;> omega
  hiI := fun h => ⟨by have := h.o1; omega, h.sz⟩
  keep := fun h hs hl ho => ⟨h.keep hs hl ho, fun _ hb => hb⟩
  down := fun h => h
  outLe := fun h hx => renOf_le h.row.2.2.2.1 hx
  call := fun n s w x h _ hx => (rename1_any r w x h hx).mono fun e w' ⟨he, hw⟩ => by subst hw; exact ⟨he, h, Kept.refl _ _ _⟩
/-- Names' function, for turner.name. -/
def namClo (b0 : Nat) : Clo (List ByteArray) 50 (.pointer (some ⟨b0 + 2, 0, none⟩)) (.pointer (some ⟨b0, 0, none⟩)) where
  O := NamesO b0
  low := b0
  hi := b0 + 4
  I := NamesI b0
  step := addName
  out := fun _ x => x
  ltO := fun h hb => h.ltO hb
  cellsO := fun h hb hh => h.cellsO hb hh
  hiI := fun h => ⟨by omega, h.sz⟩
  keep := fun h hs _ ho => h.keep hs ho
  down := fun h => ⟨h.sz, by have := h.len; omega, h.small, h.set, h.bq, h.row⟩
  outLe := fun _ hx => hx
  call := fun n s w x h _ hx => names1_any b0 n s w x h hx
theorem name_any {σ : Type} {g : Nat} {c1 c2 : Value} (C : Clo σ g c1 c2) (hg : g = 50 ∨ g = 59) (n : Nat) (st : σ) (s : ByteArray) (w : World) (hI : C.I (n + (parts s).length) st w) (hs : s.size ≤ lim) :
    Calls Tryz.prog 86 #[.agg #[.func (.func g) #[] #[c1, c2]], .string s] w (NmPost C n st s w) := by
  rcases hg with rfl | rfl
  · exact name_50 C n st s w hI hs
  · exact name_59 C n st s w hI hs
end Go.Proofs.YtciijpahjjoppaaGreat
end
section
namespace Go.Proofs.YtciijpahjjoppaaGreat
open Go.RowKit Go.Shelf Go.Deep

theorem eql_nil {t e : TypeId} (h : Tryz.prog.underlying t = some (.slice e)) (a : Option Addr) (l c : Nat) (w : World) : Sem.run Tryz.prog (binOp .eql t (.slice a l c) (.slice none 0 0)) w = .ok (.bool a.isNone) w := by
  have := run_equal_slice_nil (P := Tryz.prog) w t e a l c h
  unfold binOp
  simp [this]
theorem setCell_heap {w : World} {b : Nat} {cs : List Value} {T : TypeId} {fz : Nat × Nat} (h : w.heap[b]? = some (.cells ⟨cs⟩ T fz)) (i : Nat) (v : Value) : (w.setCell ⟨b, i, none⟩ v).heap[b]? = some (.cells ⟨cs.set i v⟩ T fz) := by
  unfold World.setCell
  simp only [Array.getElem?_modify]
  simp [h]
theorem setCell_other {w : World} {b k : Nat} (i : Nat) (v : Value) (hk : k ≠ b) : (w.setCell ⟨b, i, none⟩ v).heap[k]? = w.heap[k]? := by
  unfold World.setCell
  simp only [Array.getElem?_modify]
  rw [if_neg (fun e => hk e.symm)]
theorem setCell_size (w : World) (b i : Nat) (v : Value) : (w.setCell ⟨b, i, none⟩ v).heap.size = w.heap.size := by
  unfold World.setCell
  simp
theorem setCells_heap {T : TypeId} {fz : Nat × Nat} : ∀ (rest pre zs : List Value) (w : World) (b : Nat), w.heap[b]? = some (.cells ⟨pre ++ zs⟩ T fz) → rest.length = zs.length → (w.setCells b pre.length rest).heap[b]? = some (.cells ⟨pre ++ rest⟩ T fz)
  | [], pre, zs, w, b, h, hl => by
    obtain rfl : zs = [] := List.eq_nil_of_length_eq_zero hl.symm
    exact h
  | v :: r, pre, zs, w, b, h, hl => by
    match zs, hl with
    | z :: zs, hl =>
      have h1 := setCell_heap h pre.length v
      have e : (pre ++ z :: zs).set pre.length v = (pre ++ [v]) ++ zs := by simp
      rw [e] at h1
      have := setCells_heap r (pre ++ [v]) zs _ b h1 (by simpa using hl)
      rw [List.length_append, List.append_assoc] at this
      exact this
theorem setCells_other : ∀ (vs : List Value) (w : World) (b o k : Nat), k ≠ b → (w.setCells b o vs).heap[k]? = w.heap[k]?
  | [], _, _, _, _, _ => rfl
  | v :: r, _, b, o, k, h => (setCells_other r _ b (o + 1) k h).trans (setCell_other o v h)
theorem setCells_size : ∀ (vs : List Value) (w : World) (b o : Nat), (w.setCells b o vs).heap.size = w.heap.size
  | [], _, _, _ => rfl
  | v :: r, w, b, o => (setCells_size r _ b (o + 1)).trans (setCell_size w b o v)
theorem setCells_os : ∀ (vs : List Value) (w : World) (b o : Nat), (w.setCells b o vs).os = w.os ∧ (w.setCells b o vs).tape = w.tape ∧ (w.setCells b o vs).output = w.output
  | [], _, _, _ => ⟨rfl, rfl, rfl⟩
  | _ :: r, _, b, o => setCells_os r _ b (o + 1)
theorem run_storeOld {w : World} {T : TypeId} {k : Nat} (hsz : ∀ w, (sizeOf T).run Tryz.prog w = .ok k w) {vs zs : List Value} (hlen : vs.length = k) {b : Nat} {T' : TypeId} (hz : zs.length = k) (hb : w.heap[b]? = some (.cells ⟨zs⟩ T')) (h1 : ∀ v ∈ vs, v.oneCell' = true) :
    (Instr.storeAt T (.pointer (some ⟨b, 0, none⟩)) (.agg ⟨vs⟩)).run Tryz.prog w = .ok () (w.setCells b 0 vs) := by
  have h := run_storeCells_cells (P := Tryz.prog) b 0 vs 0 w (fun j hj => by
    rw [box_cells hb, Array.getElem?_eq_getElem (by simp; omega)]
    rfl) (fun j hj => by
    unfold World.frozen?
    simp [hb]) h1
  unfold Instr.storeAt storeVar
  simp [Instr.sureAddr, hsz, hlen, Value.cells, Sem.run_bind]
  rw [h]
theorem wp_storeOld {ops : Array Oper} {rest : List Oper} {o : Oper} {a : Act} {Q : Exit → Act → World → Prop} (hgd : o.guard = none) (x y : Operand) (T : TypeId) (ho : o.op = .store T x y) (k : Nat) (hsz : ∀ w, (sizeOf T).run Tryz.prog w = .ok k w)
    {w : World} (b : Nat) (zs : List Value) (hz : zs.length = k) (T' : TypeId) (hb : w.heap[b]? = some (.cells ⟨zs⟩ T')) (hx : a.eval x = .pointer (some ⟨b, 0, none⟩)) (vs : List Value) (hy : a.eval y = .agg ⟨vs⟩) (hlen : vs.length = k) (h1 : ∀ v ∈ vs, v.oneCell' = true)
    (hk : wpList Tryz.prog ops Q rest (a.put o.dst undef) (w.setCells b 0 vs)) : wpList Tryz.prog ops Q (o :: rest) a w := by
  refine wpList_plain hgd fun K hK => ?_
  unfold Oper.wp execOp
  simp only [ho, hx, hy]
  rw [Sem.run_bind, run_storeOld hsz hlen hz hb h1]
  exact hK _ _ hk
theorem results_cell {fn : Func} {tmps : Array Value} {w : World} {i : Nat} {T : TypeId} {k : Nat} (hres : fn.results = #[.cell i T]) (hag : ∀ w, (isAgg T).run Tryz.prog w = .ok true w) (hsz : ∀ w, (sizeOf T).run Tryz.prog w = .ok k w) {b : Nat} (ht : tmps.getD i undef = .pointer (some ⟨b, 0, none⟩)) {vs : List Value} {T' : TypeId} {fz : Nat × Nat} (hlen : vs.length = k) (hb : w.heap[b]? = some (.cells ⟨vs⟩ T' fz)) :
    (results fn tmps).run Tryz.prog w = .ok (.agg ⟨vs⟩) w := by
  have h := run_loadCells_list (P := Tryz.prog) (w := w) ⟨b, 0, none⟩ vs (fun j v hv => by
    rw [add_mid2, Nat.zero_add, box_cells hb]
    simpa using hv)
  rw [hlen] at h
  rw [Array.getD_eq_getD_getElem?] at ht
  unfold results
  simp [hres, ht, loadVar, asAddr, hag, hsz, h, Sem.run_bind]

section
variable {σ : Type} {g : Nat} {c1 c2 : Value}
structure BxJ (C : Clo σ g c1 c2) (k : Nat) (w : World) (st : σ) (T : TypeId) (cs : List Value) (W : World) : Prop where
  i : C.I k st W
  bt : W.heap[w.heap.size]? = some (.cells #[.func (.func g) #[] #[c1, c2]] 97)
  bx : W.heap[w.heap.size + 1]? = some (.cells ⟨cs⟩ T)
  br : ∃ zs : List Value, zs.length = cs.length ∧ W.heap[w.heap.size + 2]? = some (.cells ⟨zs⟩ T)
  n0 : ¬ C.O W w.heap.size
  n1 : ¬ C.O W (w.heap.size + 1)
  n2 : ¬ C.O W (w.heap.size + 2)
  kept : Kept C.O C.hi w W
  low : C.low ≤ w.heap.size
  sz : w.heap.size + 3 ≤ W.heap.size
theorem BxJ.start (C : Clo σ g c1 c2) {k : Nat} {w : World} {st : σ} {T : TypeId} {cs : Array Value} {zs : Array Value} (hz : zs.size = cs.size) (h : C.I k st w) :
    BxJ C k w st T cs.toList (((w.alloc (.cells #[.func (.func g) #[] #[c1, c2]] 97)).alloc (.cells cs T)).alloc (.cells zs T)) := by
  have hlow : C.low ≤ w.heap.size := Nat.le_trans (C.hiI h).1 (C.hiI h).2
  have b0 : Below w.heap.size w (((w.alloc (.cells #[.func (.func g) #[] #[c1, c2]] 97)).alloc (.cells cs T)).alloc (.cells zs T)) := (((Below.refl _ w).alloc (Nat.le_refl _) _).alloc (by simp) _).alloc (by simp; omega) _
  obtain ⟨k0, i0⟩ := C.below (Kept.refl C.O C.hi w) h hlow b0
  have no : ∀ b, w.heap.size ≤ b → ¬ C.O (((w.alloc (.cells #[.func (.func g) #[] #[c1, c2]] 97)).alloc (.cells cs T)).alloc (.cells zs T)) b := fun b hb e => by
    obtain ⟨_, h2⟩ := C.keep h b0.size (fun b hb => b0.block b (by omega)) (fun b hb => b0.block b (C.ltO h hb).2)
    have := (C.ltO h (h2 b e)).2
    omega
  have e2 := heap_new ((w.alloc (.cells #[.func (.func g) #[] #[c1, c2]] 97)).alloc (.cells cs T)) (.cells zs T)
  have a3 := (Below.refl ((w.alloc (.cells #[.func (.func g) #[] #[c1, c2]] 97)).alloc (.cells cs T)).heap.size ((w.alloc (.cells #[.func (.func g) #[] #[c1, c2]] 97)).alloc (.cells cs T))).alloc (Nat.le_refl _) (.cells zs T)
  refine ⟨i0, (a3.block _ (by simp; omega)).trans (box_first w _ _), (a3.block _ (by simp)).trans (box_second w _ _), ⟨zs.toList, by simpa using hz, ?_⟩, no _ (Nat.le_refl _), no _ (by omega), no _ (by omega), k0, hlow, by simp⟩
  simp only [World.size_alloc] at e2
  exact e2
theorem BxJ.called {C : Clo σ g c1 c2} {k k' : Nat} {w : World} {st st' : σ} {T : TypeId} {cs : List Value} {W W' : World} (h : BxJ C k w st T cs W) (hk : Kept C.O C.hi W W') (hi : C.I k' st' W') : BxJ C k' w st' T cs W' := by
  have hz := h.sz
  obtain ⟨zs, h1, h2⟩ := h.br
  exact ⟨hi, (hk.block _ (by omega) h.n0).trans h.bt, (hk.block _ (by omega) h.n1).trans h.bx, ⟨zs, h1, (hk.block _ (by omega) h.n2).trans h2⟩, hk.not_own (by omega) h.n0, hk.not_own (by omega) h.n1, hk.not_own (by omega) h.n2, h.kept.trans hk, h.low, Nat.le_trans hz hk.size⟩
theorem BxJ.below {C : Clo σ g c1 c2} {k : Nat} {w : World} {st : σ} {T : TypeId} {cs : List Value} {W W' : World} (h : BxJ C k w st T cs W) (hb : Below W.heap.size W W') : BxJ C k w st T cs W' := by
  obtain ⟨k1, i1⟩ := C.below (Kept.refl C.O C.hi W) h.i (Nat.le_trans h.low (by have := h.sz; omega)) hb
  exact h.called k1 i1
theorem BxJ.set {C : Clo σ g c1 c2} {k : Nat} {w : World} {st : σ} {T : TypeId} {cs : List Value} {W : World} (h : BxJ C k w st T cs W) (j : Nat) (v : Value) : BxJ C k w st T (cs.set j v) (W.setCell ⟨w.heap.size + 1, j, none⟩ v) := by
  have own : ∀ b, C.O W b → (W.setCell ⟨w.heap.size + 1, j, none⟩ v).heap[b]? = W.heap[b]? := fun b hb => setCell_other j v fun e => h.n1 (e ▸ hb)
  have old : ∀ b, b < w.heap.size → (W.setCell ⟨w.heap.size + 1, j, none⟩ v).heap[b]? = W.heap[b]? := fun b hb => setCell_other j v (by omega)
  have hsz := setCell_size W (w.heap.size + 1) j v
  obtain ⟨k1, k2⟩ := C.keep h.i (by omega) (fun b hb => old b (by have := h.low; omega)) own
  obtain ⟨zs, h1, h2⟩ := h.br
  exact ⟨k1, (setCell_other j v (by omega)).trans h.bt, setCell_heap h.bx j v, ⟨zs, by simpa using h1, (setCell_other j v (by omega)).trans h2⟩, fun e => h.n0 (k2 _ e), fun e => h.n1 (k2 _ e), fun e => h.n2 (k2 _ e), (C.next (w' := W.setCell ⟨w.heap.size + 1, j, none⟩ v) h.kept h.i h.low rfl rfl rfl (by omega) own old).1, h.low, by rw [hsz]; exact h.sz⟩
theorem BxJ.last {C : Clo σ g c1 c2} {k : Nat} {w : World} {st : σ} {T : TypeId} {cs : List Value} {W : World} (h : BxJ C k w st T cs W) : (W.setCells (w.heap.size + 2) 0 cs).heap[w.heap.size + 2]? = some (.cells ⟨cs⟩ T) ∧ C.I k st (W.setCells (w.heap.size + 2) 0 cs) ∧ Kept C.O C.hi w (W.setCells (w.heap.size + 2) 0 cs) := by
  obtain ⟨zs, h1, h2⟩ := h.br
  have own : ∀ b, C.O W b → (W.setCells (w.heap.size + 2) 0 cs).heap[b]? = W.heap[b]? := fun b hb => setCells_other cs W _ 0 b fun e => h.n2 (e ▸ hb)
  have old : ∀ b, b < w.heap.size → (W.setCells (w.heap.size + 2) 0 cs).heap[b]? = W.heap[b]? := fun b hb => setCells_other cs W _ 0 b (by omega)
  have hs := setCells_os cs W (w.heap.size + 2) 0
  obtain ⟨k1, k2⟩ := C.next h.kept h.i h.low hs.1 hs.2.1 hs.2.2 (by rw [setCells_size]; omega) own old
  exact ⟨setCells_heap cs [] zs W _ (by simpa using h2) h1.symm, k2, k1⟩
end
end Go.Proofs.YtciijpahjjoppaaGreat
end
section
namespace Go.Proofs.YtciijpahjjoppaaGreat
open Go.RowKit Go.Deep Go.Maps

def wthn (n a b : Int) : Bool := decide (a ≤ n) && decide (n ≤ b)
theorem within_any (n a b : Int) (w : World) : Calls Tryz.prog 100 #[.int .i64 n, .int .i64 a, .int .i64 b] w fun e w' => e = .returned (.bool (wthn n a b)) ∧ w = w' := by
  unfold wthn
  cases h0 : decide (a ≤ n) <;> cases h1 : decide (n ≤ b) <;>
  · go_enter Tryz.func100, Tryz.ntmps100
    go_wp2_with fail
    go_ret
    exact ⟨rfl, rfl⟩
theorem tooDeep_any (d ar : Int) (w : World) : Calls Tryz.prog 60 #[.agg #[.int .i64 d, .int .i64 ar]] w fun e w' => e = .returned (.bool (decide ((48 : Int) ≤ ar))) ∧ w' = w.alloc (.cells #[.int .i64 d, .int .i64 ar] 51) := by
  cases h0 : decide ((48 : Int) ≤ ar) <;>
  · go_enter Tryz.func60, Tryz.ntmps60
    go_wp2_with fail
    go_ret
    exact ⟨rfl, rfl⟩
theorem deeper_any (d : Int) (ar : Nat) (w : World) (har : ar < 100000) : Calls Tryz.prog 65 #[.agg #[.int .i64 d, .int .i64 ar]] w fun e w' => e = .returned (.agg #[.int .i64 d, .int .i64 ((ar + 1 : Nat) : Int)]) ∧ Below w.heap.size w w' := by
  have R1 := Lib.hid (((Below.refl w.heap.size w).alloc (Nat.le_refl _) (.cells #[.int .i64 d, .int .i64 ar] 51)).alloc (by simp) (.cells #[.int .i64 d, .int .i64 ((ar + 1 : Nat) : Int)] 51))
  go_enter Tryz.func65, Tryz.ntmps65
  go_wp2_with fail
  refine bodyPost_ret (v := .agg ⟨[.int .i64 d, .int .i64 ((ar : Int) + 1)]⟩) ?_ rfl ?_
  · exact results_cell (i := 2) (b := w.heap.size + 1) Tryz.results65 Tryz.isAgg51 Tryz.sizeOf51 rfl rfl (by simpa using heap_new (w.alloc (.cells #[.int .i64 d, .int .i64 ar] 51)) (.cells #[.int .i64 d, .int .i64 ((ar : Int) + 1)] 51))
  · exact ⟨rfl, R1.out⟩
def nameW (d : Int) (k : Bool) (s : ByteArray) : Bool := if k then okName d s else s.toList.isEmpty
set_option maxRecDepth 100000 in
set_option maxHeartbeats 1000000 in
theorem nameWhere_any (d ar : Int) (k : Bool) (s : ByteArray) (w : World) (hs : s.size ≤ maxLen) : Calls Tryz.prog 63 #[.agg #[.int .i64 d, .int .i64 ar], .bool k, .string s] w fun e w' => e = .returned (.bool (nameW d k s)) ∧ Below w.heap.size w w' := by
  have R1 := Lib.hid ((Below.refl w.heap.size w).alloc (Nat.le_refl _) (.cells #[.int .i64 d, .int .i64 ar] 51))
  cases k with
  | true =>
    rw [show nameW d true s = okName d s from rfl]
    go_enter Tryz.func63, Tryz.ntmps63
    go_wp2_with fail
    refine (cname_any d ar s _ hs).mono ?_
    rintro e w1 ⟨rfl, b1⟩
    have B1 := Lib.hid (R1.out.trans (b1.mono (by simp)))
    clear b1
    generalize hr : okName d s = r
    go_wp2_with fail
    go_ret
    exact ⟨by rw [hr]; rfl, B1.out⟩
  | false =>
    rw [show nameW d false s = s.toList.isEmpty from rfl]
    go_enter Tryz.func63, Tryz.ntmps63
    go_wp2_with fail
    go_ret
    exact ⟨rfl, R1.out⟩
theorem results_cell2 {fn : Func} {tmps : Array Value} {w : World} {i j : Nat} {T : TypeId} {k : Nat} (hres : fn.results = #[.cell i T, .tmp j]) (hag : ∀ w, (isAgg T).run Tryz.prog w = .ok true w) (hsz : ∀ w, (sizeOf T).run Tryz.prog w = .ok k w) {b : Nat} (ht : tmps.getD i undef = .pointer (some ⟨b, 0, none⟩)) {vs : List Value} {T' : TypeId} {fz : Nat × Nat} (hlen : vs.length = k) (hb : w.heap[b]? = some (.cells ⟨vs⟩ T' fz)) {u : Value} (hu : tmps.getD j undef = u) :
    (results fn tmps).run Tryz.prog w = .ok (.tuple #[.agg ⟨vs⟩, u]) w := by
  have h := run_loadCells_list (P := Tryz.prog) (w := w) ⟨b, 0, none⟩ vs (fun j v hv => by
    rw [add_mid2, Nat.zero_add, box_cells hb]
    simpa using hv)
  rw [hlen] at h
  rw [Array.getD_eq_getD_getElem?] at ht hu
  unfold results
  simp [hres, ht, hu, loadVar, asAddr, hag, hsz, h, Sem.run_bind]
def fmost (op : Int) : Int := if op = 1 then 9223372036854775807 else if op = 2 then 1 else if op = 3 then 255 else 0
def fname (op : Int) : Bool := decide (op = 4 ∨ op = 5 ∨ op = 6)
def ffield (op : Int) : Bool := decide (op = 6)
def fops (op : Int) : Int := if op = 1 ∨ op = 2 ∨ op = 3 ∨ op = 4 ∨ op = 6 then 0 else if op = 5 ∨ op = 8 ∨ op = 9 then 1 else 2
def fok (op : Int) : Bool := decide (op = 1 ∨ op = 2 ∨ op = 3 ∨ op = 4 ∨ op = 5 ∨ op = 6 ∨ op = 8 ∨ op = 9) || wthn op 10 24
def FormPost (op : Int) (w : World) (e : Ending) (w' : World) : Prop := e = .returned (.tuple #[.agg #[.int .i64 (fmost op), .bool (fname op), .bool (ffield op), .int .i64 (fops op)], .bool (fok op)]) ∧ Below w.heap.size w w'
set_option maxRecDepth 100000 in
theorem exprForm_1 (w : World) : Calls Tryz.prog 62 #[.int .i64 1] w (FormPost 1 w) := by
  have R1 := Lib.hid ((Below.refl w.heap.size w).alloc (Nat.le_refl _) (.cells #[.int .i64 (fmost 1), .bool (fname 1), .bool (ffield 1), .int .i64 (fops 1)] 110))
  go_enter Tryz.func62, Tryz.ntmps62
  go_wp2_with fail
  refine bodyPost_ret (v := .tuple #[.agg ⟨[.int .i64 (fmost 1), .bool (fname 1), .bool (ffield 1), .int .i64 (fops 1)]⟩, .bool true]) ?_ rfl ?_
  · exact results_cell2 (i := 2) (j := 3) (b := w.heap.size) Tryz.results62 Tryz.isAgg110 Tryz.sizeOf110 rfl rfl (heap_new w (.cells #[.int .i64 (fmost 1), .bool (fname 1), .bool (ffield 1), .int .i64 (fops 1)] 110)) rfl
  · exact ⟨rfl, R1.out⟩
set_option maxRecDepth 100000 in
theorem exprForm_2 (w : World) : Calls Tryz.prog 62 #[.int .i64 2] w (FormPost 2 w) := by
  have R1 := Lib.hid ((Below.refl w.heap.size w).alloc (Nat.le_refl _) (.cells #[.int .i64 (fmost 2), .bool (fname 2), .bool (ffield 2), .int .i64 (fops 2)] 110))
  go_enter Tryz.func62, Tryz.ntmps62
  go_wp2_with fail
  refine bodyPost_ret (v := .tuple #[.agg ⟨[.int .i64 (fmost 2), .bool (fname 2), .bool (ffield 2), .int .i64 (fops 2)]⟩, .bool true]) ?_ rfl ?_
  · exact results_cell2 (i := 2) (j := 3) (b := w.heap.size) Tryz.results62 Tryz.isAgg110 Tryz.sizeOf110 rfl rfl (heap_new w (.cells #[.int .i64 (fmost 2), .bool (fname 2), .bool (ffield 2), .int .i64 (fops 2)] 110)) rfl
  · exact ⟨rfl, R1.out⟩
set_option maxRecDepth 100000 in
theorem exprForm_3 (w : World) : Calls Tryz.prog 62 #[.int .i64 3] w (FormPost 3 w) := by
  have R1 := Lib.hid ((Below.refl w.heap.size w).alloc (Nat.le_refl _) (.cells #[.int .i64 (fmost 3), .bool (fname 3), .bool (ffield 3), .int .i64 (fops 3)] 110))
  go_enter Tryz.func62, Tryz.ntmps62
  go_wp2_with fail
  refine bodyPost_ret (v := .tuple #[.agg ⟨[.int .i64 (fmost 3), .bool (fname 3), .bool (ffield 3), .int .i64 (fops 3)]⟩, .bool true]) ?_ rfl ?_
  · exact results_cell2 (i := 2) (j := 3) (b := w.heap.size) Tryz.results62 Tryz.isAgg110 Tryz.sizeOf110 rfl rfl (heap_new w (.cells #[.int .i64 (fmost 3), .bool (fname 3), .bool (ffield 3), .int .i64 (fops 3)] 110)) rfl
  · exact ⟨rfl, R1.out⟩
set_option maxRecDepth 100000 in
theorem exprForm_4 (w : World) : Calls Tryz.prog 62 #[.int .i64 4] w (FormPost 4 w) := by
  have R1 := Lib.hid ((Below.refl w.heap.size w).alloc (Nat.le_refl _) (.cells #[.int .i64 (fmost 4), .bool (fname 4), .bool (ffield 4), .int .i64 (fops 4)] 110))
  go_enter Tryz.func62, Tryz.ntmps62
  go_wp2_with fail
  refine bodyPost_ret (v := .tuple #[.agg ⟨[.int .i64 (fmost 4), .bool (fname 4), .bool (ffield 4), .int .i64 (fops 4)]⟩, .bool true]) ?_ rfl ?_
  · exact results_cell2 (i := 2) (j := 3) (b := w.heap.size) Tryz.results62 Tryz.isAgg110 Tryz.sizeOf110 rfl rfl (heap_new w (.cells #[.int .i64 (fmost 4), .bool (fname 4), .bool (ffield 4), .int .i64 (fops 4)] 110)) rfl
  · exact ⟨rfl, R1.out⟩
set_option maxRecDepth 100000 in
theorem exprForm_5 (w : World) : Calls Tryz.prog 62 #[.int .i64 5] w (FormPost 5 w) := by
  have R1 := Lib.hid ((Below.refl w.heap.size w).alloc (Nat.le_refl _) (.cells #[.int .i64 (fmost 5), .bool (fname 5), .bool (ffield 5), .int .i64 (fops 5)] 110))
  go_enter Tryz.func62, Tryz.ntmps62
  go_wp2_with fail
  refine bodyPost_ret (v := .tuple #[.agg ⟨[.int .i64 (fmost 5), .bool (fname 5), .bool (ffield 5), .int .i64 (fops 5)]⟩, .bool true]) ?_ rfl ?_
  · exact results_cell2 (i := 2) (j := 3) (b := w.heap.size) Tryz.results62 Tryz.isAgg110 Tryz.sizeOf110 rfl rfl (heap_new w (.cells #[.int .i64 (fmost 5), .bool (fname 5), .bool (ffield 5), .int .i64 (fops 5)] 110)) rfl
  · exact ⟨rfl, R1.out⟩
set_option maxRecDepth 100000 in
theorem exprForm_6 (w : World) : Calls Tryz.prog 62 #[.int .i64 6] w (FormPost 6 w) := by
  have R1 := Lib.hid ((Below.refl w.heap.size w).alloc (Nat.le_refl _) (.cells #[.int .i64 (fmost 6), .bool (fname 6), .bool (ffield 6), .int .i64 (fops 6)] 110))
  go_enter Tryz.func62, Tryz.ntmps62
  go_wp2_with fail
  refine bodyPost_ret (v := .tuple #[.agg ⟨[.int .i64 (fmost 6), .bool (fname 6), .bool (ffield 6), .int .i64 (fops 6)]⟩, .bool true]) ?_ rfl ?_
  · exact results_cell2 (i := 2) (j := 3) (b := w.heap.size) Tryz.results62 Tryz.isAgg110 Tryz.sizeOf110 rfl rfl (heap_new w (.cells #[.int .i64 (fmost 6), .bool (fname 6), .bool (ffield 6), .int .i64 (fops 6)] 110)) rfl
  · exact ⟨rfl, R1.out⟩
set_option maxRecDepth 100000 in
theorem exprForm_8 (w : World) : Calls Tryz.prog 62 #[.int .i64 8] w (FormPost 8 w) := by
  have R1 := Lib.hid ((Below.refl w.heap.size w).alloc (Nat.le_refl _) (.cells #[.int .i64 (fmost 8), .bool (fname 8), .bool (ffield 8), .int .i64 (fops 8)] 110))
  go_enter Tryz.func62, Tryz.ntmps62
  go_wp2_with fail
  refine bodyPost_ret (v := .tuple #[.agg ⟨[.int .i64 (fmost 8), .bool (fname 8), .bool (ffield 8), .int .i64 (fops 8)]⟩, .bool true]) ?_ rfl ?_
  · exact results_cell2 (i := 2) (j := 3) (b := w.heap.size) Tryz.results62 Tryz.isAgg110 Tryz.sizeOf110 rfl rfl (heap_new w (.cells #[.int .i64 (fmost 8), .bool (fname 8), .bool (ffield 8), .int .i64 (fops 8)] 110)) rfl
  · exact ⟨rfl, R1.out⟩
set_option maxRecDepth 100000 in
theorem exprForm_9 (w : World) : Calls Tryz.prog 62 #[.int .i64 9] w (FormPost 9 w) := by
  have R1 := Lib.hid ((Below.refl w.heap.size w).alloc (Nat.le_refl _) (.cells #[.int .i64 (fmost 9), .bool (fname 9), .bool (ffield 9), .int .i64 (fops 9)] 110))
  go_enter Tryz.func62, Tryz.ntmps62
  go_wp2_with fail
  refine bodyPost_ret (v := .tuple #[.agg ⟨[.int .i64 (fmost 9), .bool (fname 9), .bool (ffield 9), .int .i64 (fops 9)]⟩, .bool true]) ?_ rfl ?_
  · exact results_cell2 (i := 2) (j := 3) (b := w.heap.size) Tryz.results62 Tryz.isAgg110 Tryz.sizeOf110 rfl rfl (heap_new w (.cells #[.int .i64 (fmost 9), .bool (fname 9), .bool (ffield 9), .int .i64 (fops 9)] 110)) rfl
  · exact ⟨rfl, R1.out⟩
set_option maxRecDepth 100000 in
set_option maxHeartbeats 1000000 in
theorem exprForm_no (op : Int) (w : World) (h1 : op ≠ 1) (h2 : op ≠ 2) (h3 : op ≠ 3) (h4 : op ≠ 4) (h5 : op ≠ 5) (h6 : op ≠ 6) (h8 : op ≠ 8) (h9 : op ≠ 9) : Calls Tryz.prog 62 #[.int .i64 op] w (FormPost op w) := by
  have HF := Lib.hid (show FormPost op w = fun e w' => e = .returned (.tuple #[.agg #[.int .i64 0, .bool false, .bool false, .int .i64 2], .bool (wthn op 10 24)]) ∧ Below w.heap.size w w' by
    unfold FormPost fmost fname ffield fops fok
    simp [h1, h2, h3, h4, h5, h6, h8, h9])
  have b1 : (op == 1) = false := by simpa using h1
  have b2 : (op == 2) = false := by simpa using h2
  have b3 : (op == 3) = false := by simpa using h3
  have b4 : (op == 4) = false := by simpa using h4
  have b5 : (op == 5) = false := by simpa using h5
  have b6 : (op == 6) = false := by simpa using h6
  have b8 : (op == 8) = false := by simpa using h8
  have b9 : (op == 9) = false := by simpa using h9
  clear h1 h2 h3 h4 h5 h6 h8 h9
  have R1 := Lib.hid ((Below.refl w.heap.size w).alloc (Nat.le_refl _) (.cells #[.int .i64 0, .bool false, .bool false, .int .i64 2] 110))
  rw [HF.out]
  go_enter Tryz.func62, Tryz.ntmps62
  go_wp2_with fail
  refine (within_any op 10 24 _).mono ?_
  rintro e w1 ⟨rfl, rfl⟩
  generalize hr : wthn op 10 24 = r
  go_wp2_with fail
  refine bodyPost_ret (v := .tuple #[.agg ⟨[.int .i64 0, .bool false, .bool false, .int .i64 2]⟩, .bool r]) ?_ rfl ?_
  · exact results_cell2 (i := 2) (j := 3) (b := w.heap.size) Tryz.results62 Tryz.isAgg110 Tryz.sizeOf110 rfl rfl (heap_new w (.cells #[.int .i64 0, .bool false, .bool false, .int .i64 2] 110)) rfl
  · exact ⟨by rw [hr], R1.out⟩
theorem exprForm_any (op : Int) (w : World) : Calls Tryz.prog 62 #[.int .i64 op] w (FormPost op w) := by
  by_cases h1 : op = 1
  · rw [h1]; exact exprForm_1 w
  by_cases h2 : op = 2
  · rw [h2]; exact exprForm_2 w
  by_cases h3 : op = 3
  · rw [h3]; exact exprForm_3 w
  by_cases h4 : op = 4
  · rw [h4]; exact exprForm_4 w
  by_cases h5 : op = 5
  · rw [h5]; exact exprForm_5 w
  by_cases h6 : op = 6
  · rw [h6]; exact exprForm_6 w
  by_cases h8 : op = 8
  · rw [h8]; exact exprForm_8 w
  by_cases h9 : op = 9
  · rw [h9]; exact exprForm_9 w
  exact exprForm_no op w h1 h2 h3 h4 h5 h6 h8 h9
end Go.Proofs.YtciijpahjjoppaaGreat
end
section
namespace Go.Proofs.YtciijpahjjoppaaGreat
open Go.RowKit Go.Deep Go.Maps

def upE (d op n : Int) (nm fd : ByteArray) (len : Nat) : Bool := (op == 25) && ((n == 0) && (fd.toList.isEmpty && (decide (len = 0) && okName d nm)))
set_option maxRecDepth 100000 in
set_option maxHeartbeats 1000000 in
theorem up_any (d ar op n : Int) (nm fd : ByteArray) (a : Option Addr) (len cap : Nat) (w : World) (hs : nm.size ≤ maxLen) :
    Calls Tryz.prog 99 #[.agg #[.int .i64 d, .int .i64 ar], .agg #[.int .i64 op, .int .i64 n, .string nm, .string fd, .slice a len cap]] w fun e w' => e = .returned (.bool (upE d op n nm fd len)) ∧ Below w.heap.size w w' := by
  have R1 := Lib.hid (((Below.refl w.heap.size w).alloc (Nat.le_refl _) (.cells #[.int .i64 d, .int .i64 ar] 51)).alloc (by simp) (.cells #[.int .i64 op, .int .i64 n, .string nm, .string fd, .slice a len cap] 24))
  cases h1 : op == 25 with
  | false =>
    have HO := Lib.hid (show upE d op n nm fd len = false by unfold upE; rw [h1]; rfl)
    go_enter Tryz.func99, Tryz.ntmps99
    go_wp2_with fail
    go_ret
    exact ⟨by rw [HO.out]; rfl, R1.out⟩
  | true =>
  cases h2 : n == 0 with
  | false =>
    have HO := Lib.hid (show upE d op n nm fd len = false by unfold upE; rw [h1, h2]; rfl)
    go_enter Tryz.func99, Tryz.ntmps99
    go_wp2_with fail
    go_ret
    exact ⟨by rw [HO.out]; rfl, R1.out⟩
  | true =>
  cases h3 : fd.toList.isEmpty with
  | false =>
    have HO := Lib.hid (show upE d op n nm fd len = false by unfold upE; rw [h1, h2, h3]; rfl)
    go_enter Tryz.func99, Tryz.ntmps99
    go_wp2_with fail
    go_ret
    exact ⟨by rw [HO.out]; rfl, R1.out⟩
  | true =>
  by_cases h4 : len = 0
  · have HO := Lib.hid (show upE d op n nm fd len = okName d nm by unfold upE; rw [h1, h2, h3, h4]; rfl)
    subst h4
    go_enter Tryz.func99, Tryz.ntmps99
    go_wp2_with fail
    refine (cname_any d ar nm _ hs).mono ?_
    rintro e w1 ⟨rfl, b1⟩
    have B1 := Lib.hid (R1.out.trans (b1.mono (by simp; omega)))
    clear b1
    generalize hr : okName d nm = r
    rw [hr] at HO
    go_wp2_with fail
    go_ret
    exact ⟨by rw [HO.out]; rfl, B1.out⟩
  · have HO := Lib.hid (show upE d op n nm fd len = false by unfold upE; rw [h1, h2, h3, decide_eq_false h4]; rfl)
    have h5 : ((len : Int) == 0) = false := by simpa using h4
    go_enter Tryz.func99, Tryz.ntmps99
    go_wp2_with fail
    go_ret
    exact ⟨by rw [HO.out]; rfl, R1.out⟩

def isUp : List D → Bool
  | .int op :: _ => op == 25
  | _ => false
def firstU (d : Int) (l : List (List D)) : Nat := if d == 1 then l.findIdx isUp else l.length
theorem firstU_le (d : Int) (l : List (List D)) : firstU d l ≤ l.length := by
  unfold firstU
  split
  · exact List.findIdx_le_length
  · exact Nat.le_refl _
theorem firstU_hit {d : Int} {l : List (List D)} {k : Nat} {x : List D} (hd : (d == 1) = true) (hx : l[k]? = some x) (ht : ∀ y ∈ l.take k, isUp y = false) (hu : isUp x = true) : firstU d l = k := by
  unfold firstU
  rw [hd, if_pos rfl]
  obtain ⟨hk, rfl⟩ := List.getElem?_eq_some_iff.1 hx
  rw [List.findIdx_eq hk]
  refine ⟨hu, fun j hj => ht _ ?_⟩
  exact List.mem_take_iff_getElem.2 ⟨j, by omega, rfl⟩
theorem firstU_none {d : Int} {l : List (List D)} (hd : (d == 1) = true) (ht : ∀ y ∈ l.take l.length, isUp y = false) : firstU d l = l.length := by
  unfold firstU
  rw [hd, if_pos rfl]
  rw [List.take_length] at ht
  exact List.findIdx_eq_length.2 ht
theorem noUp_succ {l : List (List D)} {k : Nat} {x : List D} (hx : l[k]? = some x) (ht : ∀ y ∈ l.take k, isUp y = false) (hu : isUp x = false) : ∀ y ∈ l.take (k + 1), isUp y = false := by
  intro y hy
  rw [List.take_add_one, hx] at hy
  rcases List.mem_append.1 hy with h | h
  · exact ht y h
  · have : y = x := by simpa using h
    rw [this]; exact hu
set_option maxRecDepth 100000 in
set_option maxHeartbeats 1000000 in
theorem firstUp_any (w0 : World) (d ar : Int) (a : Option Addr) (len cap : Nat) (l : List (List D)) (hA : At w0 (.slice a len cap) (.row l)) (hs : ∀ x ∈ l, ShE x) (W : World) (hW : Below w0.heap.size w0 W) :
    Calls Tryz.prog 97 #[.agg #[.int .i64 d, .int .i64 ar], .slice a len cap] W fun e W' => e = .returned (.int .i64 (firstU d l : Nat)) ∧ Below W.heap.size W W' := by
  have HA := Lib.hid hA
  have HS := Lib.hid hs
  have HW := Lib.hid hW
  have hle := hA.len_le
  have HL := Lib.hid hA.len_eq.1
  have R1 := Lib.hid ((Below.refl W.heap.size W).alloc (Nat.le_refl _) (.cells #[.int .i64 d, .int .i64 ar] 51))
  clear hA hs hW
  cases hd : d == 1 with
  | false =>
    have HO := Lib.hid (show firstU d l = len by unfold firstU; rw [hd]; exact HL.out)
    go_enter Tryz.func97, Tryz.ntmps97
    go_wp2_with fail
    go_ret
    exact ⟨by rw [HO.out]; rfl, R1.out⟩
  | true =>
    go_enter Tryz.func97, Tryz.ntmps97
    go_wp2_with fail
    go_loopw [12] (fun i wr => ∃ k : Nat, k ≤ len ∧ i = .int .i64 k ∧ (∀ y ∈ l.take k, isUp y = false) ∧ Below W.heap.size W wr) (fun i _ => len - (intOf i).toNat)
    case atStart => exact ⟨0, Nat.zero_le _, rfl, by simp, R1.out⟩
    case round =>
      obtain ⟨k, hk, rfl, ht, hb⟩ := hrel
      have HT := Lib.hid ht
      have HB := Lib.hid hb
      have HD := Lib.hid hd
      clear ht hb
      by_cases hlt : k < len
      · obtain ⟨b, o, vs, ds, rfl, hbl, hx, hv, hc⟩ := HA.out.elem hlt
        obtain ⟨op, n, nm, fd, kl, kla, klc, hds, hvs, _⟩ := hv.openE (HS.out _ (List.mem_of_getElem? hx))
        subst hvs
        have hdl : ds.length = 5 := by rw [hds]; rfl
        rw [hdl] at hc
        have B0 := HW.out.trans (HB.out.mono HW.out.size)
        have c0 := (B0.cell (p := ⟨b, o + k * 5, none⟩) hbl).trans (hc 0 _ rfl)
        have c1 := (B0.cell (p := ⟨b, o + k * 5 + 1, none⟩) hbl).trans (hc 1 _ rfl)
        have c2 := (B0.cell (p := ⟨b, o + k * 5 + 2, none⟩) hbl).trans (hc 2 _ rfl)
        have c3 := (B0.cell (p := ⟨b, o + k * 5 + 3, none⟩) hbl).trans (hc 3 _ rfl)
        have c4 := (B0.cell (p := ⟨b, o + k * 5 + 4, none⟩) hbl).trans (hc 4 _ rfl)
        have hbw : b < wr.heap.size := Nat.lt_of_lt_of_le hbl B0.size
        have HX := Lib.hid hx
        have HU := Lib.hid (show isUp ds = (op == 25) by rw [hds]; rfl)
        have HR := Lib.hid (HB.out.alloc HB.out.size (.cells #[.int .i64 op, .int .i64 n, .string nm, .string fd, .slice kla kl.length klc] 24))
        clear hx hds hdl hc B0 hv
        cases hu : op == 25 with
        | true =>
          have HE := Lib.hid (firstU_hit HD.out HX.out HT.out (HU.out.trans hu))
          go_wp2_with fail
          go_ret
          exact ⟨by rw [HE.out]; rfl, HR.out⟩
        | false =>
          have HE := Lib.hid (noUp_succ HX.out HT.out (HU.out.trans hu))
          go_wp2_with fail
          go_roundw
          case rel => exact ⟨k + 1, by omega, by go_num, HE.out, HR.out⟩
          case measure => simp [intOf]; omega
      · obtain rfl : k = len := by omega
        have HE := Lib.hid (firstU_none (l := l) HD.out (by rw [HL.out]; exact HT.out))
        go_wp2_with fail
        go_ret
        exact ⟨by rw [HE.out, HL.out]; rfl, HB.out⟩
end Go.Proofs.YtciijpahjjoppaaGreat
end
section
namespace Go.Proofs.YtciijpahjjoppaaGreat
open Go.RowKit Go.Shelf Go.Deep
attribute [local go_sem] Oper.semAt_some

def okR (d : Int) (s : ByteArray) : Bool := if d == 1 then (parts s).all (okName d) else okName d s
theorem results_cell1 {fn : Func} {tmps : Array Value} {w : World} {i : Nat} {T : TypeId} (hres : fn.results = #[.cell i T]) (hag : ∀ w, (isAgg T).run Tryz.prog w = .ok false w) {b : Nat} (ht : tmps.getD i undef = .pointer (some ⟨b, 0, none⟩)) {v : Value} (hb : w.cell? ⟨b, 0, none⟩ = some v) :
    (results fn tmps).run Tryz.prog w = .ok v w := by
  rw [Array.getD_eq_getD_getElem?] at ht
  unfold results
  simp [hres, ht, loadVar, asAddr, hag, hb, Sem.run_bind]
structure RnJ (d ar : Int) (w : World) (r : Value) (W : World) : Prop where
  bc : W.heap[w.heap.size]? = some (.cells #[.int .i64 d, .int .i64 ar] 51 (0, 0))
  br : Boxed W (w.heap.size + 1) 4 r
  bel : Below w.heap.size w W
  sz : w.heap.size + 3 ≤ W.heap.size
theorem RnJ.same {d ar : Int} {w : World} {r : Value} {W W' : World} (h : RnJ d ar w r W) {row : Option Nat} (hg : W.grownBy W' row) (hr : ∀ b, row = some b → w.heap.size + 3 ≤ b) : RnJ d ar w r W' := by
  have hz := h.sz
  have blk : ∀ b, b < w.heap.size + 3 → W'.heap[b]? = W.heap[b]? := fun b hb => hg.block b (by omega) fun e => by have := hr b e.symm; omega
  exact ⟨(blk _ (by omega)).trans h.bc, (blk _ (by omega)).trans h.br, ⟨hg.os.trans h.bel.os, hg.tape.trans h.bel.tape, hg.output.trans h.bel.output, Nat.le_trans h.bel.size hg.size, fun b hb => (blk b (by omega)).trans (h.bel.block b hb)⟩, Nat.le_trans hz hg.size⟩
theorem RnJ.below {d ar : Int} {w : World} {r : Value} {W W' : World} (h : RnJ d ar w r W) (b : Below W.heap.size W W') : RnJ d ar w r W' :=
  have hz := h.sz
  ⟨(b.block _ (by omega)).trans h.bc, (b.block _ (by omega)).trans h.br, h.bel.trans (b.mono (by omega)), Nat.le_trans hz b.size⟩
theorem RnJ.set {d ar : Int} {w : World} {r : Value} {W : World} (h : RnJ d ar w r W) (v : Value) : RnJ d ar w v (W.setCell ⟨w.heap.size + 1, 0, none⟩ v) := by
  have hg := grownBy_setCell' W (w.heap.size + 1) v
  have hz := h.sz
  have ne : ∀ b, b < w.heap.size + 1 → some b ≠ some (w.heap.size + 1) := fun b hb e => by
    injection e with e
    omega
  have blk : ∀ b, b < w.heap.size + 1 → (W.setCell ⟨w.heap.size + 1, 0, none⟩ v).heap[b]? = W.heap[b]? := fun b hb => hg.block b (by omega) (ne b hb)
  exact ⟨(blk _ (by omega)).trans h.bc, h.br.set v, ⟨hg.os.trans h.bel.os, hg.tape.trans h.bel.tape, hg.output.trans h.bel.output, Nat.le_trans h.bel.size hg.size, fun b hb => (blk b (by omega)).trans (h.bel.block b hb)⟩, Nat.le_trans hz hg.size⟩
def RnI (d ar : Int) (w : World) (pre : List (Tx maxLen)) (W : World) : Prop := (pre.map (·.1)).all (okName d) = true ∧ RnJ d ar w (.bool false) W
def RnX (d ar : Int) (w : World) (c : Code) (pre : List (Tx maxLen)) (W : World) : Prop := c = .ret ∧ (pre.map (·.1)).all (okName d) = false ∧ RnJ d ar w (.bool false) W
theorem all_prefix_false {α : Type} {p l : List α} {f : α → Bool} (h : p <+: l) (hp : p.all f = false) : l.all f = false := by
  obtain ⟨t, rfl⟩ := h
  rw [List.all_append, hp, Bool.false_and]
set_option maxRecDepth 100000 in
set_option maxHeartbeats 4000000 in
theorem rname_any (d ar : Int) (s : ByteArray) (w : World) (hs : s.size ≤ maxLen) : Calls Tryz.prog 98 #[.agg #[.int .i64 d, .int .i64 ar], .string s] w fun e w' => e = .returned (.bool (okR d s)) ∧ Below w.heap.size w w' := by
  cases hd : d == 1 with
  | false =>
    have HO := Lib.hid (show okR d s = okName d s by unfold okR; rw [hd]; rfl)
    have hd1 : (d != 1) = true := by simpa using hd
    have B0 := Lib.hid (((Below.refl w.heap.size w).alloc (Nat.le_refl _) (.cells #[.int .i64 d, .int .i64 ar] 51)).alloc (by simp) (.cells #[.bool false] 4))
    have BX := Lib.hid (show Boxed ((w.alloc (.cells #[.int .i64 d, .int .i64 ar] 51)).alloc (.cells #[.bool false] 4)) (w.heap.size + 1) 4 (.bool false) by
      have := Boxed.new (w.alloc (.cells #[.int .i64 d, .int .i64 ar] 51)) 4 (.bool false)
      simpa using this)
    go_enter Tryz.func98, Tryz.ntmps98
    go_wp2_with fail
    refine (cname_any d ar s _ hs).mono ?_
    rintro e w1 ⟨rfl, b1⟩
    have hbx : Boxed w1 (w.heap.size + 1) 4 (.bool false) := (b1.block _ (by simp)).trans BX.out
    have hc := hbx.cell
    have hf := hbx.frozen
    have HB := Lib.hid hbx
    have B1 := Lib.hid (B0.out.trans (b1.mono (by simp; omega)))
    clear b1 hbx
    generalize hr : okName d s = r
    rw [hr] at HO
    go_wp2_with fail
    refine bodyPost_ret (v := .bool r) ?_ rfl ?_
    · exact results_cell1 (i := 4) (b := w.heap.size + 1) Tryz.results98 Tryz.isAgg4 rfl (HB.out.set _).cell
    · have hg := grownBy_setCell' w1 (w.heap.size + 1) (.bool r)
      have ne : ∀ b, b < w.heap.size → some b ≠ some (w.heap.size + 1) := fun b hb e => by
        injection e with e
        omega
      exact ⟨by rw [HO.out], ⟨hg.os.trans B1.out.os, hg.tape.trans B1.out.tape, hg.output.trans B1.out.output, Nat.le_trans B1.out.size hg.size, fun b hb => (hg.block b (Nat.lt_of_lt_of_le hb B1.out.size) (ne b hb)).trans (B1.out.block b hb)⟩⟩
  | true =>
    have hd1 : (d != 1) = false := by simpa using hd
    have HO := Lib.hid (show okR d s = (parts s).all (okName d) by unfold okR; rw [hd]; rfl)
    obtain ⟨W0, hW0⟩ : ∃ W0, W0 = ((w.alloc (.cells #[.int .i64 d, .int .i64 ar] 51)).alloc (.cells #[.bool false] 4)).alloc (.cells #[.string s] 9) := ⟨_, rfl⟩
    have z1 : (w.alloc (.cells #[.int .i64 d, .int .i64 ar] 51)).heap.size = w.heap.size + 1 := by simp
    have z2 : ((w.alloc (.cells #[.int .i64 d, .int .i64 ar] 51)).alloc (.cells #[.bool false] 4)).heap.size = w.heap.size + 2 := by simp
    have b0 : Below w.heap.size w W0 := by rw [hW0]; exact (((Below.refl _ w).alloc (Nat.le_refl _) _).alloc (by simp) _).alloc (by simp; omega) _
    have q0 : W0.heap.size = w.heap.size + 3 := by rw [hW0]; simp
    have bC : W0.heap[w.heap.size]? = some (.cells #[.int .i64 d, .int .i64 ar] 51 (0, 0)) := by
      have e1 := heap_new w (.cells #[.int .i64 d, .int .i64 ar] 51)
      have e2 := ((Below.refl (w.heap.size + 1) (w.alloc (.cells #[.int .i64 d, .int .i64 ar] 51))).alloc (by simp) (.cells #[.bool false] 4)).alloc (by simp) (.cells #[.string s] 9)
      rw [hW0]
      exact (e2.block _ (by omega)).trans e1
    have bR : Boxed W0 (w.heap.size + 1) 4 (.bool false) := by
      have := (Boxed.new (w.alloc (.cells #[.int .i64 d, .int .i64 ar] 51)) 4 (.bool false)).alloc (.cells #[.string s] 9)
      rw [z1] at this
      rw [hW0]
      exact this
    have bS : Boxed W0 (w.heap.size + 2) 9 (.string s) := by
      have := Boxed.new ((w.alloc (.cells #[.int .i64 d, .int .i64 ar] 51)).alloc (.cells #[.bool false] 4)) 9 (.string s)
      rw [z2] at this
      rw [hW0]
      exact this
    have HJ0 := Lib.hid (show RnI d ar w [] W0 from ⟨rfl, bC, bR, b0, by omega⟩)
    clear bC bR b0 z1 z2
    refine (callsIn_wide (n := 3)).1 ?_
    refine callsIn_of_wp_marks Tryz.func98 rfl trivial ?_ rfl
    simp only [Tryz.ntmps98, List.size_toArray, List.length_cons, List.length_nil, Nat.reduceAdd, Nat.reduceSub, Array.replicate_succ, Array.replicate_zero, List.push_toArray, List.append_toArray, List.nil_append, List.cons_append]
    gi_wp2_with (refine ⟨trivial, ?_⟩; gi_at_call 121; refine (callsIn_wide.2 (partsF_any s _)).mono ?_; rintro e w' ⟨rfl, rfl⟩)
    rw [← hW0]
    refine wpIn_rangeFunc_ownG rfl (by omega) (gf := 140) (lb := #[.pointer (some ⟨w.heap.size + 2, 0, none⟩)]) rfl trivial (enters_of Tryz.func140 (by kernel_rfl) rfl)
      (parts_stops maxLen (Nat.le_refl _) _ (by omega) (w.heap.size + 2) s hs (fun _ _ => True) W0 bS.cell) (fun _ _ => trivial) (fun _ _ _ _ _ _ _ _ => trivial) (Below.refl _ _) (fun _ => rfl)
      (RnI d ar w)
      (RnX d ar w)
      (fun (pre : List (Tx maxLen)) A B row hsx hg hr => ⟨hsx.1, hsx.2.same hg fun r e => by have := (hr r e).1; omega⟩)
      (fun c (pre : List (Tx maxLen)) A B row hsx hg hr => ⟨hsx.1, hsx.2.1, hsx.2.2.same hg fun r e => by have := (hr r e).1; omega⟩)
      HJ0.out
      (fun x => { tmps := #[.agg #[.int .i64 d, .int .i64 ar], .string s, .pointer (some ⟨w.heap.size, 0, none⟩), undef, .pointer (some ⟨w.heap.size + 1, 0, none⟩), .string x.1, .pointer (some ⟨w.heap.size, 0, none⟩), .int .i64 d, .bool false, undef, undef, undef, .string s, .func (.func 140) #[] #[.pointer (some ⟨w.heap.size + 2, 0, none⟩)], .string x.1, undef, undef, undef, undef], defers := [] }) ?assign ?body ?done ?stop
    case assign =>
      intro l x W K hK
      gi_wp2
      exact hK
    case body =>
      rintro l pre x W ⟨hpl, hJ⟩ hlt
      have c0 := box_cells hJ.bc
      have hcn := Lib.hid (cname_any d ar x.1 W x.2)
      have HJ := Lib.hid hJ
      have HP := Lib.hid hpl
      have LC := Lib.hid (show ∀ j v, ([.int .i64 d, .int .i64 ar] : List Value)[j]? = some v → W.cell? ⟨w.heap.size, 0 + j, none⟩ = some v from fun j v hv => by rw [c0, Nat.zero_add]; simpa using hv)
      clear hJ hpl
      cases hx : okName d x.1 with
      | true =>
        rw [hx] at hcn
        have HA := Lib.hid (show ((pre ++ [x]).map (·.1)).all (okName d) = true by rw [List.map_append, List.all_append, HP.out]; simpa using hx)
        clear hx
        gi_wp2_with (refine ⟨trivial, ?_⟩; gi_at_call 67; refine (CallsIn.inRound l (callsIn_wide.2 hcn.out)).mono ?_; rintro e W2 ⟨rfl, b2⟩; have HJ2 := Lib.hid (HJ.out.below b2); have hc2 := HJ2.out.br.cell; have hf2 := HJ2.out.br.frozen; have KF := Lib.hid (show KeepsFrom W0.heap.size W W2 from ⟨b2.size, fun k o _ hk _ => (b2.block k (heap_lt hk)).trans hk⟩); clear b2)
        exact ⟨KF.out, trivial, HA.out, HJ2.out⟩
      | false =>
        rw [hx] at hcn
        have HA := Lib.hid (show ((pre ++ [x]).map (·.1)).all (okName d) = false by rw [List.map_append, List.all_append]; simp [hx])
        clear hx
        gi_wp2_with (refine ⟨trivial, ?_⟩; gi_at_call 67; refine (CallsIn.inRound l (callsIn_wide.2 hcn.out)).mono ?_; rintro e W2 ⟨rfl, b2⟩; have HJ2 := Lib.hid (HJ.out.below b2); have hc2 := HJ2.out.br.cell; have hf2 := HJ2.out.br.frozen; have KF := Lib.hid (show KeepsFrom W0.heap.size W W2 from ⟨b2.size, fun k o _ hk _ => (b2.block k (heap_lt hk)).trans hk⟩); clear b2)
        exact ⟨KF.out.trans (KeepsFrom.of_grownBy (grownBy_setCell' W2 (w.heap.size + 1) (.bool false)) (fun j e => by injection e with e; omega)), rfl, HA.out, HJ2.out.set _⟩
    case done =>
      rintro D xs W hD hxs ⟨hpl, hJ⟩ hK
      have HN := Lib.hid (show (parts s).all (okName d) = true by rw [← hxs]; exact hpl)
      have hc := hJ.br.cell
      have hf := hJ.br.frozen
      have HJ1 := Lib.hid (hJ.set (.bool true))
      have HK1 := Lib.hid (show (W.setCell ⟨w.heap.size + 1, 0, none⟩ (.bool true)).heap[D]? = some (.deferred (some [])) from ((grownBy_setCell' W (w.heap.size + 1) (.bool true)).block D (heap_lt hK) (fun e => by injection e with e; omega)).trans hK)
      clear hJ hK hpl hxs
      gi_wp2
      have HJ2 := Lib.hid (RnJ.same HJ1.out (grownBy_putObj' _ D (.deferred none)) (fun b e => by injection e with e; omega))
      refine ⟨by simp, .inl ⟨_, _, rfl, run_takeDeferred HK1.out, ?_⟩⟩
      refine ⟨_, results_cell1 (i := 4) (b := w.heap.size + 1) Tryz.results98 Tryz.isAgg4 rfl HJ2.out.br.cell, ?_⟩
      exact ⟨by rw [HO.out, HN.out], HJ2.out.bel⟩
    case stop =>
      rintro D c pre W hD hSp ⟨rfl, hn, hJ⟩ hK
      have HN := Lib.hid (show (parts s).all (okName d) = false from all_prefix_false hSp hn)
      have HJ1 := Lib.hid hJ
      have HK1 := Lib.hid hK
      clear hJ hK hn hSp
      gi_wp2
      have HJ2 := Lib.hid (RnJ.same HJ1.out (grownBy_putObj' _ D (.deferred none)) (fun b e => by injection e with e; omega))
      refine ⟨by simp, .inl ⟨_, _, rfl, run_takeDeferred HK1.out, ?_⟩⟩
      refine ⟨_, results_cell1 (i := 4) (b := w.heap.size + 1) Tryz.results98 Tryz.isAgg4 rfl HJ2.out.br.cell, ?_⟩
      exact ⟨by rw [HO.out, HN.out], HJ2.out.bel⟩
end Go.Proofs.YtciijpahjjoppaaGreat
end
section
namespace Go.Proofs.YtciijpahjjoppaaGreat
open Go.RowKit Go.Deep
set_option maxRecDepth 100000 in
set_option maxHeartbeats 1000000 in
theorem allE_any (w0 : World) (g : Nat) (c : Value) (f : List D → Bool) (a : Option Addr) (len cap : Nat) (l : List (List D)) (hA : At w0 (.slice a len cap) (.row l)) (hs : ∀ x ∈ l, ShE x) (hf : OkFn w0 g c l f) (eg : ∀ args w, (callFunc g args).run Tryz.prog w = .ok (.enter g args) w) (W : World) (hW : Below w0.heap.size w0 W) :
    Calls Tryz.prog 64 #[.slice a len cap, .func (.func g) #[c] #[]] W fun e W' => e = .returned (.bool (okAll l f)) ∧ Below W.heap.size W W' := by
  have HA := Lib.hid hA
  have HS := Lib.hid hs
  have HF := Lib.hid hf
  have HW := Lib.hid hW
  have hle := hA.len_le
  have HL := Lib.hid hA.len_eq.1
  clear hA hs hf hW
  by_cases hbig : 512 < len
  · have hd : decide ((512 : Int) < (len : Int)) = true := by simp; omega
    have HO := Lib.hid (okAll_long (f := f) (show 512 < l.length by rw [HL.out]; exact hbig))
    go_enter Tryz.func64, Tryz.ntmps64
    go_wp2_with fail
    go_ret
    exact ⟨by rw [HO.out]; rfl, Below.refl _ _⟩
  · have hd : decide ((512 : Int) < (len : Int)) = false := by simp; omega
    go_enter Tryz.func64, Tryz.ntmps64
    go_wp2_with fail
    go_loopw [12] (fun i wr => ∃ k : Nat, k ≤ len ∧ i = .int .i64 k ∧ (l.take k).all f = true ∧ Below W.heap.size W wr) (fun i _ => len - (intOf i).toNat)
    case atStart => exact ⟨0, Nat.zero_le _, rfl, rfl, Below.refl _ _⟩
    case round =>
      obtain ⟨k, hk, rfl, ht, hb⟩ := hrel
      have HT := Lib.hid ht
      have HB := Lib.hid hb
      clear ht hb
      by_cases hlt : k < len
      · obtain ⟨b, o, vs, ds, rfl, hbl, hx, hv, hc⟩ := HA.out.elem hlt
        have hfn := HF.out ds (List.mem_of_getElem? hx) vs hv
        have hdl : ds.length = 5 := (HS.out _ (List.mem_of_getElem? hx)).ln
        rw [hdl] at hc
        have hvl := Lib.hid (hv.len.trans hdl)
        have hvo := Lib.hid hv.one
        clear hdl hv
        have B0 := HW.out.trans (HB.out.mono HW.out.size)
        have hbw : b < wr.heap.size := Nat.lt_of_lt_of_le hbl B0.size
        have C0 := Lib.hid (show ∀ j v, vs[j]? = some v → wr.cell? ⟨b, o + k * 5 + j, none⟩ = some v from fun j v hv => (B0.cell (p := ⟨b, o + k * 5 + j, none⟩) hbl).trans (hc j v hv))
        have N1 := (Below.refl wr.heap.size wr).alloc (Nat.le_refl _) (.cells ⟨vs⟩ 24)
        have C2 := Lib.hid (show ∀ j v, vs[j]? = some v → (wr.alloc (.cells ⟨vs⟩ 24)).cell? ⟨wr.heap.size, 0 + j, none⟩ = some v from fun j v hv => by
          rw [box_cells (heap_new wr (.cells ⟨vs⟩ 24))]
          simpa using hv)
        have FN := Lib.hid (hfn _ (B0.trans (N1.mono B0.size)))
        have HR := Lib.hid (HB.out.trans (N1.mono HB.out.size))
        have HX := Lib.hid hx
        clear hfn hx B0 hc N1
        go_wp2_with (first
          | ((with_reducible refine wp_loadAgg (o := ⟨some 15, _, _, _, _, _⟩) rfl (.tmp 14) 24 rfl 5 Tryz.isAgg24 Tryz.sizeOf24 b (o + k * 5) ?_ vs hvl.out C0.out ?_); rfl)
          | ((with_reducible refine wp_storeNew (o := ⟨none, .store 24 (.tmp 6) (.tmp 15), _, _, _, _⟩) rfl (.tmp 6) (.tmp 15) 24 rfl 5 Tryz.sizeOf24 _ ?_ ?_ vs ?_ hvl.out hvo.out ?_); rfl; rfl; rfl)
          | ((with_reducible refine wp_loadAgg (o := ⟨some 17, _, _, _, _, _⟩) rfl (.tmp 6) 24 rfl 5 Tryz.isAgg24 Tryz.sizeOf24 wr.heap.size 0 ?_ vs hvl.out C2.out ?_); rfl))
        refine FN.out.mono ?_
        rintro e w3 ⟨rfl, b3⟩
        have HB4 := Lib.hid (HR.out.trans (b3.mono HR.out.size))
        clear b3
        cases hsm : f ds with
        | true =>
          have HE := Lib.hid (all_take_succ HX.out HT.out hsm)
          clear hsm
          go_wp2_with fail
          go_roundw
          case rel => exact ⟨k + 1, by omega, by go_num, HE.out, HB4.out⟩
          case measure => simp [intOf]; omega
        | false =>
          have HE := Lib.hid (okAll_bad HX.out hsm)
          clear hsm
          go_wp2_with fail
          go_ret
          exact ⟨by rw [HE.out]; rfl, HB4.out⟩
      · obtain rfl : k = len := by omega
        have HE := Lib.hid (okAll_good (l := l) (f := f) (by rw [HL.out]; omega) (by rw [HL.out]; exact HT.out))
        go_wp2_with fail
        go_ret
        exact ⟨by rw [HE.out]; rfl, HB.out⟩
end Go.Proofs.YtciijpahjjoppaaGreat
end
