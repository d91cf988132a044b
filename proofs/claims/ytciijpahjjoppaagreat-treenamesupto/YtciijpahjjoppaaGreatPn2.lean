/-
  Texts of this proof, put together.
-/
import Derived.Test.YtciijpahjjoppaaGreatPn1
import Derived.Lib.Bytealg
import Derived.RangeFuncNested
import Derived.RangeFuncBound
import Derived.RangeFuncCalls
import Derived.RangeFuncLeaves
import Derived.RangeFuncWrites
import Derived.RangeFuncBox
import Derived.Shelf.Abstract
import Derived.Shelf.RegionOpen
import Derived.OwnWalkIn
import Derived.TacticsInMore
import Derived.LoopNIn
import Derived.LoopIn
import Derived.Maps.OwnIn
import Derived.Maps.AppendAt
section
namespace Go.Proofs.YtciijpahjjoppaaGreat
open Go.RowKit

/-- A slice of texts. -/
def IsStrs (w : World) (a : Option Addr) (len cap : Nat) (ss : List ByteArray) : Prop :=
  ss.length = len ∧ len ≤ cap ∧ cap ≤ maxLen ∧ (∀ x ∈ ss, x.size ≤ maxLen) ∧ (len = 0 ∨ ∃ b o, a = some ⟨b, o, none⟩ ∧ b < w.heap.size ∧ ∀ j x, ss[j]? = some x → w.cell? ⟨b, o + j, none⟩ = some (.string x))
theorem IsStrs.kept {w w' : World} {a : Option Addr} {len cap : Nat} {ss : List ByteArray} (h : IsStrs w a len cap ss) (hs : w.heap.size ≤ w'.heap.size) (hb : ∀ b o, a = some ⟨b, o, none⟩ → b < w.heap.size → w'.heap[b]? = w.heap[b]?) : IsStrs w' a len cap ss := by
  obtain ⟨h1, h2, h3, h4, h5⟩ := h
  refine ⟨h1, h2, h3, h4, ?_⟩
  rcases h5 with h5 | ⟨b, o, e, hl, hc⟩
  · exact .inl h5
  · exact .inr ⟨b, o, e, by omega, fun j x hx => (cell_eq (hb b o e hl)).trans (hc j x hx)⟩
theorem IsStrs.below {w w' : World} {a : Option Addr} {len cap : Nat} {ss : List ByteArray} (h : IsStrs w a len cap ss) (hb : Below w.heap.size w w') : IsStrs w' a len cap ss :=
  h.kept hb.size fun b _ _ hl => hb.block b hl
theorem IsStrs.nil (w : World) : IsStrs w none 0 0 [] := ⟨rfl, Nat.le_refl _, by decide, by simp, .inl rfl⟩
theorem IsStrs.len_le {w : World} {a : Option Addr} {len cap : Nat} {ss : List ByteArray} (h : IsStrs w a len cap ss) : len ≤ 9223372036854775807 := by
  have h1 := h.2.1
  have h2 := h.2.2.1
  unfold maxLen at h2
  omega
theorem IsStrs.at {w : World} {a : Option Addr} {len cap : Nat} {ss : List ByteArray} (h : IsStrs w a len cap ss) {k : Nat} (hk : k < len) :
    ∃ b o x, a = some ⟨b, o, none⟩ ∧ ss[k]? = some x ∧ x.size ≤ maxLen ∧ w.cell? ⟨b, o + k, none⟩ = some (.string x) := by
  obtain ⟨x, hx⟩ : ∃ x, ss[k]? = some x := ⟨ss[k]'(by rw [h.1]; exact hk), List.getElem?_eq_getElem _⟩
  rcases h.2.2.2.2 with h00 | ⟨b, o, rfl, hbl, hcell⟩
  · omega
  · exact ⟨b, o, x, rfl, hx, h.2.2.2.1 x (List.mem_of_getElem? hx), hcell k x hx⟩

/-- v is a list of texts of one's own, from the block 'base' on. -/
def OwnS (base : Nat) (w : World) (v : Value) (ss : List ByteArray) : Prop := w.ownsRow base 9 1 v ss.length (ss.map Value.string)
theorem OwnS.nil (base : Nat) (w : World) : OwnS base w (.slice none 0 0) [] := World.ownsRow_nil _ _ _ _
theorem OwnS.lt {base : Nat} {w : World} {v : Value} {ss : List ByteArray} (h : OwnS base w v ss) (k : Nat) (hk : v.ownBlock = some k) : base ≤ k ∧ k < w.heap.size := World.ownsRow.lt h k hk
theorem OwnS.kept {base : Nat} {w w' : World} {v : Value} {ss : List ByteArray} (h : OwnS base w v ss) (hb : ∀ k, v.ownBlock = some k → w'.heap[k]? = w.heap[k]?) : OwnS base w' v ss := by
  refine ⟨h.1, ?_⟩
  rcases h.2 with h4 | ⟨g, cap, cur, hv, hb', hg, r⟩
  · exact .inl h4
  · exact .inr ⟨g, cap, cur, hv, hb', (hb g (by rw [hv]; rfl)).trans hg, r⟩
theorem OwnS.below {base : Nat} {w w' : World} {v : Value} {ss : List ByteArray} (h : OwnS base w v ss) (hb : Below w.heap.size w w') : OwnS base w' v ss :=
  h.kept fun k hk => hb.block k (h.lt k hk).2
theorem OwnS.strs {base : Nat} {w : World} {v : Value} {ss : List ByteArray} (h : OwnS base w v ss) (hs : ∀ x ∈ ss, x.size ≤ maxLen) : ∃ a cap, v = .slice a ss.length cap ∧ IsStrs w a ss.length cap ss := by
  rcases h.2 with ⟨rfl, h4⟩ | ⟨g, cap, cur, rfl, hb', hg, h1, h2, h3, h5⟩
  · have : ss = [] := List.eq_nil_of_length_eq_zero h4
    subst this
    exact ⟨none, 0, rfl, IsStrs.nil _⟩
  · refine ⟨_, cap, rfl, ⟨rfl, h1, h2, hs, .inr ⟨g, 0, rfl, heap_lt hg, fun j x hx => ?_⟩⟩⟩
    have hj := (List.getElem?_eq_some_iff.1 hx).1
    have e1 : cur.toList[j]? = (ss.map Value.string)[j]? := by rw [← h5, List.getElem?_take]; simp [hj]
    have e2 : cur[j]? = some (.string x) := by
      rw [List.getElem?_map, hx] at e1
      simpa using e1
    simp [World.cell?, hg, e2]
theorem OwnS.lit (w : World) (ss : List ByteArray) (hl : ss.length ≤ maxLen) : OwnS w.heap.size (w.alloc (.cells (ss.map Value.string).toArray 9)) (.slice (some ⟨w.heap.size, 0, none⟩) ss.length ss.length) ss :=
  ⟨by simp, .inr ⟨w.heap.size, ss.length, _, rfl, Nat.le_refl _, heap_new _ _, Nat.le_refl _, hl, by simp, List.take_of_length_le (by simp)⟩⟩
theorem isStrs_row {w : World} {n : Nat} {ss : List ByteArray} (hg : w.heap[n]? = some (.cells (ss.map Value.string).toArray 9 (0, 0))) (hl : ss.length ≤ maxLen) (hs : ∀ x ∈ ss, x.size ≤ maxLen) : IsStrs w (some ⟨n, 0, none⟩) ss.length ss.length ss := by
  refine ⟨rfl, Nat.le_refl _, hl, hs, .inr ⟨n, 0, rfl, heap_lt hg, fun j x hx => ?_⟩⟩
  simp [World.cell?, hg, hx]
theorem lit_strs (w : World) (ss : List ByteArray) (hl : ss.length ≤ maxLen) (hs : ∀ x ∈ ss, x.size ≤ maxLen) : IsStrs (w.alloc (.cells (ss.map Value.string).toArray 9)) (some ⟨w.heap.size, 0, none⟩) ss.length ss.length ss := isStrs_row (heap_new _ _) hl hs
theorem words_ok (d : Int) : ∀ x ∈ wordsOf d, x.size ≤ maxLen := fun x hx => by have := words_small d x hx; unfold maxLen; omega

set_option maxHeartbeats 400000 in
set_option maxRecDepth 100000 in
theorem all_pas (w : World) : Calls Tryz.prog 134 #[.int .i64 0] w fun e w' => e = .returned (.slice (some ⟨w.heap.size, 0, none⟩) 34 34) ∧ w' = w.alloc (.cells (pasW.map Value.string).toArray 9) := by
  go_enter Tryz.func134, Tryz.ntmps134
  go_wp2_with fail
  go_ret
  exact ⟨rfl, rfl⟩
set_option maxHeartbeats 400000 in
set_option maxRecDepth 100000 in
theorem all_cee (w : World) : Calls Tryz.prog 134 #[.int .i64 1] w fun e w' => e = .returned (.slice (some ⟨w.heap.size, 0, none⟩) 21 21) ∧ w' = w.alloc (.cells (ceeW.map Value.string).toArray 9) := by
  go_enter Tryz.func134, Tryz.ntmps134
  go_wp2_with fail
  go_ret
  exact ⟨rfl, rfl⟩
set_option maxHeartbeats 400000 in
set_option maxRecDepth 100000 in
theorem all_no (d : Int) (w : World) (h0 : d ≠ 0) (h1 : d ≠ 1) : Calls Tryz.prog 134 #[.int .i64 d] w fun e w' => e = .returned (.slice none 0 0) ∧ w' = w := by
  have e0 : (d == 0) = false := by simpa using h0
  have e1 : (d == 1) = false := by simpa using h1
  go_enter Tryz.func134, Tryz.ntmps134
  go_wp2_with fail
  go_ret
  exact ⟨rfl, rfl⟩
set_option maxHeartbeats 400000 in
set_option maxRecDepth 100000 in
theorem refAll_pas (w : World) : Calls Tryz.prog 117 #[.int .i64 0] w fun e w' => e = .returned (.slice (some ⟨w.heap.size, 0, none⟩) 34 34) ∧ w' = w.alloc (.cells (pasW.map Value.string).toArray 9) := by
  go_enter Tryz.func117, Tryz.ntmps117
  go_wp2_with fail
  go_ret
  exact ⟨rfl, rfl⟩
set_option maxHeartbeats 400000 in
set_option maxRecDepth 100000 in
theorem refAll_cee (w : World) : Calls Tryz.prog 117 #[.int .i64 1] w fun e w' => e = .returned (.slice (some ⟨w.heap.size, 0, none⟩) 21 21) ∧ w' = w.alloc (.cells (ceeW.map Value.string).toArray 9) := by
  go_enter Tryz.func117, Tryz.ntmps117
  go_wp2_with fail
  go_ret
  exact ⟨rfl, rfl⟩
set_option maxHeartbeats 400000 in
set_option maxRecDepth 100000 in
theorem refAll_no (d : Int) (w : World) (h0 : d ≠ 0) (h1 : d ≠ 1) : Calls Tryz.prog 117 #[.int .i64 d] w fun e w' => e = .returned (.slice none 0 0) ∧ w' = w := by
  have e0 : (d == 0) = false := by simpa using h0
  have e1 : (d == 1) = false := by simpa using h1
  go_enter Tryz.func117, Tryz.ntmps117
  go_wp2_with fail
  go_ret
  exact ⟨rfl, rfl⟩
/-- What All leaves. -/
def AllPost (d : Int) (w : World) (e : Ending) (w' : World) : Prop := ∃ v, e = .returned v ∧ OwnS w.heap.size w' v (wordsOf d) ∧ Below w.heap.size w w'
theorem allPost_pas (w : World) : AllPost 0 w (.returned (.slice (some ⟨w.heap.size, 0, none⟩) 34 34)) (w.alloc (.cells (pasW.map Value.string).toArray 9)) :=
  ⟨_, rfl, OwnS.lit w pasW (by rw [pas_len]; decide), (Below.refl _ _).alloc (Nat.le_refl _) _⟩
theorem allPost_cee (w : World) : AllPost 1 w (.returned (.slice (some ⟨w.heap.size, 0, none⟩) 21 21)) (w.alloc (.cells (ceeW.map Value.string).toArray 9)) :=
  ⟨_, rfl, OwnS.lit w ceeW (by rw [cee_len]; decide), (Below.refl _ _).alloc (Nat.le_refl _) _⟩
theorem allPost_no (d : Int) (w : World) (h0 : d ≠ 0) (h1 : d ≠ 1) : AllPost d w (.returned (.slice none 0 0)) w :=
  ⟨_, rfl, by rw [wordsOf_no d h0 h1]; exact OwnS.nil _ _, Below.refl _ _⟩
theorem all_any (d : Int) (w : World) : Calls Tryz.prog 134 #[.int .i64 d] w (AllPost d w) := by
  by_cases h0 : d = 0
  · subst h0
    refine (all_pas w).mono ?_
    rintro e w' ⟨rfl, rfl⟩
    exact allPost_pas w
  · by_cases h1 : d = 1
    · subst h1
      refine (all_cee w).mono ?_
      rintro e w' ⟨rfl, rfl⟩
      exact allPost_cee w
    · refine (all_no d w h0 h1).mono ?_
      rintro e w' ⟨rfl, rfl⟩
      exact allPost_no d _ h0 h1
theorem refAll_any (d : Int) (w : World) : Calls Tryz.prog 117 #[.int .i64 d] w (AllPost d w) := by
  by_cases h0 : d = 0
  · subst h0
    refine (refAll_pas w).mono ?_
    rintro e w' ⟨rfl, rfl⟩
    exact allPost_pas w
  · by_cases h1 : d = 1
    · subst h1
      refine (refAll_cee w).mono ?_
      rintro e w' ⟨rfl, rfl⟩
      exact allPost_cee w
    · refine (refAll_no d w h0 h1).mono ?_
      rintro e w' ⟨rfl, rfl⟩
      exact allPost_no d _ h0 h1

theorem isIn_take_succ {ss : List ByteArray} {k : Nat} {x s : ByteArray} (hx : ss[k]? = some x) (h : isIn s (ss.take k) = false) (hn : (x.toList == s.toList) = false) : isIn s (ss.take (k + 1)) = false := by
  rw [take_snoc hx]
  unfold isIn at h ⊢
  rw [List.any_append, h]
  simpa using hn
theorem isIn_take_hit {ss : List ByteArray} {k : Nat} {x s : ByteArray} (hx : ss[k]? = some x) (hn : (x.toList == s.toList) = true) : isIn s ss = true := by
  rw [isIn_iff, ← (beq_iff x s).1 hn]
  exact List.mem_of_getElem? hx

set_option maxHeartbeats 400000 in
theorem among_any (a : Option Addr) (len cap : Nat) (ss : List ByteArray) (s : ByteArray) (w : World) (hS : IsStrs w a len cap ss) :
    Calls Tryz.prog 56 #[.slice a len cap, .string s] w fun e w' => e = .returned (.bool (isIn s ss)) ∧ w' = w := by
  have HS := Lib.hid hS
  have hcap := hS.len_le
  clear hS
  generalize hr : isIn s ss = r
  have HR := Lib.hid hr
  clear hr
  go_enter Tryz.func56, Tryz.ntmps56
  go_wp2_with fail
  go_loop [5] (fun i => ∃ k : Nat, k ≤ len ∧ i = .int .i64 k ∧ isIn s (ss.take k) = false) (fun i => len - (intOf i).toNat)
  case atStart => exact ⟨0, Nat.zero_le _, rfl, rfl⟩
  case round =>
    obtain ⟨k, hk, rfl, hno⟩ := hrel
    have HN := Lib.hid hno
    clear hno
    by_cases hlt : k < len
    · obtain ⟨b, o, x, rfl, hx, hxs, hc⟩ := HS.out.at hlt
      have HX := Lib.hid hx
      clear hx
      cases hb : x.toList == s.toList with
      | true =>
        have HT := isIn_take_hit HX.out hb
        obtain rfl : r = true := by rw [← HR.out]; exact HT
        clear HT
        go_wp2_with fail
        go_ret
        exact ⟨rfl, rfl⟩
      | false =>
        have HT := Lib.hid (isIn_take_succ HX.out HN.out hb)
        go_wp2_with fail
        go_round
        case rel => exact ⟨k + 1, by omega, by go_num, HT.out⟩
        case measure => simp [intOf]; omega
    · obtain rfl : r = false := by
        rw [← HR.out, ← HN.out, List.take_of_length_le (by rw [HS.out.1]; omega)]
      go_wp2_with fail
      go_ret
      exact ⟨rfl, rfl⟩

set_option maxHeartbeats 400000 in
theorem index_any (a : Option Addr) (len cap : Nat) (ss : List ByteArray) (s : ByteArray) (w : World) (hS : IsStrs w a len cap ss) :
    Calls Tryz.prog 147 #[.slice a len cap, .string s] w fun e w' => ∃ n : Int, e = .returned (.int .i64 n) ∧ decide (0 ≤ n) = isIn s ss ∧ w' = w := by
  have HS := Lib.hid hS
  have hcap := hS.len_le
  clear hS
  generalize hr : isIn s ss = r
  have HR := Lib.hid hr
  clear hr
  go_enter Tryz.func147, Tryz.ntmps147
  go_wp2_with fail
  go_loop [8] (fun i => ∃ k : Nat, k ≤ len ∧ i = .int .i64 k ∧ isIn s (ss.take k) = false) (fun i => len - (intOf i).toNat)
  case atStart => exact ⟨0, Nat.zero_le _, rfl, rfl⟩
  case round =>
    obtain ⟨k, hk, rfl, hno⟩ := hrel
    have HN := Lib.hid hno
    clear hno
    by_cases hlt : k < len
    · obtain ⟨b, o, x, rfl, hx, hxs, hc⟩ := HS.out.at hlt
      have HX := Lib.hid hx
      clear hx
      cases hb0 : x.toList == s.toList with
      | true =>
        have HT := isIn_take_hit HX.out hb0
        have hb : (s.toList == x.toList) = true := by rw [beq_iff, (beq_iff x s).1 hb0]
        clear hb0
        obtain rfl : r = true := by rw [← HR.out]; exact HT
        clear HT
        go_wp2_with fail
        go_ret
        exact ⟨_, rfl, by simp, rfl⟩
      | false =>
        have HT := Lib.hid (isIn_take_succ HX.out HN.out hb0)
        have hb : (s.toList == x.toList) = false := by rw [beq_false]; exact fun e => (beq_false x s).1 hb0 e.symm
        clear hb0
        go_wp2_with fail
        go_round
        case rel => exact ⟨k + 1, by omega, by go_num, HT.out⟩
        case measure => simp [intOf]; omega
    · obtain rfl : r = false := by
        rw [← HR.out, ← HN.out, List.take_of_length_le (by rw [HS.out.1]; omega)]
      go_wp2_with fail
      go_ret
      exact ⟨_, rfl, by decide, rfl⟩

set_option maxHeartbeats 400000 in
theorem contains_any (a : Option Addr) (len cap : Nat) (ss : List ByteArray) (s : ByteArray) (w : World) (hS : IsStrs w a len cap ss) :
    Calls Tryz.prog 133 #[.slice a len cap, .string s] w fun e w' => e = .returned (.bool (isIn s ss)) ∧ w' = w := by
  have HS := Lib.hid hS
  clear hS
  generalize hr : isIn s ss = r
  have HR := Lib.hid hr
  clear hr
  go_enter Tryz.func133, Tryz.ntmps133
  go_wp2_with fail
  refine (index_any a len cap ss s _ HS.out).mono ?_
  rintro e w' ⟨n, rfl, hn, rfl⟩
  rw [HR.out] at hn
  cases r with
  | true =>
    have h0 : 0 ≤ n := by simpa using hn
    clear hn
    go_wp2_with fail
    go_ret
    exact ⟨rfl, rfl⟩
  | false =>
    go_wp2_with fail
    go_ret
    exact ⟨by rw [← hn]; rfl, rfl⟩

set_option maxHeartbeats 400000 in
theorem is_any (d : Int) (s : ByteArray) (w : World) :
    Calls Tryz.prog 102 #[.int .i64 d, .string s] w fun e w' => e = .returned (.bool (isIn s (wordsOf d))) ∧ Below w.heap.size w w' := by
  go_enter Tryz.func102, Tryz.ntmps102
  go_wp2_with fail
  refine (all_any d _).mono ?_
  rintro e w1 ⟨v, rfl, ho, hb⟩
  obtain ⟨a, cap, rfl, hS⟩ := ho.strs (words_ok d)
  have HS := Lib.hid hS
  have HB := Lib.hid hb
  clear hS hb ho
  go_wp2_with fail
  refine (contains_any _ _ _ _ s _ HS.out).mono ?_
  rintro e w2 ⟨rfl, rfl⟩
  go_wp2_with fail
  go_ret
  exact ⟨rfl, HB.out⟩
set_option maxHeartbeats 400000 in
theorem refIs_any (d : Int) (s : ByteArray) (w : World) :
    Calls Tryz.prog 77 #[.int .i64 d, .string s] w fun e w' => e = .returned (.bool (isIn s (wordsOf d))) ∧ Below w.heap.size w w' := by
  go_enter Tryz.func77, Tryz.ntmps77
  go_wp2_with fail
  refine (refAll_any d _).mono ?_
  rintro e w1 ⟨v, rfl, ho, hb⟩
  obtain ⟨a, cap, rfl, hS⟩ := ho.strs (words_ok d)
  have HS := Lib.hid hS
  have HB := Lib.hid hb
  clear hS hb ho
  go_wp2_with fail
  refine (among_any _ _ _ _ s _ HS.out).mono ?_
  rintro e w2 ⟨rfl, rfl⟩
  go_wp2_with fail
  go_ret
  exact ⟨rfl, HB.out⟩

/-- The same texts? -/
def sameL (xs ys : List ByteArray) : Bool := decide (xs.map (·.toList) = ys.map (·.toList))
theorem sameL_iff (xs ys : List ByteArray) : sameL xs ys = true ↔ xs = ys := by
  unfold sameL
  rw [decide_eq_true_iff]
  refine ⟨fun h => ?_, fun h => by rw [h]⟩
  apply List.ext_getElem?
  intro i
  have h1 := congrArg (fun l : List (List UInt8) => l[i]?) h
  simp only [List.getElem?_map] at h1
  cases hx : xs[i]? with
  | none => rw [hx] at h1; cases hy : ys[i]? with
    | none => rfl
    | some y => rw [hy] at h1; simp at h1
  | some x => rw [hx] at h1; cases hy : ys[i]? with
    | none => rw [hy] at h1; simp at h1
    | some y => rw [hy] at h1; simp at h1; rw [(beq_iff x y).1 (by simpa using h1)]
theorem sameL_refl (xs : List ByteArray) : sameL xs xs = true := (sameL_iff _ _).2 rfl
theorem sameL_no {xs ys : List ByteArray} (h : xs ≠ ys) : sameL xs ys = false := by
  rw [← Bool.not_eq_true, sameL_iff]; exact h

set_option maxHeartbeats 400000 in
theorem sameTexts_any (a a' : Option Addr) (len cap len' cap' : Nat) (xs ys : List ByteArray) (w : World) (hS : IsStrs w a len cap xs) (hS' : IsStrs w a' len' cap' ys) :
    Calls Tryz.prog 18 #[.slice a len cap, .slice a' len' cap'] w fun e w' => e = .returned (.bool (sameL xs ys)) ∧ ∃ n, w' = w.drewN n := by
  have HS := Lib.hid hS
  have HS' := Lib.hid hS'
  have hcap := hS.len_le
  have hcap' := hS'.len_le
  clear hS hS'
  generalize hr : sameL xs ys = r
  have HR := Lib.hid hr
  clear hr
  by_cases hl : len = len'
  · subst hl
    go_enter Tryz.func18, Tryz.ntmps18
    go_wp2_with fail
    go_loopw [5] (fun i wr => ∃ k n : Nat, k ≤ len ∧ i = .int .i64 k ∧ xs.take k = ys.take k ∧ wr = w.drewN n) (fun i _ => len - (intOf i).toNat)
    case atStart => exact ⟨0, 0, Nat.zero_le _, rfl, rfl, rfl⟩
    case round =>
      obtain ⟨k, n, hk, rfl, hno, rfl⟩ := hrel
      have HN := Lib.hid hno
      clear hno
      by_cases hlt : k < len
      · obtain ⟨b, o, x, rfl, hx, hxs, hc⟩ := HS.out.at hlt
        obtain ⟨b', o', y, rfl, hy, hys, hc'⟩ := HS'.out.at hlt
        have HX := Lib.hid hx
        have HY := Lib.hid hy
        clear hx hy
        cases hb : x.toList == y.toList with
        | true =>
          have HT : xs.take (k + 1) = ys.take (k + 1) := by rw [take_snoc HX.out, take_snoc HY.out, HN.out, (beq_iff x y).1 hb]
          have HT := Lib.hid HT
          go_wp2_with fail
          go_quiet (fail)
          go_wp2_with fail
          go_roundw
          case rel => exact ⟨k + 1, _, by omega, by go_num, HT.out, by first | rfl | exact World.drewN_drewN _ _ _⟩
          case measure => simp [intOf]; omega
        | false =>
          obtain rfl : r = false := by
            rw [← HR.out]
            refine sameL_no fun e => (beq_false x y).1 hb ?_
            have := HX.out
            rw [e, HY.out] at this
            exact (Option.some.inj this).symm
          go_wp2_with fail
          go_quiet (fail)
          go_wp2_with fail
          go_ret
          exact ⟨rfl, _, by first | rfl | exact World.drewN_drewN _ _ _⟩
      · obtain rfl : r = true := by
          rw [← HR.out, sameL_iff]
          have := HN.out
          rw [List.take_of_length_le (by rw [HS.out.1]; omega), List.take_of_length_le (by rw [HS'.out.1]; omega)] at this
          exact this
        go_wp2_with fail
        go_ret
        exact ⟨rfl, _, rfl⟩
  · obtain rfl : r = false := by
      rw [← HR.out]
      refine sameL_no fun e => hl ?_
      rw [← HS.out.1, ← HS'.out.1, e]
    have hne : ((len : Int) == (len' : Int)) = false := by simp; omega
    go_enter Tryz.func18, Tryz.ntmps18
    go_wp2_with fail
    go_ret
    exact ⟨rfl, 0, rfl⟩
end Go.Proofs.YtciijpahjjoppaaGreat
end
section
namespace Go.Proofs.YtciijpahjjoppaaGreat
open Go.RowKit

def bt (s : ByteArray) (k : Nat) : UInt8 := s.data.toList.getD k 0
theorem bt_eq (s : ByteArray) (k : Nat) (h : k < s.size) : s[k] = bt s k := by
  unfold bt
  rw [List.getD_eq_getElem?_getD, List.getElem?_eq_getElem (by simpa using h)]; rfl
def beg (c : UInt8) : Bool := decide (97 ≤ c.toNat) && decide (c.toNat ≤ 122)
def goOn (c : UInt8) : Bool := decide (c.toNat = 95) || (decide (48 ≤ c.toNat) && decide (c.toNat ≤ 57))
def letter (c : UInt8) (f : Bool) : Bool := beg c || (!f && goOn c)
/-- Spelt as a name. -/
def spelt (s : ByteArray) : Bool := decide (0 < s.size) && (List.range s.size).all fun j => letter (bt s j) (decide (j = 0))
theorem spelt_iff (s : ByteArray) : spelt s = true ↔ 0 < s.size ∧ ∀ j, j < s.size → letter (bt s j) (decide (j = 0)) = true := by
  unfold spelt
  rw [Bool.and_eq_true, decide_eq_true_iff, List.all_eq_true]
  simp only [List.mem_range]
def chk (s : ByteArray) : Nat := if spelt s then (if 32 < s.size then 3 else 0) else 11

theorem toNat_lt (c : UInt8) : c.toNat < 256 := c.toNat_lt
set_option maxHeartbeats 400000 in
theorem mayBegin_any (c : UInt8) (w : World) : Calls Tryz.prog 145 #[.int .u8 (c.toNat : Int)] w fun e w' => e = .returned (.bool (beg c)) ∧ w' = w := by
  unfold beg
  have hc := toNat_lt c
  generalize c.toNat = n at *
  by_cases h1 : 97 ≤ n
  · by_cases h2 : n ≤ 122
    · have d1 : decide ((97 : Int) ≤ (n : Int)) = true := by simp; omega
      have d2 : decide ((n : Int) ≤ (122 : Int)) = true := by simp; omega
      rw [show (decide (97 ≤ n) && decide (n ≤ 122)) = true by simp [h1, h2]]
      go_enter Tryz.func145, Tryz.ntmps145
      go_wp2_with fail
      go_ret
      exact ⟨rfl, rfl⟩
    · have d1 : decide ((97 : Int) ≤ (n : Int)) = true := by simp; omega
      have d2 : decide ((n : Int) ≤ (122 : Int)) = false := by simp; omega
      rw [show (decide (97 ≤ n) && decide (n ≤ 122)) = false by simp [h1, h2]]
      go_enter Tryz.func145, Tryz.ntmps145
      go_wp2_with fail
      go_ret
      exact ⟨rfl, rfl⟩
  · have d1 : decide ((97 : Int) ≤ (n : Int)) = false := by simp; omega
    rw [show (decide (97 ≤ n) && decide (n ≤ 122)) = false by simp [h1]]
    go_enter Tryz.func145, Tryz.ntmps145
    go_wp2_with fail
    go_ret
    exact ⟨rfl, rfl⟩
theorem int_beq_yes {n : Nat} {m : Nat} (h : n = m) : ((n : Int) == (m : Int)) = true := by simp; omega
theorem int_beq_no {n : Nat} {m : Nat} (h : n ≠ m) : ((n : Int) == (m : Int)) = false := by simp; omega
set_option maxHeartbeats 400000 in
theorem mayGoOn_any (c : UInt8) (w : World) : Calls Tryz.prog 146 #[.int .u8 (c.toNat : Int)] w fun e w' => e = .returned (.bool (goOn c)) ∧ w' = w := by
  unfold goOn
  have hc := toNat_lt c
  generalize c.toNat = n at *
  by_cases h0 : n = 95
  · subst h0
    rw [show (decide (95 = 95) || (decide (48 ≤ 95) && decide (95 ≤ 57))) = true by decide]
    go_enter Tryz.func146, Tryz.ntmps146
    go_wp2_with fail
    go_ret
    exact ⟨rfl, rfl⟩
  · have d0 : ((n : Int) == (95 : Int)) = false := int_beq_no (m := 95) h0
    by_cases h1 : 48 ≤ n
    · have d1 : decide ((48 : Int) ≤ (n : Int)) = true := by simp; omega
      by_cases h2 : n ≤ 57
      · have d2 : decide ((n : Int) ≤ (57 : Int)) = true := by simp; omega
        rw [show (decide (n = 95) || (decide (48 ≤ n) && decide (n ≤ 57))) = true by simp [h1, h2]]
        clear h0
        go_enter Tryz.func146, Tryz.ntmps146
        go_wp2_with fail
        go_ret
        exact ⟨rfl, rfl⟩
      · have d2 : decide ((n : Int) ≤ (57 : Int)) = false := by simp; omega
        rw [show (decide (n = 95) || (decide (48 ≤ n) && decide (n ≤ 57))) = false by simp [h0, h2]]
        clear h0
        go_enter Tryz.func146, Tryz.ntmps146
        go_wp2_with fail
        go_ret
        exact ⟨rfl, rfl⟩
    · have d1 : decide ((48 : Int) ≤ (n : Int)) = false := by simp; omega
      rw [show (decide (n = 95) || (decide (48 ≤ n) && decide (n ≤ 57))) = false by simp [h0, h1]]
      clear h0
      go_enter Tryz.func146, Tryz.ntmps146
      go_wp2_with fail
      go_ret
      exact ⟨rfl, rfl⟩
set_option maxHeartbeats 800000 in
theorem letter_any (c : UInt8) (f : Bool) (w : World) : Calls Tryz.prog 116 #[.int .u8 (c.toNat : Int), .bool f] w fun e w' => e = .returned (.bool (letter c f)) ∧ w' = w := by
  unfold letter beg goOn
  have hc := toNat_lt c
  generalize c.toNat = n at *
  have fin : ∀ r : Bool, (decide ((97 : Int) ≤ (n : Int)) = true ∧ decide ((n : Int) ≤ 122) = true) → r = true → Calls Tryz.prog 116 #[.int .u8 (n : Int), .bool f] w fun e w' => e = .returned (.bool r) ∧ w' = w := by
    intro r ⟨d1, d2⟩ hr
    subst hr
    go_enter Tryz.func116, Tryz.ntmps116
    go_wp2_with fail
    go_ret
    exact ⟨rfl, rfl⟩
  by_cases hb : 97 ≤ n ∧ n ≤ 122
  · exact fin _ ⟨by simp; omega, by simp; omega⟩ (by simp [hb.1, hb.2])
  · clear fin
    have eb : (decide (97 ≤ n) && decide (n ≤ 122)) = false := by
      rw [← Bool.not_eq_true, Bool.and_eq_true, decide_eq_true_iff, decide_eq_true_iff]; exact hb
    rw [eb, Bool.false_or]
    have tail : ∀ r : Bool, (decide ((97 : Int) ≤ (n : Int)) = false ∨ (decide ((97 : Int) ≤ (n : Int)) = true ∧ decide ((n : Int) ≤ 122) = false)) →
        (f = true ∧ r = false ∨ f = false ∧ (((n : Int) == 95) = true ∧ r = true ∨ ((n : Int) == 95) = false ∧ (decide ((48 : Int) ≤ (n : Int)) = false ∧ r = false ∨ decide ((48 : Int) ≤ (n : Int)) = true ∧ decide ((n : Int) ≤ 57) = r))) →
        Calls Tryz.prog 116 #[.int .u8 (n : Int), .bool f] w fun e w' => e = .returned (.bool r) ∧ w' = w := by
      intro r h1 h2
      rcases h1 with d1 | ⟨d1, d2⟩ <;> rcases h2 with ⟨rfl, rfl⟩ | ⟨rfl, ⟨d3, rfl⟩ | ⟨d3, ⟨d4, rfl⟩ | ⟨d4, d5⟩⟩⟩
      all_goals
        go_enter Tryz.func116, Tryz.ntmps116
        go_wp2_with fail
        go_ret
        first | exact ⟨rfl, rfl⟩ | exact ⟨by rw [← d5]; rfl, rfl⟩
    refine tail _ ?_ ?_
    · by_cases h1 : 97 ≤ n
      · exact .inr ⟨by simp; omega, by simp; omega⟩
      · exact .inl (by simp; omega)
    · cases f with
      | true => exact .inl ⟨rfl, rfl⟩
      | false =>
        refine .inr ⟨rfl, ?_⟩
        by_cases h0 : n = 95
        · exact .inl ⟨int_beq_yes (m := 95) h0, by simp [h0]⟩
        · refine .inr ⟨int_beq_no (m := 95) h0, ?_⟩
          by_cases h1 : 48 ≤ n
          · refine .inr ⟨by simp; omega, ?_⟩
            simp [h0, h1]
            omega
          · exact .inl ⟨by simp; omega, by simp [h0, h1]⟩

theorem ba_empty (s : ByteArray) (h : s.size = 0) : s = ⟨#[]⟩ := by
  cases s with
  | mk d => congr; exact Array.eq_empty_of_size_eq_zero h
theorem toList_ne (s : ByteArray) (h : 0 < s.size) : ¬ s.toList = [] := by
  rw [ByteArray.toList_eq]
  intro e
  have : s.data.toList.length = s.size := by simp
  rw [e] at this
  simp at this
  omega
/-- The first k bytes are as a name's. -/
def speltTo (s : ByteArray) (k : Nat) : Prop := ∀ j, j < k → letter (bt s j) (decide (j = 0)) = true
theorem speltTo_succ {s : ByteArray} {k : Nat} (h : speltTo s k) (g : letter (bt s k) (decide (k = 0)) = true) : speltTo s (k + 1) := fun j hj => by
  by_cases e : j = k
  · rw [e]; exact g
  · exact h j (by omega)
theorem spelt_hit {s : ByteArray} {k : Nat} (hk : k < s.size) (g : letter (bt s k) (decide (k = 0)) = false) : spelt s = false := by
  rw [← Bool.not_eq_true, spelt_iff]
  intro h
  rw [h.2 k hk] at g
  cases g
theorem spelt_end {s : ByteArray} (h : speltTo s s.size) : spelt s = decide (0 < s.size) := by
  cases hd : decide (0 < s.size) with
  | true => rw [spelt_iff]; exact ⟨by simpa using hd, h⟩
  | false =>
    rw [← Bool.not_eq_true, spelt_iff]
    intro g
    have : ¬ 0 < s.size := by simpa using hd
    exact this g.1

set_option maxHeartbeats 800000 in
theorem spelt_any (s : ByteArray) (w : World) (hs : s.size ≤ maxLen) : Calls Tryz.prog 132 #[.string s] w fun e w' => e = .returned (.bool (spelt s)) ∧ w' = w := by
  unfold maxLen at hs
  generalize hr : spelt s = r
  have HR := Lib.hid hr
  clear hr
  go_enter Tryz.func132, Tryz.ntmps132
  go_wp2_with fail
  go_loop [6] (fun i => ∃ k : Nat, k ≤ s.size ∧ i = .int .i64 k ∧ speltTo s k) (fun i => s.size - (intOf i).toNat)
  case atStart => exact ⟨0, Nat.zero_le _, rfl, fun j hj => by omega⟩
  case round =>
    obtain ⟨k, hk, rfl, hno⟩ := hrel
    have HN := Lib.hid hno
    clear hno
    by_cases hlt : k < s.size
    · have HE := Lib.hid (bt_eq s k hlt)
      go_wp2_with fail
      refine (mayBegin_any s[k] _).mono ?_
      rintro e w1 ⟨rfl, rfl⟩
      cases hb : beg s[k] with
      | true =>
        have HL : letter (bt s k) (decide (k = 0)) = true := by unfold letter; rw [← HE.out, hb]; rfl
        have HT := Lib.hid (speltTo_succ HN.out HL)
        clear HL hb
        go_wp2_with fail
        go_round
        case rel => exact ⟨k + 1, by omega, by go_num, HT.out⟩
        case measure => simp [intOf]; omega
      | false =>
        by_cases h0 : k = 0
        · subst h0
          have HL : letter (bt s 0) (decide (0 = 0)) = false := by unfold letter; rw [← HE.out, hb]; rfl
          have HF := spelt_hit hlt HL
          rw [HR.out] at HF
          subst HF
          clear HL hb
          go_wp2_with fail
          go_ret
          exact ⟨rfl, rfl⟩
        · have e0 : ((k : Int) == 0) = false := int_beq_no (m := 0) h0
          have L : letter (bt s k) (decide (k = 0)) = goOn s[k] := by unfold letter; rw [← HE.out, hb]; simp [h0]
          have HL := Lib.hid L
          clear L hb h0
          go_wp2_with fail
          refine (mayGoOn_any s[k] _).mono ?_
          rintro e w1 ⟨rfl, rfl⟩
          cases hg : goOn s[k] with
          | true =>
            have HT := Lib.hid (speltTo_succ HN.out (HL.out.trans hg))
            clear hg
            go_wp2_with fail
            go_round
            case rel => exact ⟨k + 1, by omega, by go_num, HT.out⟩
            case measure => simp [intOf]; omega
          | false =>
            have HF := spelt_hit hlt (HL.out.trans hg)
            rw [HR.out] at HF
            subst HF
            clear hg
            go_wp2_with fail
            go_ret
            exact ⟨rfl, rfl⟩
    · have hk2 : k = s.size := by omega
      subst hk2
      have HF := spelt_end HN.out
      rw [HR.out] at HF
      by_cases hp : 0 < s.size
      · obtain rfl : r = true := by rw [HF]; simpa using hp
        have hne := toList_ne s hp
        have hne' : (!s.toList.isEmpty) = true := by simp [hne]
        clear HF
        go_wp2_with fail
        go_ret
        exact ⟨rfl, rfl⟩
      · have h0 := ba_empty s (by omega)
        subst h0
        obtain rfl : r = false := by rw [HF]; rfl
        clear HF
        go_wp2_with fail
        go_ret
        exact ⟨rfl, rfl⟩

set_option maxHeartbeats 400000 in
theorem check_any (s : ByteArray) (w : World) (hs : s.size ≤ maxLen) : Calls Tryz.prog 101 #[.string s] w fun e w' => e = .returned (.int .i64 (chk s : Nat)) ∧ w' = w := by
  generalize hr : chk s = r
  unfold chk at hr
  have HR := Lib.hid hr
  clear hr
  go_enter Tryz.func101, Tryz.ntmps101
  go_wp2_with fail
  refine (spelt_any s _ hs).mono ?_
  unfold maxLen at hs
  rintro e w1 ⟨rfl, rfl⟩
  have H := HR.out
  cases hsp : spelt s with
  | false =>
    rw [hsp] at H
    obtain rfl : 11 = r := H
    clear hsp
    go_wp2_with fail
    go_ret
    exact ⟨rfl, rfl⟩
  | true =>
    rw [hsp, if_pos rfl] at H
    by_cases h : 32 < s.size
    · rw [if_pos h] at H
      subst H
      clear hsp
      go_wp2_with fail
      go_ret
      exact ⟨rfl, rfl⟩
    · rw [if_neg h] at H
      subst H
      clear hsp
      go_wp2_with fail
      go_ret
      exact ⟨rfl, rfl⟩

set_option maxHeartbeats 800000 in
theorem refCheck_any (s : ByteArray) (w : World) (hs : s.size ≤ maxLen) : Calls Tryz.prog 76 #[.string s] w fun e w' => e = .returned (.int .i64 (chk s : Nat)) ∧ w' = w := by
  unfold maxLen at hs
  by_cases hz : 0 < s.size
  · generalize hr : chk s = r
    have HR := Lib.hid hr
    clear hr
    have hne := toList_ne s hz
    have hne' : s.toList.isEmpty = false := by simp [hne]
    go_enter Tryz.func76, Tryz.ntmps76
    go_wp2_with fail
    go_loop [3] (fun i => ∃ k : Nat, k ≤ s.size ∧ i = .int .i64 k ∧ speltTo s k) (fun i => s.size - (intOf i).toNat)
    case atStart => exact ⟨0, Nat.zero_le _, rfl, fun j hj => by omega⟩
    case round =>
      obtain ⟨k, hk, rfl, hno⟩ := hrel
      have HN := Lib.hid hno
      clear hno
      by_cases hlt : k < s.size
      · have HE := Lib.hid (bt_eq s k hlt)
        obtain ⟨f, hf, hf2⟩ : ∃ f, ((k : Int) == 0) = f ∧ decide (k = 0) = f := by
          by_cases h0 : k = 0
          · exact ⟨true, int_beq_yes (m := 0) h0, by simpa using h0⟩
          · exact ⟨false, int_beq_no (m := 0) h0, by simpa using h0⟩
        have HF := Lib.hid hf2
        clear hf2
        go_wp2_with fail
        refine (letter_any s[k] f _).mono ?_
        rintro e w1 ⟨rfl, rfl⟩
        cases hl : letter s[k] f with
        | true =>
          have HT := Lib.hid (speltTo_succ HN.out (by rw [← HE.out, HF.out]; exact hl))
          clear hl
          go_wp2_with fail
          go_round
          case rel => exact ⟨k + 1, by omega, by go_num, HT.out⟩
          case measure => simp [intOf]; omega
        | false =>
          have HS := spelt_hit hlt (by rw [← HE.out, HF.out]; exact hl)
          obtain rfl : r = 11 := by rw [← HR.out]; unfold chk; rw [HS]; rfl
          clear hl HS
          go_wp2_with fail
          go_ret
          exact ⟨rfl, rfl⟩
      · have hk2 : k = s.size := by omega
        subst hk2
        have HF := spelt_end HN.out
        rw [show decide (0 < s.size) = true by simpa using hz] at HF
        have H2 := HR.out
        unfold chk at H2
        rw [if_pos HF] at H2
        clear HF
        by_cases h : 32 < s.size
        · rw [if_pos h] at H2
          subst H2
          go_wp2_with fail
          go_ret
          exact ⟨rfl, rfl⟩
        · rw [if_neg h] at H2
          subst H2
          go_wp2_with fail
          go_ret
          exact ⟨rfl, rfl⟩
  · have h0 := ba_empty s (by omega)
    subst h0
    rw [show chk ⟨#[]⟩ = 11 from rfl]
    go_enter Tryz.func76, Tryz.ntmps76
    go_wp2_with fail
    go_ret
    exact ⟨rfl, rfl⟩
end Go.Proofs.YtciijpahjjoppaaGreat
end
section
namespace Go.Proofs.YtciijpahjjoppaaGreat
open Go.RowKit Go.Deep

theorem ba_eq_iff (a b : ByteArray) : (a.toList == b.toList) = true ↔ a = b := by
  constructor
  · intro h
    have h' : a.toList = b.toList := by simpa using h
    rw [ByteArray.toList_eq, ByteArray.toList_eq] at h'
    cases a; cases b
    simp_all
  · rintro rfl; simp
theorem box_first (w : World) (a b : Obj) : ((w.alloc a).alloc b).heap[w.heap.size]? = some a := by
  rw [((Below.refl (w.alloc a).heap.size (w.alloc a)).alloc (Nat.le_refl _) b).block _ (by simp)]
  exact heap_new w a
theorem box_second (w : World) (a b : Obj) : ((w.alloc a).alloc b).heap[w.heap.size + 1]? = some b := by
  have := heap_new (w.alloc a) b
  rwa [World.size_alloc] at this
def nth (z : List D) (i : Nat) : D := z.getD i (.int 0)
theorem same_neq {α : Type} {x y : α} (h : same x y = false) : x ≠ y := fun e => by
  subst e
  rw [same_refl] at h
  cases h
end Go.Proofs.YtciijpahjjoppaaGreat
end
section
namespace Go.Proofs.YtciijpahjjoppaaGreat
open Go.RowKit Go.Deep

def splitD : List UInt8 → List (List UInt8)
  | [] => [[]]
  | c :: r => if c = 36 then [] :: splitD r else match splitD r with
    | h :: t => (c :: h) :: t
    | [] => [[c]]
theorem splitD_ne (l : List UInt8) : splitD l ≠ [] := by
  cases l with
  | nil => simp [splitD]
  | cons c r =>
    unfold splitD
    split
    · simp
    · split <;> simp
theorem splitD_cons_no {c : UInt8} {r : List UInt8} (h : c ≠ 36) : ∃ p t, splitD r = p :: t ∧ splitD (c :: r) = (c :: p) :: t := by
  cases e : splitD r with
  | nil => exact absurd e (splitD_ne r)
  | cons p t => exact ⟨p, t, rfl, by rw [splitD, if_neg h, e]⟩
theorem splitD_miss (l : List UInt8) (h : Lib.indexByte l 36 = -1) : splitD l = [l] := by
  induction l with
  | nil => rfl
  | cons c r ih =>
    unfold Lib.indexByte at h
    split at h
    · simp at h
    · rename_i hc
      have hc' : c ≠ 36 := by simpa using hc
      split at h
      · rename_i h1
        obtain ⟨p, t, e1, e2⟩ := splitD_cons_no (r := r) hc'
        rw [ih (by simpa using h1)] at e1
        simp at e1
        rw [e2, ← e1.1, ← e1.2]
      · have := Lib.indexByte_ge r 36
        rename_i h1
        have h1' : Lib.indexByte r 36 ≠ -1 := by simpa using h1
        omega
theorem splitD_hit (l : List UInt8) (i : Nat) (h : Lib.indexByte l 36 = i) : i < l.length ∧ splitD l = l.take i :: splitD (l.drop (i + 1)) := by
  induction l generalizing i with
  | nil => simp [Lib.indexByte] at h
  | cons c r ih =>
    unfold Lib.indexByte at h
    split at h
    · rename_i hc
      have hc' : c = 36 := by simpa using hc
      obtain rfl : i = 0 := by omega
      subst hc'
      exact ⟨by simp, by simp [splitD]⟩
    · rename_i hc
      have hc' : c ≠ 36 := by simpa using hc
      split at h
      · omega
      · have := Lib.indexByte_ge r 36
        rename_i h1
        have h1' : Lib.indexByte r 36 ≠ -1 := by simpa using h1
        obtain ⟨j, hj⟩ := Int.eq_ofNat_of_zero_le (show 0 ≤ Lib.indexByte r 36 by omega)
        obtain rfl : i = j + 1 := by omega
        obtain ⟨h2, h3⟩ := ih j hj
        obtain ⟨p, t, e1, e2⟩ := splitD_cons_no (r := r) hc'
        rw [h3] at e1
        simp at e1
        exact ⟨by simp; omega, by rw [e2, ← e1.1, ← e1.2]; simp⟩
def ba (l : List UInt8) : ByteArray := ⟨l.toArray⟩
theorem ba_data (s : ByteArray) : ba s.data.toList = s := by cases s; simp [ba]
theorem ba_list (l : List UInt8) : (ba l).data.toList = l := by simp [ba]
theorem ba_size (l : List UInt8) : (ba l).size = l.length := by simp [ba, ByteArray.size]
/-- A text's parts. -/
def parts (s : ByteArray) : List ByteArray := (splitD s.data.toList).map ba
theorem splitD_len (l : List UInt8) : (splitD l).length ≤ l.length + 1 := by
  induction l with
  | nil => simp [splitD]
  | cons c r ih =>
    unfold splitD
    split
    · simp; omega
    · split
      · rename_i h
        rw [h] at ih
        simp at ih ⊢
        omega
      · simp
theorem splitD_mem (l : List UInt8) : ∀ p ∈ splitD l, p.length ≤ l.length := by
  induction l with
  | nil => simp [splitD]
  | cons c r ih =>
    intro p hp
    unfold splitD at hp
    split at hp
    · rcases List.mem_cons.1 hp with rfl | hp
      · simp
      · have := ih p hp; simp; omega
    · split at hp
      · rename_i h t e
        rcases List.mem_cons.1 hp with rfl | hp
        · have := ih h (by rw [e]; simp); simp; omega
        · have := ih p (by rw [e]; simp [hp]); simp; omega
      · rename_i e
        exact absurd e (splitD_ne r)
theorem parts_len (s : ByteArray) : (parts s).length ≤ s.size + 1 := by
  have h := splitD_len s.data.toList
  unfold parts
  rw [List.length_map]
  exact h
theorem parts_mem (s : ByteArray) : ∀ p ∈ parts s, p.size ≤ s.size := fun p hp => by
  obtain ⟨q, hq, rfl⟩ := List.mem_map.1 hp
  have := splitD_mem s.data.toList q hq
  rw [ba_size]
  exact this
theorem parts_ne (s : ByteArray) : parts s ≠ [] := by simp [parts, splitD_ne]

def dollar : ByteArray := ⟨#[36]⟩
/-- What Cut tells. -/
def cutD (s : ByteArray) : ByteArray × ByteArray × Bool :=
  if Lib.indexByte s.data.toList 36 = -1 then (s, ⟨#[]⟩, false) else (ba (s.data.toList.take (Lib.indexByte s.data.toList 36).toNat), ba (s.data.toList.drop ((Lib.indexByte s.data.toList 36).toNat + 1)), true)

set_option maxRecDepth 100000 in
set_option maxHeartbeats 1000000 in
theorem index_D (s : ByteArray) (w : World) : Calls Tryz.prog 160 #[.string s, .string ⟨#[36]⟩] w fun e w' => e = .returned (.int .i64 (Lib.indexByte s.data.toList 36)) ∧ w' = w := by
  cases hq : ([36] : List UInt8) == s.toList with
  | true =>
    have e : s.data.toList = [36] := by rw [← ByteArray.toList_eq]; exact (by simpa using hq : [36] = s.toList).symm
    have HE := Lib.hid e
    clear e
    go_enter Tryz.func160, Tryz.ntmps160
    go_wp2_with fail
    go_ret
    exact ⟨by rw [HE.out]; rfl, rfl⟩
  | false =>
    go_enter Tryz.func160, Tryz.ntmps160
    go_wp2_with fail
    change Calls Tryz.prog 164 #[Value.string s, Value.int IntKind.u8 36] w _
    refine (Tryz.stringslite_IndexByte s 36 _).mono ?_
    rintro e w' ⟨rfl, rfl⟩
    go_wp2_with fail
    go_ret
    exact ⟨rfl, rfl⟩
end Go.Proofs.YtciijpahjjoppaaGreat
end
section
namespace Go.Proofs.YtciijpahjjoppaaGreat
open Go.RowKit Go.Deep

/-- What Cut leaves. -/
def CutPost (s : ByteArray) (w : World) (e : Ending) (w' : World) : Prop := ∃ p r m, e = .returned (.tuple #[.string p, .string r, .bool m]) ∧ (∃ n, w' = w.drewN n) ∧ ((m = false ∧ parts s = [p]) ∨ (m = true ∧ parts s = p :: parts r ∧ r.size < s.size))
theorem ext_take (s : ByteArray) (k : Nat) : (s.extract 0 k).data.toList = s.data.toList.take k := by
  simp [ByteArray.data_extract, Array.toList_extract, List.extract_eq_take_drop]
theorem ext_drop (s : ByteArray) (k : Nat) : (s.extract k s.size).data.toList = s.data.toList.drop k := by
  simp only [ByteArray.data_extract, Array.toList_extract, List.extract_eq_take_drop]
  rw [List.take_of_length_le (by simp)]
theorem ba_take (s : ByteArray) (i : Nat) : s.extract 0 i = ba (s.data.toList.take i) := by
  rw [← ext_take, ba_data]
theorem ba_drop (s : ByteArray) (i : Nat) : s.extract i s.size = ba (s.data.toList.drop i) := by
  rw [← ext_drop, ba_data]
theorem cutPost_hit (s : ByteArray) (i n : Nat) (w : World) (h : Lib.indexByte s.data.toList 36 = i) : CutPost s w (.returned (.tuple #[.string (s.extract 0 i), .string (s.extract (i + 1) s.size), .bool true])) (w.drewN n) := by
  obtain ⟨h1, h2⟩ := splitD_hit _ i h
  refine ⟨_, _, true, rfl, ⟨n, rfl⟩, .inr ⟨rfl, ?_, ?_⟩⟩
  · unfold parts
    rw [h2, ba_take, ba_drop, ba_list]
    rfl
  · rw [ba_drop, ba_size, List.length_drop]
    have h3 : i < s.size := h1
    show s.size - (i + 1) < s.size
    omega
theorem cutPost_miss (s : ByteArray) (w : World) (h : Lib.indexByte s.data.toList 36 = -1) : CutPost s w (.returned (.tuple #[.string s, .string ⟨#[]⟩, .bool false])) w := by
  refine ⟨s, _, false, rfl, ⟨0, rfl⟩, .inl ⟨rfl, ?_⟩⟩
  unfold parts
  rw [splitD_miss _ h]
  simp [ba_data]
set_option maxRecDepth 100000 in
set_option maxHeartbeats 1000000 in
theorem cutLite_any (s : ByteArray) (w : World) (hs : s.size ≤ maxLen) : Calls Tryz.prog 154 #[.string s, .string ⟨#[36]⟩] w (CutPost s w) := by
  unfold maxLen at hs
  by_cases hm : Lib.indexByte s.data.toList 36 = -1
  · have HM := Lib.hid hm
    clear hm
    go_enter Tryz.func154, Tryz.ntmps154
    go_wp2_with fail
    refine (index_D s _).mono ?_
    rw [HM.out]
    rintro e w' ⟨rfl, rfl⟩
    go_wp2_with fail
    go_ret3
    exact cutPost_miss s _ HM.out
  · obtain ⟨i, hi⟩ := Int.eq_ofNat_of_zero_le (show 0 ≤ Lib.indexByte s.data.toList 36 by have := Lib.indexByte_ge s.data.toList 36; omega)
    have HI := Lib.hid hi
    have hlt : i < s.size := (splitD_hit _ i hi).1
    have c1 : (0 : Int) ≤ ↑i := by omega
    have c2 : (↑i : Int) ≤ ↑s.size := by omega
    have c3 : (0 : Int) ≤ ↑i + 1 := by omega
    have c4 : (↑i + 1 : Int) ≤ ↑s.size := by omega
    clear hi hm
    go_enter Tryz.func154, Tryz.ntmps154
    go_wp2_with fail
    refine (index_D s _).mono ?_
    rw [HI.out]
    rintro e w' ⟨rfl, rfl⟩
    go_wp2_with fail
    go_region
    go_wp2_with fail
    go_ret3
    exact cutPost_hit s i _ _ HI.out
set_option maxRecDepth 100000 in
set_option maxHeartbeats 1000000 in
theorem cut_any (s : ByteArray) (w : World) (hs : s.size ≤ maxLen) : Calls Tryz.prog 141 #[.string s, .string ⟨#[36]⟩] w (CutPost s w) := by
  go_enter Tryz.func141, Tryz.ntmps141
  go_wp2_with fail
  refine (cutLite_any s _ hs).mono ?_
  rintro e w' ⟨p, r, m, rfl, ⟨n, rfl⟩, h⟩
  have H := Lib.hid h
  clear h
  go_wp2_with fail
  go_ret3
  exact ⟨p, r, m, rfl, ⟨n, rfl⟩, H.out⟩
end Go.Proofs.YtciijpahjjoppaaGreat
end
section
namespace Go.Proofs.YtciijpahjjoppaaGreat
open Go.RowKit Go.Shelf Go.Deep
attribute [local go_sem] Oper.semAt_some

abbrev Tx (M : Nat) := { b : ByteArray // b.size ≤ M }
theorem grown_drewN (w : World) (q : Nat) : w.grownBy (w.drewN q) none := ⟨rfl, rfl, rfl, Nat.le_refl _, fun _ _ _ => rfl⟩
def leftOf : Value → Value → Nat
  | .string x, .bool true => x.size + 1
  | _, _ => 0

set_option maxRecDepth 100000 in
set_option maxHeartbeats 2000000 in
theorem parts_stops (M : Nat) (hM : M ≤ maxLen) (n : Nat) (hn : 1 ≤ n) (Bn : Nat) (s : ByteArray) (hs : s.size ≤ M) (Kp : World → World → Prop) (w : World) (hBn : w.cell? ⟨Bn, 0, none⟩ = some (.string s)) :
    SeqStopsK Fence.wide n Tryz.prog 140 #[.pointer (some ⟨Bn, 0, none⟩)] (fun x : Tx M => #[.string x.1]) Kp (fun xs => xs.map (·.1) = parts s) (fun pre => pre.map (·.1) <+: parts s) (parts s).length w := fun l J Jx W hW hJ _ hY h0 => by
  have hc : W.cell? ⟨Bn, 0, none⟩ = some (.string s) := by
    have hlt : Bn < w.heap.size := block_lt_of_cell hBn
    rw [hW.cell (p := ⟨Bn, 0, none⟩) hlt]
    exact hBn
  have HY := Lib.hid hY
  have HJ := Lib.hid hJ
  clear hY hJ hW hBn
  refine callsIn_of_wp Tryz.func140 rfl trivial ?_ rfl
  simp only [Tryz.ntmps140, List.size_toArray, List.length_cons, List.length_nil, Nat.reduceAdd, Nat.reduceSub, Array.replicate_succ, Array.replicate_zero, List.push_toArray, List.append_toArray, List.nil_append, List.cons_append]
  gi_wp2
  gi_loopw [3, 4] (fun p m wr => ∃ (pre : List (Tx M)) (left : ByteArray) (more : Bool), p = .string left ∧ m = .bool more ∧ (more = true → left.size ≤ M) ∧ J pre wr ∧ parts s = pre.map (·.1) ++ (if more then parts left else []))
    (fun p m _ => leftOf p m)
  case atStart =>
    exact ⟨[], s, true, rfl, rfl, fun _ => hs, h0, by simp⟩
  case round =>
    obtain ⟨pre, left, more, rfl, rfl, hl0, hJs, hp⟩ := hrel
    have HP := Lib.hid hp
    clear hp
    cases more with
    | false =>
      gi_wp2
      go_end0
      exact ⟨⟨_, rfl⟩, .inl ⟨pre, by simpa using HP.out.symm, hJs⟩⟩
    | true =>
      have hl := hl0 rfl
      clear hl0
      have hne : pre.length < (parts s).length := by
        rw [HP.out, List.length_append, List.length_map]
        have := List.length_pos_iff.2 (parts_ne left)
        simpa using this
      gi_wp2_with (refine ⟨trivial, ?_⟩; gi_at_call 141; refine (callsIn_wide.2 (cut_any left _ (Nat.le_trans hl hM))).mono ?_)
      rintro e w' ⟨p, r, m, rfl, ⟨q, rfl⟩, hcut⟩
      have hpl : p.size ≤ M := by
        have h1 : p ∈ parts left := by rcases hcut with ⟨_, h⟩ | ⟨_, h, _⟩ <;> simp [h]
        exact Nat.le_trans (parts_mem left p h1) hl
      have hrl : m = true → r.size ≤ M ∧ r.size < left.size := by
        rintro rfl
        rcases hcut with ⟨h, _⟩ | ⟨_, _, h⟩
        · cases h
        · exact ⟨by omega, h⟩
      have hnx : parts s = (pre ++ [(⟨p, hpl⟩ : Tx M)]).map (·.1) ++ (if m then parts r else []) := by
        rw [HP.out]
        rcases hcut with ⟨rfl, h⟩ | ⟨rfl, h, _⟩ <;> simp [h]
      have HR := Lib.hid hrl
      have HN := Lib.hid hnx
      clear hcut hrl hnx
      have hJ2 : J pre (wr.drewN q) := HJ.out pre wr _ none hJs (grown_drewN wr q) (by simp)
      obtain ⟨fn, tmps, assign, body, hy, hR⟩ := HY.out pre ⟨p, hpl⟩ (wr.drewN q) hJ2 hne
      dsimp only at hy
      gi_wp2
      refine hR.mono ?_
      rintro e W3 (⟨rfl, hJ3, _⟩ | ⟨rfl, hJx3⟩)
      · clear hy hR
        gi_wp2
        go_roundw
        case rel =>
          exact ⟨pre ++ [⟨p, hpl⟩], r, m, rfl, rfl, fun h => (HR.out h).1, hJ3, HN.out⟩
        case measure => cases m <;> simp [leftOf]; exact (HR.out rfl).2
      · gi_wp2
        refine bodyPost_ret (results_none rfl _ _ _) rfl ?_
        exact ⟨⟨_, rfl⟩, .inr ⟨pre ++ [⟨p, hpl⟩], ⟨_, HN.out.symm⟩, hJx3⟩⟩
end Go.Proofs.YtciijpahjjoppaaGreat
end
section
namespace Go.Proofs.YtciijpahjjoppaaGreat
open Go.RowKit Go.Shelf Go.Deep

/-- All blocks but those that are owned are as they were; what is owned behind is owned ahead, or new; from 'hi' on whatever is no cells is as it was. -/
structure Kept (O : World → Nat → Prop) (hi : Nat) (w w' : World) : Prop where
  os : w'.os = w.os
  tape : w'.tape = w.tape
  output : w'.output = w.output
  size : w.heap.size ≤ w'.heap.size
  block : ∀ b, b < w.heap.size → ¬ O w b → w'.heap[b]? = w.heap[b]?
  own : ∀ b, O w' b → O w b ∨ w.heap.size ≤ b
  others : ∀ (b : Nat) (o : Obj), hi ≤ b → w.heap[b]? = some o → o.isCells = false → w'.heap[b]? = some o
theorem Kept.refl (O : World → Nat → Prop) (hi : Nat) (w : World) : Kept O hi w w := ⟨rfl, rfl, rfl, Nat.le_refl _, fun _ _ _ => rfl, fun _ h => .inl h, fun _ _ _ h _ => h⟩
theorem Kept.trans {O : World → Nat → Prop} {hi : Nat} {a b c : World} (h : Kept O hi a b) (k : Kept O hi b c) : Kept O hi a c :=
  ⟨k.os.trans h.os, k.tape.trans h.tape, k.output.trans h.output, Nat.le_trans h.size k.size,
    fun i hi' ho => (k.block i (Nat.lt_of_lt_of_le hi' h.size) (fun e => by rcases h.own i e with e | e; exact ho e; omega)).trans (h.block i hi' ho),
    fun i e => by
      rcases k.own i e with e | e
      · exact h.own i e
      · exact .inr (Nat.le_trans h.size e),
    fun i o h1 h2 h3 => k.others i o h1 (h.others i o h1 h2 h3) h3⟩
theorem Kept.not_own {O : World → Nat → Prop} {hi : Nat} {w w' : World} (h : Kept O hi w w') {c : Nat} (hc : c < w.heap.size) (hn : ¬ O w c) : ¬ O w' c := fun e => by
  rcases h.own c e with e | e
  · exact hn e
  · omega

def lim : Nat := 8388608
structure Clo (σ : Type) (g : Nat) (c1 c2 : Value) where
  O : World → Nat → Prop
  low : Nat
  hi : Nat
  I : Nat → σ → World → Prop
  step : σ → ByteArray → σ
  out : σ → ByteArray → ByteArray
  ltO : ∀ {n s w b}, I n s w → O w b → low ≤ b ∧ b < w.heap.size
  cellsO : ∀ {n s w b}, I n s w → O w b → hi ≤ b → ∃ o : Obj, w.heap[b]? = some o ∧ o.isCells = true
  hiI : ∀ {n s w}, I n s w → low ≤ hi ∧ hi ≤ w.heap.size
  keep : ∀ {n s w w'}, I n s w → w.heap.size ≤ w'.heap.size → (∀ b, b < low → w'.heap[b]? = w.heap[b]?) → (∀ b, O w b → w'.heap[b]? = w.heap[b]?) → I n s w' ∧ ∀ b, O w' b → O w b
  down : ∀ {n s w}, I (n + 1) s w → I n s w
  outLe : ∀ {n s w x}, I (n + 1) s w → x.size ≤ lim → (out s x).size ≤ lim
  call : ∀ n s w x, I (n + 1) s w → x.size ≠ 0 → x.size ≤ lim → Calls Tryz.prog g #[.string x, c1, c2] w fun e w' => e = .returned (.string (out s x)) ∧ I n (step s x) w' ∧ Kept O hi w w'

section
variable {σ : Type} {g : Nat} {c1 c2 : Value} (C : Clo σ g c1 c2)
theorem Clo.downs {n m : Nat} {s : σ} {w : World} (h : C.I (n + m) s w) : C.I n s w := by
  induction m with
  | zero => exact h
  | succ m ih => exact ih (C.down h)
/-- A step that turns nothing that is owned, and nothing that lay. -/
theorem Clo.next {n : Nat} {s : σ} {w0 w w' : World} (hk : Kept C.O C.hi w0 w) (hI : C.I n s w) (h0 : C.low ≤ w0.heap.size) (hos : w'.os = w.os) (htape : w'.tape = w.tape) (hout : w'.output = w.output) (hsz : w.heap.size ≤ w'.heap.size)
    (hown : ∀ b, C.O w b → w'.heap[b]? = w.heap[b]?) (hold : ∀ b, b < w0.heap.size → w'.heap[b]? = w.heap[b]?) : Kept C.O C.hi w0 w' ∧ C.I n s w' := by
  obtain ⟨h1, h2⟩ := C.keep hI hsz (fun b hb => hold b (by omega)) hown
  refine ⟨⟨hos.trans hk.os, htape.trans hk.tape, hout.trans hk.output, Nat.le_trans hk.size hsz, fun b hb ho => (hold b hb).trans (hk.block b hb ho), fun b e => hk.own b (h2 b e), fun b o hb he hc => ?_⟩, h1⟩
  have hlt : b < w0.heap.size := heap_lt he
  rw [hold b hlt]
  exact hk.others b o hb he hc
theorem Clo.below {n : Nat} {s : σ} {w0 w w' : World} (hk : Kept C.O C.hi w0 w) (hI : C.I n s w) (h0 : C.low ≤ w0.heap.size) (hb : Below w.heap.size w w') : Kept C.O C.hi w0 w' ∧ C.I n s w' :=
  C.next hk hI h0 hb.os hb.tape hb.output hb.size (fun b h => hb.block b (C.ltO hI h).2) (fun b h => hb.block b (Nat.lt_of_lt_of_le h hk.size))
/-- A part, and what comes behind it. -/
def Clo.pt (s : σ) (x : ByteArray) : ByteArray × σ := if x.size = 0 then (x, s) else (C.out s x, C.step s x)
def Clo.pts : σ → List ByteArray → List ByteArray × σ
  | s, [] => ([], s)
  | s, x :: l => ((C.pt s x).1 :: (Clo.pts (C.pt s x).2 l).1, (Clo.pts (C.pt s x).2 l).2)
theorem Clo.pts_snoc (s : σ) (l : List ByteArray) (x : ByteArray) : C.pts s (l ++ [x]) = ((C.pts s l).1 ++ [(C.pt (C.pts s l).2 x).1], (C.pt (C.pts s l).2 x).2) := by
  induction l generalizing s with
  | nil => rfl
  | cons y l ih => simp [Clo.pts, ih]
theorem Clo.pts_len (s : σ) (l : List ByteArray) : (C.pts s l).1.length = l.length := by
  induction l generalizing s with
  | nil => rfl
  | cons y l ih => simp [Clo.pts, ih]
end
/-- What a name becomes. -/
def joinD (l : List ByteArray) : ByteArray := ⟨(Lib.join (l.map (·.data.toList)) [36]).toArray⟩
def Clo.nm {σ : Type} {g : Nat} {c1 c2 : Value} (C : Clo σ g c1 c2) (s : σ) (x : ByteArray) : ByteArray × σ := (joinD (C.pts s (parts x)).1, (C.pts s (parts x)).2)
theorem join_len (l : List (List UInt8)) (m : Nat) (h : ∀ x ∈ l, x.length ≤ m) : (Lib.join l [36]).length ≤ l.length * (m + 1) := by
  cases l with
  | nil => simp [Lib.join_nil]
  | cons x r =>
    rw [Lib.join_cons, List.length_append]
    have hx := h x (by simp)
    have ht : (Lib.joinTail [36] r).length ≤ r.length * (m + 1) := by
      have hr : ∀ y ∈ r, y.length ≤ m := fun y hy => h y (by simp [hy])
      clear h hx
      unfold Lib.joinTail
      induction r with
      | nil => simp
      | cons y r ih =>
        have h1 := hr y (by simp)
        have h2 := ih fun z hz => hr z (by simp [hz])
        simp only [List.map_cons, List.flatten_cons, List.length_append, List.length_cons, List.length_nil, Nat.add_mul] at h2 ⊢
        omega
    simp only [List.length_cons, Nat.add_mul] at ht ⊢
    omega
theorem Clo.pts_le {σ : Type} {g : Nat} {c1 c2 : Value} (C : Clo σ g c1 c2) {n : Nat} {s : σ} {x : ByteArray} {w : World} (hI : C.I (n + 1) s w) (hx : x.size ≤ lim) : (C.pt s x).1.size ≤ lim := by
  unfold Clo.pt
  split
  · exact hx
  · exact C.outLe hI hx
end Go.Proofs.YtciijpahjjoppaaGreat
end
section
namespace Go.Proofs.YtciijpahjjoppaaGreat
open Go.RowKit Go.Shelf Go.Deep
attribute [local go_sem] Oper.semAt_some

section
variable {σ : Type} {g : Nat} {c1 c2 : Value}
structure NmJ (C : Clo σ g c1 c2) (k : Nat) (w : World) (ys : List ByteArray) (st : σ) (W : World) : Prop where
  i : C.I k st W
  bt : Boxed W w.heap.size 97 (.func (.func g) #[] #[c1, c2])
  row : ∃ v, Boxed W (w.heap.size + 1) 29 v ∧ W.ownsRow (w.heap.size + 1) 9 1 v ys.length (ys.map Value.string) ∧ (∀ b, v.ownBlock = some b → ¬ C.O W b)
  nt : ¬ C.O W w.heap.size
  nl : ¬ C.O W (w.heap.size + 1)
  kept : Kept C.O C.hi w W
  low : C.low ≤ w.heap.size
  his : C.hi ≤ w.heap.size
  sz : w.heap.size + 3 ≤ W.heap.size
  small : ∀ y ∈ ys, y.size ≤ lim
theorem rowBlock {w : World} {base e sz : Nat} {v : Value} {n : Nat} {xs : List Value} (h : w.ownsRow base e sz v n xs) {b : Nat} (hb : v.ownBlock = some b) : base ≤ b ∧ b < w.heap.size ∧ ∃ cs t fz, w.heap[b]? = some (.cells cs t fz) := by
  rcases h.2 with ⟨rfl, _⟩ | ⟨q, cap, cur, rfl, h1, h2, _⟩
  · simp [Value.ownBlock] at hb
  · obtain rfl : q = b := by simpa [Value.ownBlock] using hb
    exact ⟨h1, heap_lt h2, _, _, _, h2⟩
theorem ownsRow_same {w w' : World} {base e sz : Nat} {v : Value} {n : Nat} {xs : List Value} (h : w.ownsRow base e sz v n xs) (hb : ∀ b, v.ownBlock = some b → w'.heap[b]? = w.heap[b]?) : w'.ownsRow base e sz v n xs := by
  refine ⟨h.1, ?_⟩
  rcases h.2 with h4 | ⟨q, cap, cur, hv, hb', hg, r⟩
  · exact .inl h4
  · exact .inr ⟨q, cap, cur, hv, hb', (hb q (by rw [hv]; rfl)).trans hg, r⟩
/-- A step that turns none of these blocks. -/
theorem NmJ.same {C : Clo σ g c1 c2} {k : Nat} {w : World} {ys : List ByteArray} {st : σ} {W W' : World} (h : NmJ C k w ys st W) (hg : ∃ row, W.grownBy W' row ∧ ∀ r, row = some r → w.heap.size + 3 ≤ r ∧ ∃ o : Obj, W.heap[r]? = some o ∧ o.isCells = false) : NmJ C k w ys st W' := by
  obtain ⟨row, hg, hr⟩ := hg
  have cells : ∀ (b : Nat) (cs : Array Value) (t : TypeId) (fz : Nat × Nat), W.heap[b]? = some (.cells cs t fz) → W'.heap[b]? = W.heap[b]? := fun b cs t fz hb => hg.block b (heap_lt hb) fun e => by
    obtain ⟨_, o, ho, hc⟩ := hr b e.symm
    rw [hb] at ho
    cases ho
    cases hc
  have low : ∀ b, b < w.heap.size → W'.heap[b]? = W.heap[b]? := fun b hb => hg.block b (by have := h.sz; omega) fun e => by have := (hr b e.symm).1; omega
  have own : ∀ b, C.O W b → W'.heap[b]? = W.heap[b]? := fun b hb => by
    rcases Nat.lt_or_ge b C.hi with h1 | h1
    · exact low b (by have := h.his; omega)
    · obtain ⟨o, ho, hc⟩ := C.cellsO h.i hb h1
      cases o with
      | cells cs t fz => exact cells b cs t fz ho
      | _ => cases hc
  obtain ⟨k1, k2⟩ := C.keep h.i hg.size (fun b hb => low b (by have := h.low; omega)) own
  obtain ⟨v, h1, h2, h3⟩ := h.row
  exact ⟨k1, (cells _ _ _ _ h.bt).trans h.bt, ⟨v, (cells _ _ _ _ h1).trans h1, ownsRow_same h2 fun b hb => by obtain ⟨_, _, cs, t, fz, e⟩ := rowBlock h2 hb; exact cells b cs t fz e, fun b hb e => h3 b hb (k2 b e)⟩, fun e => h.nt (k2 _ e), fun e => h.nl (k2 _ e),
    (C.next h.kept h.i h.low hg.os hg.tape hg.output hg.size own (fun b hb => low b hb)).1, h.low, h.his, Nat.le_trans h.sz hg.size, h.small⟩
theorem NmJ.called {C : Clo σ g c1 c2} {k k' : Nat} {w : World} {ys : List ByteArray} {st st' : σ} {W W' : World} (h : NmJ C k w ys st W) (hk : Kept C.O C.hi W W') (hi : C.I k' st' W') : NmJ C k' w ys st' W' := by
  obtain ⟨v, h1, h2, h3⟩ := h.row
  have hz := h.sz
  exact ⟨hi, (hk.block _ (by omega) h.nt).trans h.bt, ⟨v, (hk.block _ (by omega) h.nl).trans h1, ownsRow_same h2 fun b hb => hk.block b (rowBlock h2 hb).2.1 (h3 b hb), fun b hb => hk.not_own (rowBlock h2 hb).2.1 (h3 b hb)⟩, hk.not_own (by omega) h.nt, hk.not_own (by omega) h.nl, h.kept.trans hk, h.low, h.his, Nat.le_trans hz hk.size, h.small⟩
theorem NmJ.down {C : Clo σ g c1 c2} {k : Nat} {w : World} {ys : List ByteArray} {st : σ} {W : World} (h : NmJ C (k + 1) w ys st W) : NmJ C k w ys st W :=
  ⟨C.down h.i, h.bt, h.row, h.nt, h.nl, h.kept, h.low, h.his, h.sz, h.small⟩
theorem NmJ.appended {C : Clo σ g c1 c2} {k : Nat} {w : World} {ys : List ByteArray} {st : σ} {W w1 : World} {v v' : Value} {y : ByteArray} {tmp : Obj} (h : NmJ C k w ys st W)
    (hno : ∀ b, v.ownBlock = some b → w.heap.size + 1 ≤ b ∧ ¬ C.O W b) (hy : y.size ≤ lim)
    (hg : (W.alloc tmp).grownBy w1 v.ownBlock) (hat : v'.ownBlock = v.ownBlock ∨ v'.ownBlock = some (W.alloc tmp).heap.size)
    (hb2 : Boxed (w1.setCell ⟨w.heap.size + 1, 0, none⟩ v') (w.heap.size + 1) 29 v') (hr2 : (w1.setCell ⟨w.heap.size + 1, 0, none⟩ v').ownsRow (w.heap.size + 1) 9 1 v' (ys ++ [y]).length ((ys ++ [y]).map Value.string)) :
    NmJ C k w (ys ++ [y]) st (w1.setCell ⟨w.heap.size + 1, 0, none⟩ v') := by
  have hz := h.sz
  have hlt := fun b (hb : C.O W b) => C.ltO h.i hb
  have hs := grownBy_setCell' w1 (w.heap.size + 1) v'
  have al : ∀ b, b < W.heap.size → (W.alloc tmp).heap[b]? = W.heap[b]? := fun b hb => ((Below.refl W.heap.size W).alloc (Nat.le_refl _) tmp).block b hb
  have blk : ∀ b, b < W.heap.size → some b ≠ v.ownBlock → b ≠ w.heap.size + 1 → (w1.setCell ⟨w.heap.size + 1, 0, none⟩ v').heap[b]? = W.heap[b]? := fun b h1 h2 h3 => by
    have h4 : b < (W.alloc tmp).heap.size := by simp; omega
    rw [hs.block b (Nat.lt_of_lt_of_le h4 hg.size) (fun e => h3 (by simpa using e)), hg.block b h4 h2, al b h1]
  have own : ∀ b, C.O W b → (w1.setCell ⟨w.heap.size + 1, 0, none⟩ v').heap[b]? = W.heap[b]? := fun b hb => blk b (hlt b hb).2 (fun e => (hno b e.symm).2 hb) (fun e => h.nl (e ▸ hb))
  have old : ∀ b, b < w.heap.size → (w1.setCell ⟨w.heap.size + 1, 0, none⟩ v').heap[b]? = W.heap[b]? := fun b hb => blk b (by omega) (fun e => by have := (hno b e.symm).1; omega) (by omega)
  have hsz : W.heap.size ≤ (w1.setCell ⟨w.heap.size + 1, 0, none⟩ v').heap.size := Nat.le_trans (Nat.le_trans (by simp) hg.size) hs.size
  obtain ⟨k1, k2⟩ := C.keep h.i hsz (fun b hb => old b (by have := h.low; omega)) own
  have al' := (Below.refl W.heap.size W).alloc (Nat.le_refl _) tmp
  refine ⟨k1, (blk _ (by omega) (fun e => by have := (hno _ e.symm).1; omega) (by omega)).trans h.bt, ⟨v', hb2, hr2, fun b hb e => ?_⟩, fun e => h.nt (k2 _ e), fun e => h.nl (k2 _ e),
    (C.next h.kept h.i h.low (hs.os.trans (hg.os.trans al'.os)) (hs.tape.trans (hg.tape.trans al'.tape)) (hs.output.trans (hg.output.trans al'.output)) hsz own old).1, h.low, h.his, Nat.le_trans hz hsz, fun z hz' => ?_⟩
  · have e' := k2 b e
    rcases hat with e1 | e1
    · exact (hno b (e1 ▸ hb)).2 e'
    · rw [e1] at hb
      have := (hlt b e').2
      simp at hb
      omega
  · rcases List.mem_append.1 hz' with h1 | h1
    · exact h.small z h1
    · rw [List.mem_singleton.1 h1]; exact hy
end
theorem partsF_any (s : ByteArray) (w : World) : Calls Tryz.prog 121 #[.string s] w fun e w' => e = .returned (.func (.func 140) #[] #[.pointer (some ⟨w.heap.size, 0, none⟩)]) ∧ w' = w.alloc (.cells #[.string s] 9) := by
  go_enter Tryz.func121, Tryz.ntmps121
  go_wp2_with fail
  go_ret
  exact ⟨rfl, rfl⟩
theorem info9 : (Tryz.prog.info? 9).map (fun i => (i.zero, i.size, i.bytes)) = some (some (.string ⟨#[]⟩), 1, 16) := by kernel_rfl
def NmI {σ : Type} {g : Nat} {c1 c2 : Value} (C : Clo σ g c1 c2) (n : Nat) (st : σ) (s : ByteArray) (w : World) (pre : List (Tx lim)) (W : World) : Prop :=
  pre.length ≤ (parts s).length ∧ NmJ C (n + ((parts s).length - pre.length)) w (C.pts st (pre.map fun x => x.1)).1 (C.pts st (pre.map fun x => x.1)).2 W
/-- What turner.name leaves. -/
def NmPost {σ : Type} {g : Nat} {c1 c2 : Value} (C : Clo σ g c1 c2) (n : Nat) (st : σ) (s : ByteArray) (w : World) (e : Ending) (w' : World) : Prop := e = .returned (.string (C.nm st s).1) ∧ C.I n (C.nm st s).2 w' ∧ Kept C.O C.hi w w'
end Go.Proofs.YtciijpahjjoppaaGreat
end
