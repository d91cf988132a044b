/-
  Lists of texts in memory; All, SameTexts, Among, Index, Contains, Is: walked.
-/
import Derived.Test.YtciijpahjjoppaaGreatLws
import Derived.Test.YtciijpahjjoppaaGreatTxt
namespace Go.Proofs.YtciijpahjjoppaaGreat
open Go.RowKit

/-- A slice of texts. -/
def IsStrs (w : World) (a : Option Addr) (len cap : Nat) (ss : List ByteArray) : Prop :=
  ss.length = len ∧ len ≤ cap ∧ cap ≤ maxLen ∧ (∀ x ∈ ss, x.size ≤ maxLen) ∧ (len = 0 ∨ ∃ b o, a = some ⟨b, o, none⟩ ∧ b < w.heap.size ∧ ∀ j x, ss[j]? = some x → w.cell? ⟨b, o + j, none⟩ = some (.string x))
theorem IsStrs.kept {w w' : World} {a : Option Addr} {len cap : Nat} {ss : List ByteArray} (h : IsStrs w a len cap ss) (hs : w.heap.size ≤ w'.heap.size) (hb : ∀ b o, a = some ⟨b, o, none⟩ → b < w.heap.size → w'.heap[b]? = w.heap[b]?) : IsStrs w' a len cap ss := by
  obtain ⟨h1, h2, h3, h4, h5⟩ := h
  refine ⟨h1, h2, h3, h4, ?_⟩
  rcases h5 with h5 | ⟨b, o, e, hl, hc⟩
  · exact .inl h5
  · exact .inr ⟨b, o, e, by omega, fun j x hx => (cell_eq (hb b o e hl)).trans (hc j x hx)⟩
theorem IsStrs.below {w w' : World} {a : Option Addr} {len cap : Nat} {ss : List ByteArray} (h : IsStrs w a len cap ss) (hb : Below w.heap.size w w') : IsStrs w' a len cap ss :=
  h.kept hb.size fun b _ _ hl => hb.block b hl
theorem IsStrs.nil (w : World) : IsStrs w none 0 0 [] := ⟨rfl, Nat.le_refl _, by decide, by simp, .inl rfl⟩
theorem IsStrs.len_le {w : World} {a : Option Addr} {len cap : Nat} {ss : List ByteArray} (h : IsStrs w a len cap ss) : len ≤ 9223372036854775807 := by
  have h1 := h.2.1
  have h2 := h.2.2.1
  unfold maxLen at h2
  omega
theorem IsStrs.at {w : World} {a : Option Addr} {len cap : Nat} {ss : List ByteArray} (h : IsStrs w a len cap ss) {k : Nat} (hk : k < len) :
    ∃ b o x, a = some ⟨b, o, none⟩ ∧ ss[k]? = some x ∧ x.size ≤ maxLen ∧ w.cell? ⟨b, o + k, none⟩ = some (.string x) := by
  obtain ⟨x, hx⟩ : ∃ x, ss[k]? = some x := ⟨ss[k]'(by rw [h.1]; exact hk), List.getElem?_eq_getElem _⟩
  rcases h.2.2.2.2 with h00 | ⟨b, o, rfl, hbl, hcell⟩
  · omega
  · exact ⟨b, o, x, rfl, hx, h.2.2.2.1 x (List.mem_of_getElem? hx), hcell k x hx⟩

/-- v is a list of texts of one's own, from the block 'base' on. -/
def OwnS (base : Nat) (w : World) (v : Value) (ss : List ByteArray) : Prop := w.ownsRow base 9 1 v ss.length (ss.map Value.string)
theorem OwnS.nil (base : Nat) (w : World) : OwnS base w (.slice none 0 0) [] := World.ownsRow_nil _ _ _ _
theorem OwnS.lt {base : Nat} {w : World} {v : Value} {ss : List ByteArray} (h : OwnS base w v ss) (k : Nat) (hk : v.ownBlock = some k) : base ≤ k ∧ k < w.heap.size := World.ownsRow.lt h k hk
theorem OwnS.kept {base : Nat} {w w' : World} {v : Value} {ss : List ByteArray} (h : OwnS base w v ss) (hb : ∀ k, v.ownBlock = some k → w'.heap[k]? = w.heap[k]?) : OwnS base w' v ss := by
  refine ⟨h.1, ?_⟩
  rcases h.2 with h4 | ⟨g, cap, cur, hv, hb', hg, r⟩
  · exact .inl h4
  · exact .inr ⟨g, cap, cur, hv, hb', (hb g (by rw [hv]; rfl)).trans hg, r⟩
theorem OwnS.below {base : Nat} {w w' : World} {v : Value} {ss : List ByteArray} (h : OwnS base w v ss) (hb : Below w.heap.size w w') : OwnS base w' v ss :=
  h.kept fun k hk => hb.block k (h.lt k hk).2
theorem OwnS.strs {base : Nat} {w : World} {v : Value} {ss : List ByteArray} (h : OwnS base w v ss) (hs : ∀ x ∈ ss, x.size ≤ maxLen) : ∃ a cap, v = .slice a ss.length cap ∧ IsStrs w a ss.length cap ss := by
  rcases h.2 with ⟨rfl, h4⟩ | ⟨g, cap, cur, rfl, hb', hg, h1, h2, h3, h5⟩
  · have : ss = [] := List.eq_nil_of_length_eq_zero h4
    subst this
    exact ⟨none, 0, rfl, IsStrs.nil _⟩
  · refine ⟨_, cap, rfl, ⟨rfl, h1, h2, hs, .inr ⟨g, 0, rfl, heap_lt hg, fun j x hx => ?_⟩⟩⟩
    have hj := (List.getElem?_eq_some_iff.1 hx).1
    have e1 : cur.toList[j]? = (ss.map Value.string)[j]? := by rw [← h5, List.getElem?_take]; simp [hj]
    have e2 : cur[j]? = some (.string x) := by
      rw [List.getElem?_map, hx] at e1
      simpa using e1
    simp [World.cell?, hg, e2]
theorem OwnS.lit (w : World) (ss : List ByteArray) (hl : ss.length ≤ maxLen) : OwnS w.heap.size (w.alloc (.cells (ss.map Value.string).toArray 9)) (.slice (some ⟨w.heap.size, 0, none⟩) ss.length ss.length) ss :=
  ⟨by simp, .inr ⟨w.heap.size, ss.length, _, rfl, Nat.le_refl _, heap_new _ _, Nat.le_refl _, hl, by simp, List.take_of_length_le (by simp)⟩⟩
theorem isStrs_row {w : World} {n : Nat} {ss : List ByteArray} (hg : w.heap[n]? = some (.cells (ss.map Value.string).toArray 9 (0, 0))) (hl : ss.length ≤ maxLen) (hs : ∀ x ∈ ss, x.size ≤ maxLen) : IsStrs w (some ⟨n, 0, none⟩) ss.length ss.length ss := by
  refine ⟨rfl, Nat.le_refl _, hl, hs, .inr ⟨n, 0, rfl, heap_lt hg, fun j x hx => ?_⟩⟩
  simp [World.cell?, hg, hx]
theorem lit_strs (w : World) (ss : List ByteArray) (hl : ss.length ≤ maxLen) (hs : ∀ x ∈ ss, x.size ≤ maxLen) : IsStrs (w.alloc (.cells (ss.map Value.string).toArray 9)) (some ⟨w.heap.size, 0, none⟩) ss.length ss.length ss := isStrs_row (heap_new _ _) hl hs
theorem words_ok (d : Int) : ∀ x ∈ wordsOf d, x.size ≤ maxLen := fun x hx => by have := words_small d x hx; unfold maxLen; omega

set_option maxHeartbeats 400000 in
set_option maxRecDepth 100000 in
theorem all_pas (w : World) : Calls Tryz.prog 134 #[.int .i64 0] w fun e w' => e = .returned (.slice (some ⟨w.heap.size, 0, none⟩) 34 34) ∧ w' = w.alloc (.cells (pasW.map Value.string).toArray 9) := by
  go_enter Tryz.func134, Tryz.ntmps134
  go_wp2_with fail
  go_ret
  exact ⟨rfl, rfl⟩
set_option maxHeartbeats 400000 in
set_option maxRecDepth 100000 in
theorem all_cee (w : World) : Calls Tryz.prog 134 #[.int .i64 1] w fun e w' => e = .returned (.slice (some ⟨w.heap.size, 0, none⟩) 21 21) ∧ w' = w.alloc (.cells (ceeW.map Value.string).toArray 9) := by
  go_enter Tryz.func134, Tryz.ntmps134
  go_wp2_with fail
  go_ret
  exact ⟨rfl, rfl⟩
set_option maxHeartbeats 400000 in
set_option maxRecDepth 100000 in
theorem all_no (d : Int) (w : World) (h0 : d ≠ 0) (h1 : d ≠ 1) : Calls Tryz.prog 134 #[.int .i64 d] w fun e w' => e = .returned (.slice none 0 0) ∧ w' = w := by
  have e0 : (d == 0) = false := by simpa using h0
  have e1 : (d == 1) = false := by simpa using h1
  go_enter Tryz.func134, Tryz.ntmps134
  go_wp2_with fail
  go_ret
  exact ⟨rfl, rfl⟩
set_option maxHeartbeats 400000 in
set_option maxRecDepth 100000 in
theorem refAll_pas (w : World) : Calls Tryz.prog 117 #[.int .i64 0] w fun e w' => e = .returned (.slice (some ⟨w.heap.size, 0, none⟩) 34 34) ∧ w' = w.alloc (.cells (pasW.map Value.string).toArray 9) := by
  go_enter Tryz.func117, Tryz.ntmps117
  go_wp2_with fail
  go_ret
  exact ⟨rfl, rfl⟩
set_option maxHeartbeats 400000 in
set_option maxRecDepth 100000 in
theorem refAll_cee (w : World) : Calls Tryz.prog 117 #[.int .i64 1] w fun e w' => e = .returned (.slice (some ⟨w.heap.size, 0, none⟩) 21 21) ∧ w' = w.alloc (.cells (ceeW.map Value.string).toArray 9) := by
  go_enter Tryz.func117, Tryz.ntmps117
  go_wp2_with fail
  go_ret
  exact ⟨rfl, rfl⟩
set_option maxHeartbeats 400000 in
set_option maxRecDepth 100000 in
theorem refAll_no (d : Int) (w : World) (h0 : d ≠ 0) (h1 : d ≠ 1) : Calls Tryz.prog 117 #[.int .i64 d] w fun e w' => e = .returned (.slice none 0 0) ∧ w' = w := by
  have e0 : (d == 0) = false := by simpa using h0
  have e1 : (d == 1) = false := by simpa using h1
  go_enter Tryz.func117, Tryz.ntmps117
  go_wp2_with fail
  go_ret
  exact ⟨rfl, rfl⟩
/-- What All leaves. -/
def AllPost (d : Int) (w : World) (e : Ending) (w' : World) : Prop := ∃ v, e = .returned v ∧ OwnS w.heap.size w' v (wordsOf d) ∧ Below w.heap.size w w'
theorem allPost_pas (w : World) : AllPost 0 w (.returned (.slice (some ⟨w.heap.size, 0, none⟩) 34 34)) (w.alloc (.cells (pasW.map Value.string).toArray 9)) :=
  ⟨_, rfl, OwnS.lit w pasW (by rw [pas_len]; decide), (Below.refl _ _).alloc (Nat.le_refl _) _⟩
theorem allPost_cee (w : World) : AllPost 1 w (.returned (.slice (some ⟨w.heap.size, 0, none⟩) 21 21)) (w.alloc (.cells (ceeW.map Value.string).toArray 9)) :=
  ⟨_, rfl, OwnS.lit w ceeW (by rw [cee_len]; decide), (Below.refl _ _).alloc (Nat.le_refl _) _⟩
theorem allPost_no (d : Int) (w : World) (h0 : d ≠ 0) (h1 : d ≠ 1) : AllPost d w (.returned (.slice none 0 0)) w :=
  ⟨_, rfl, by rw [wordsOf_no d h0 h1]; exact OwnS.nil _ _, Below.refl _ _⟩
theorem all_any (d : Int) (w : World) : Calls Tryz.prog 134 #[.int .i64 d] w (AllPost d w) := by
  by_cases h0 : d = 0
  · subst h0
    refine (all_pas w).mono ?_
    rintro e w' ⟨rfl, rfl⟩
    exact allPost_pas w
  · by_cases h1 : d = 1
    · subst h1
      refine (all_cee w).mono ?_
      rintro e w' ⟨rfl, rfl⟩
      exact allPost_cee w
    · refine (all_no d w h0 h1).mono ?_
      rintro e w' ⟨rfl, rfl⟩
      exact allPost_no d _ h0 h1
theorem refAll_any (d : Int) (w : World) : Calls Tryz.prog 117 #[.int .i64 d] w (AllPost d w) := by
  by_cases h0 : d = 0
  · subst h0
    refine (refAll_pas w).mono ?_
    rintro e w' ⟨rfl, rfl⟩
    exact allPost_pas w
  · by_cases h1 : d = 1
    · subst h1
      refine (refAll_cee w).mono ?_
      rintro e w' ⟨rfl, rfl⟩
      exact allPost_cee w
    · refine (refAll_no d w h0 h1).mono ?_
      rintro e w' ⟨rfl, rfl⟩
      exact allPost_no d _ h0 h1

theorem isIn_take_succ {ss : List ByteArray} {k : Nat} {x s : ByteArray} (hx : ss[k]? = some x) (h : isIn s (ss.take k) = false) (hn : (x.toList == s.toList) = false) : isIn s (ss.take (k + 1)) = false := by
  rw [take_snoc hx]
  unfold isIn at h ⊢
  rw [List.any_append, h]
  simpa using hn
theorem isIn_take_hit {ss : List ByteArray} {k : Nat} {x s : ByteArray} (hx : ss[k]? = some x) (hn : (x.toList == s.toList) = true) : isIn s ss = true := by
  rw [isIn_iff, ← (beq_iff x s).1 hn]
  exact List.mem_of_getElem? hx

set_option maxHeartbeats 400000 in
theorem among_any (a : Option Addr) (len cap : Nat) (ss : List ByteArray) (s : ByteArray) (w : World) (hS : IsStrs w a len cap ss) :
    Calls Tryz.prog 56 #[.slice a len cap, .string s] w fun e w' => e = .returned (.bool (isIn s ss)) ∧ w' = w := by
  have HS := Lib.hid hS
  have hcap := hS.len_le
  clear hS
  generalize hr : isIn s ss = r
  have HR := Lib.hid hr
  clear hr
  go_enter Tryz.func56, Tryz.ntmps56
  go_wp2_with fail
  go_loop [5] (fun i => ∃ k : Nat, k ≤ len ∧ i = .int .i64 k ∧ isIn s (ss.take k) = false) (fun i => len - (intOf i).toNat)
  case atStart => exact ⟨0, Nat.zero_le _, rfl, rfl⟩
  case round =>
    obtain ⟨k, hk, rfl, hno⟩ := hrel
    have HN := Lib.hid hno
    clear hno
    by_cases hlt : k < len
    · obtain ⟨b, o, x, rfl, hx, hxs, hc⟩ := HS.out.at hlt
      have HX := Lib.hid hx
      clear hx
      cases hb : x.toList == s.toList with
      | true =>
        have HT := isIn_take_hit HX.out hb
        obtain rfl : r = true := by rw [← HR.out]; exact HT
        clear HT
        go_wp2_with fail
        go_ret
        exact ⟨rfl, rfl⟩
      | false =>
        have HT := Lib.hid (isIn_take_succ HX.out HN.out hb)
        go_wp2_with fail
        go_round
        case rel => exact ⟨k + 1, by omega, by go_num, HT.out⟩
        case measure => simp [intOf]; omega
    · obtain rfl : r = false := by
        rw [← HR.out, ← HN.out, List.take_of_length_le (by rw [HS.out.1]; omega)]
      go_wp2_with fail
      go_ret
      exact ⟨rfl, rfl⟩

set_option maxHeartbeats 400000 in
theorem index_any (a : Option Addr) (len cap : Nat) (ss : List ByteArray) (s : ByteArray) (w : World) (hS : IsStrs w a len cap ss) :
    Calls Tryz.prog 147 #[.slice a len cap, .string s] w fun e w' => ∃ n : Int, e = .returned (.int .i64 n) ∧ decide (0 ≤ n) = isIn s ss ∧ w' = w := by
  have HS := Lib.hid hS
  have hcap := hS.len_le
  clear hS
  generalize hr : isIn s ss = r
  have HR := Lib.hid hr
  clear hr
  go_enter Tryz.func147, Tryz.ntmps147
  go_wp2_with fail
  go_loop [8] (fun i => ∃ k : Nat, k ≤ len ∧ i = .int .i64 k ∧ isIn s (ss.take k) = false) (fun i => len - (intOf i).toNat)
  case atStart => exact ⟨0, Nat.zero_le _, rfl, rfl⟩
  case round =>
    obtain ⟨k, hk, rfl, hno⟩ := hrel
    have HN := Lib.hid hno
    clear hno
    by_cases hlt : k < len
    · obtain ⟨b, o, x, rfl, hx, hxs, hc⟩ := HS.out.at hlt
      have HX := Lib.hid hx
      clear hx
      cases hb0 : x.toList == s.toList with
      | true =>
        have HT := isIn_take_hit HX.out hb0
        have hb : (s.toList == x.toList) = true := by rw [beq_iff, (beq_iff x s).1 hb0]
        clear hb0
        obtain rfl : r = true := by rw [← HR.out]; exact HT
        clear HT
        go_wp2_with fail
        go_ret
        exact ⟨_, rfl, by simp, rfl⟩
      | false =>
        have HT := Lib.hid (isIn_take_succ HX.out HN.out hb0)
        have hb : (s.toList == x.toList) = false := by rw [beq_false]; exact fun e => (beq_false x s).1 hb0 e.symm
        clear hb0
        go_wp2_with fail
        go_round
        case rel => exact ⟨k + 1, by omega, by go_num, HT.out⟩
        case measure => simp [intOf]; omega
    · obtain rfl : r = false := by
        rw [← HR.out, ← HN.out, List.take_of_length_le (by rw [HS.out.1]; omega)]
      go_wp2_with fail
      go_ret
      exact ⟨_, rfl, by decide, rfl⟩

set_option maxHeartbeats 400000 in
theorem contains_any (a : Option Addr) (len cap : Nat) (ss : List ByteArray) (s : ByteArray) (w : World) (hS : IsStrs w a len cap ss) :
    Calls Tryz.prog 133 #[.slice a len cap, .string s] w fun e w' => e = .returned (.bool (isIn s ss)) ∧ w' = w := by
  have HS := Lib.hid hS
  clear hS
  generalize hr : isIn s ss = r
  have HR := Lib.hid hr
  clear hr
  go_enter Tryz.func133, Tryz.ntmps133
  go_wp2_with fail
  refine (index_any a len cap ss s _ HS.out).mono ?_
  rintro e w' ⟨n, rfl, hn, rfl⟩
  rw [HR.out] at hn
  cases r with
  | true =>
    have h0 : 0 ≤ n := by simpa using hn
    clear hn
    go_wp2_with fail
    go_ret
    exact ⟨rfl, rfl⟩
  | false =>
    go_wp2_with fail
    go_ret
    exact ⟨by rw [← hn]; rfl, rfl⟩

set_option maxHeartbeats 400000 in
theorem is_any (d : Int) (s : ByteArray) (w : World) :
    Calls Tryz.prog 102 #[.int .i64 d, .string s] w fun e w' => e = .returned (.bool (isIn s (wordsOf d))) ∧ Below w.heap.size w w' := by
  go_enter Tryz.func102, Tryz.ntmps102
  go_wp2_with fail
  refine (all_any d _).mono ?_
  rintro e w1 ⟨v, rfl, ho, hb⟩
  obtain ⟨a, cap, rfl, hS⟩ := ho.strs (words_ok d)
  have HS := Lib.hid hS
  have HB := Lib.hid hb
  clear hS hb ho
  go_wp2_with fail
  refine (contains_any _ _ _ _ s _ HS.out).mono ?_
  rintro e w2 ⟨rfl, rfl⟩
  go_wp2_with fail
  go_ret
  exact ⟨rfl, HB.out⟩
set_option maxHeartbeats 400000 in
theorem refIs_any (d : Int) (s : ByteArray) (w : World) :
    Calls Tryz.prog 77 #[.int .i64 d, .string s] w fun e w' => e = .returned (.bool (isIn s (wordsOf d))) ∧ Below w.heap.size w w' := by
  go_enter Tryz.func77, Tryz.ntmps77
  go_wp2_with fail
  refine (refAll_any d _).mono ?_
  rintro e w1 ⟨v, rfl, ho, hb⟩
  obtain ⟨a, cap, rfl, hS⟩ := ho.strs (words_ok d)
  have HS := Lib.hid hS
  have HB := Lib.hid hb
  clear hS hb ho
  go_wp2_with fail
  refine (among_any _ _ _ _ s _ HS.out).mono ?_
  rintro e w2 ⟨rfl, rfl⟩
  go_wp2_with fail
  go_ret
  exact ⟨rfl, HB.out⟩

/-- The same texts? -/
def sameL (xs ys : List ByteArray) : Bool := decide (xs.map (·.toList) = ys.map (·.toList))
theorem sameL_iff (xs ys : List ByteArray) : sameL xs ys = true ↔ xs = ys := by
  unfold sameL
  rw [decide_eq_true_iff]
  refine ⟨fun h => ?_, fun h => by rw [h]⟩
  apply List.ext_getElem?
  intro i
  have h1 := congrArg (fun l : List (List UInt8) => l[i]?) h
  simp only [List.getElem?_map] at h1
  cases hx : xs[i]? with
  | none => rw [hx] at h1; cases hy : ys[i]? with
    | none => rfl
    | some y => rw [hy] at h1; simp at h1
  | some x => rw [hx] at h1; cases hy : ys[i]? with
    | none => rw [hy] at h1; simp at h1
    | some y => rw [hy] at h1; simp at h1; rw [(beq_iff x y).1 (by simpa using h1)]
theorem sameL_refl (xs : List ByteArray) : sameL xs xs = true := (sameL_iff _ _).2 rfl
theorem sameL_no {xs ys : List ByteArray} (h : xs ≠ ys) : sameL xs ys = false := by
  rw [← Bool.not_eq_true, sameL_iff]; exact h

set_option maxHeartbeats 400000 in
theorem sameTexts_any (a a' : Option Addr) (len cap len' cap' : Nat) (xs ys : List ByteArray) (w : World) (hS : IsStrs w a len cap xs) (hS' : IsStrs w a' len' cap' ys) :
    Calls Tryz.prog 18 #[.slice a len cap, .slice a' len' cap'] w fun e w' => e = .returned (.bool (sameL xs ys)) ∧ ∃ n, w' = w.drewN n := by
  have HS := Lib.hid hS
  have HS' := Lib.hid hS'
  have hcap := hS.len_le
  have hcap' := hS'.len_le
  clear hS hS'
  generalize hr : sameL xs ys = r
  have HR := Lib.hid hr
  clear hr
  by_cases hl : len = len'
  · subst hl
    go_enter Tryz.func18, Tryz.ntmps18
    go_wp2_with fail
    go_loopw [5] (fun i wr => ∃ k n : Nat, k ≤ len ∧ i = .int .i64 k ∧ xs.take k = ys.take k ∧ wr = w.drewN n) (fun i _ => len - (intOf i).toNat)
    case atStart => exact ⟨0, 0, Nat.zero_le _, rfl, rfl, rfl⟩
    case round =>
      obtain ⟨k, n, hk, rfl, hno, rfl⟩ := hrel
      have HN := Lib.hid hno
      clear hno
      by_cases hlt : k < len
      · obtain ⟨b, o, x, rfl, hx, hxs, hc⟩ := HS.out.at hlt
        obtain ⟨b', o', y, rfl, hy, hys, hc'⟩ := HS'.out.at hlt
        have HX := Lib.hid hx
        have HY := Lib.hid hy
        clear hx hy
        cases hb : x.toList == y.toList with
        | true =>
          have HT : xs.take (k + 1) = ys.take (k + 1) := by rw [take_snoc HX.out, take_snoc HY.out, HN.out, (beq_iff x y).1 hb]
          have HT := Lib.hid HT
          go_wp2_with fail
          go_quiet (fail)
          go_wp2_with fail
          go_roundw
          case rel => exact ⟨k + 1, _, by omega, by go_num, HT.out, by first | rfl | exact World.drewN_drewN _ _ _⟩
          case measure => simp [intOf]; omega
        | false =>
          obtain rfl : r = false := by
            rw [← HR.out]
            refine sameL_no fun e => (beq_false x y).1 hb ?_
            have := HX.out
            rw [e, HY.out] at this
            exact (Option.some.inj this).symm
          go_wp2_with fail
          go_quiet (fail)
          go_wp2_with fail
          go_ret
          exact ⟨rfl, _, by first | rfl | exact World.drewN_drewN _ _ _⟩
      · obtain rfl : r = true := by
          rw [← HR.out, sameL_iff]
          have := HN.out
          rw [List.take_of_length_le (by rw [HS.out.1]; omega), List.take_of_length_le (by rw [HS'.out.1]; omega)] at this
          exact this
        go_wp2_with fail
        go_ret
        exact ⟨rfl, _, rfl⟩
  · obtain rfl : r = false := by
      rw [← HR.out]
      refine sameL_no fun e => hl ?_
      rw [← HS.out.1, ← HS'.out.1, e]
    have hne : ((len : Int) == (len' : Int)) = false := by simp; omega
    go_enter Tryz.func18, Tryz.ntmps18
    go_wp2_with fail
    go_ret
    exact ⟨rfl, 0, rfl⟩
end Go.Proofs.YtciijpahjjoppaaGreat
