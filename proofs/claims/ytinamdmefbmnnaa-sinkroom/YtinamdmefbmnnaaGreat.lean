/-
  great, walked: where it says no, each of the first 60 acts has at most 20 texts, and all of them together at most 20000 bytes.
-/
import Derived.Test.YtinamdmefbmnnaaAwk
namespace Go.Proofs.Ytinamdmefbmnnaa
open Go.RowKit

/-- An act as it lies there. -/
structure ActV where
  kind : Int
  a : Option Addr
  len : Nat
  cap : Nat
  ss : List ByteArray
def IsActs (w : World) (a : Option Addr) (len cap : Nat) (xs : List ActV) : Prop :=
  xs.length = len ∧ len ≤ cap ∧ cap ≤ maxLen ∧ (len = 0 ∨ ∃ b o, a = some ⟨b, o, none⟩ ∧ b < w.heap.size ∧ ∀ (j : Nat) x, xs[j]? = some x →
    w.cell? ⟨b, o + j * 2, none⟩ = some (.int .i64 x.kind) ∧ w.cell? ⟨b, o + j * 2 + 1, none⟩ = some (.slice x.a x.len x.cap) ∧ -9223372036854775808 ≤ x.kind ∧ x.kind ≤ 9223372036854775807 ∧ IsStrs w x.a x.len x.cap x.ss)
def tot (xs : List ActV) : Nat := (xs.map fun x => (flat x.ss).length).sum
theorem tot_take {xs : List ActV} {k : Nat} {x : ActV} (h : xs[k]? = some x) : tot (xs.take (k + 1)) = tot (xs.take k) + (flat x.ss).length := by
  rw [List.take_add_one, h]
  simp [tot]
theorem tot_le (xs : List ActV) (i : Nat) (h : i ≤ 60) : tot (xs.take i) ≤ tot (xs.take 60) := by
  have e : xs.take 60 = xs.take i ++ (xs.drop i).take (60 - i) := by
    rw [show 60 = i + (60 - i) by omega, List.take_add]
    simp
  rw [e]
  simp [tot]
/-- No more than is looked at. -/
structure Fine (xs : List ActV) : Prop where
  few : ∀ i x, i < 60 → xs[i]? = some x → x.len ≤ 20
  sum : tot (xs.take 60) ≤ 20000
set_option maxHeartbeats 1600000 in
theorem great_any (a : Option Addr) (len cap : Nat) (xs : List ActV) (w : World) (hS : IsActs w a len cap xs) :
    Calls Try.prog 8 #[.slice a len cap] w fun e w' => (∃ g : Bool, e = .returned (.bool g) ∧ (g = false → Fine xs)) ∧ w' = w := by
  have HS := Lib.hid hS
  have hcap : len ≤ maxLen := by have := hS.2.1; have := hS.2.2.1; omega
  unfold maxLen at hcap
  clear hS
  go_enter Try.func8, Try.ntmps8
  go_wp2_with fail
  go_loopw [3, 4] (fun n i wr => ∃ (k m : Nat), n = .int .i64 m ∧ i = .int .i64 k ∧ k ≤ len ∧ k ≤ 60 ∧ wr = w ∧ m = tot (xs.take k) ∧ m ≤ 40000 * k ∧ (∀ i x, i < k → xs[i]? = some x → x.len ≤ 20)) (fun _ i _ => 60 - (intOf i).toNat)
  case atStart => exact ⟨0, 0, rfl, rfl, Nat.zero_le _, Nat.zero_le _, rfl, rfl, Nat.zero_le _, fun i _ h => absurd h (Nat.not_lt_zero _)⟩
  case round =>
    obtain ⟨k, m, rfl, rfl, hk, hk6, rfl, hm, hmk, hf⟩ := hrel
    have HF := Lib.hid hf
    have HM := Lib.hid hm
    clear hf hm
    by_cases hlt : k < len ∧ k < 60
    · obtain ⟨h1, h2⟩ := hlt
      obtain ⟨x, hx⟩ : ∃ x, xs[k]? = some x := ⟨xs[k]'(by rw [HS.out.1]; exact h1), List.getElem?_eq_getElem _⟩
      rcases HS.out.2.2.2 with h0 | ⟨b, o, rfl, hbl, hcell⟩
      · omega
      · obtain ⟨hc0, hc1, _, _, hst⟩ := hcell k x hx
        have TT := Lib.hid (tot_take hx)
        have HX := Lib.hid hx
        have ST := Lib.hid hst
        have hcx : x.len ≤ maxLen := by have := hst.2.1; have := hst.2.2.1; omega
        unfold maxLen at hcx
        clear hcell hc0 hx hst
        have d1 : decide ((k : Int) < (len : Int)) = true := by simp; omega
        have d2 : decide ((k : Int) < 60) = true := by simp; omega
        by_cases h20 : 20 < x.len
        · have d3 : decide ((20 : Int) < (x.len : Int)) = true := by simp; omega
          go_wp2_with fail
          go_ret
          exact ⟨⟨true, rfl, fun h => by cases h⟩, rfl⟩
        · have d3 : decide ((20 : Int) < (x.len : Int)) = false := by simp; omega
          go_wp2_with fail
          go_loopw [3, 5] (fun n i wr' => ∃ (j r : Nat), n = .int .i64 r ∧ i = .int .i64 j ∧ j ≤ x.len ∧ wr' = wr ∧ r = m + (flat (x.ss.take j)).length ∧ r ≤ m + 2000 * j) (fun _ i _ => x.len - (intOf i).toNat)
          case atStart => exact ⟨0, m, rfl, rfl, Nat.zero_le _, rfl, by simp [flat_nil], by omega⟩
          case round =>
            obtain ⟨j, r, rfl, rfl, hj, rfl, hr, hrj⟩ := hrel
            have HR := Lib.hid hr
            clear hr
            by_cases hlj : j < x.len
            · obtain ⟨y, hy⟩ : ∃ y, x.ss[j]? = some y := ⟨x.ss[j]'(by rw [ST.out.1]; exact hlj), List.getElem?_eq_getElem _⟩
              have hym : y.size ≤ maxLen := ST.out.2.2.2.1 y (List.mem_of_getElem? hy)
              unfold maxLen at hym
              rcases ST.out.2.2.2.2 with h0 | ⟨b2, o2, e2, hbl2, hcell2⟩
              · omega
              · have hc2 := hcell2 j y hy
                have FT := Lib.hid (flat_take hy)
                rw [e2] at hc1
                clear hcell2 hy
                by_cases h2k : 2000 < y.size
                · have d4 : decide ((2000 : Int) < (y.size : Int)) = true := by simp; omega
                  go_wp2_with fail
                  go_ret
                  exact ⟨⟨true, rfl, fun h => by cases h⟩, rfl⟩
                · have d4 : decide ((2000 : Int) < (y.size : Int)) = false := by simp; omega
                  go_wp2_with fail
                  go_roundw
                  case rel => exact ⟨j + 1, r + y.size, by go_num, by go_num, by omega, trivial, by rw [FT.out, List.length_append, len_size, HR.out]; omega, by omega⟩
                  case measure => simp [intOf]; omega
            · have hje : j = x.len := by omega
              subst hje
              have e : x.ss.take x.len = x.ss := List.take_of_length_le (by rw [ST.out.1]; omega)
              have HE := Lib.hid e
              clear e
              go_wp2_with fail
              go_roundw
              case rel =>
                refine ⟨k + 1, r, rfl, by go_num, by omega, by omega, trivial, by rw [TT.out, HR.out, HM.out, HE.out], by omega, ?_⟩
                intro i z hi hz
                rcases Nat.lt_or_ge i k with g | g
                · exact HF.out i z g hz
                · have : i = k := by omega
                  subst this
                  have e := HX.out
                  rw [hz] at e
                  cases e
                  omega
              case measure => simp [intOf]; omega
    · have FN : Hid (m ≤ 20000 → Fine xs) := Lib.hid (fun h => by
        by_cases h60 : k = 60
        · subst h60
          exact ⟨HF.out, by rw [← HM.out]; exact h⟩
        · have hkl : k = len := by omega
          have e : xs.take k = xs := List.take_of_length_le (by rw [HS.out.1]; omega)
          refine ⟨fun i x _ hx => HF.out i x ?_ hx, ?_⟩
          · have := (List.getElem?_eq_some_iff.1 hx).1
            rw [HS.out.1] at this; omega
          · rw [List.take_of_length_le (by rw [HS.out.1]; omega), ← e, ← HM.out]; exact h)
      by_cases hkl : k < len
      · have d1 : decide ((k : Int) < (len : Int)) = true := by simp; omega
        have d2 : decide ((k : Int) < 60) = false := by simp; omega
        go_wp2_with fail
        go_ret
        exact ⟨⟨_, rfl, fun h => FN.out (by simp at h; omega)⟩, rfl⟩
      · have d1 : decide ((k : Int) < (len : Int)) = false := by simp; omega
        go_wp2_with fail
        go_ret
        exact ⟨⟨_, rfl, fun h => FN.out (by simp at h; omega)⟩, rfl⟩
end Go.Proofs.Ytinamdmefbmnnaa
