/-
  The reference's digits, Letter, Signs and name, walked.
-/
import Derived.Test.YtjdmaindoohmkaaDoorPPlaWalk
import Derived.Test.YtjdmaindoohmkaaDoorRefR
import Derived.Test.YtjdmaindoohmkaaDoorOwn
namespace Go.Proofs.YtjdmaindoohmkaaDoor.P
open Go.RowKit Go.Sort

theorem isDig_not (c : UInt8) (h : isDig c = false) : c.toNat < 48 ∨ 57 < c.toNat := by
  unfold isDig at h
  rw [← Bool.not_eq_true, Bool.and_eq_true, decide_eq_true_iff, decide_eq_true_iff] at h
  omega
theorem isDig_yes (c : UInt8) (h : isDig c = true) : 48 ≤ c.toNat ∧ c.toNat ≤ 57 := by
  unfold isDig at h
  simpa using h
theorem tw_from (p : UInt8 → Bool) (s : ByteArray) : ∀ n k, k + n = s.size → (∀ j, j < k → p (bt s j) = true) → (s.data.toList.takeWhile p).length = k + ((s.data.toList.drop k).takeWhile p).length := by
  intro n k hk hj
  have h := List.take_append_drop k s.data.toList
  have hall : ∀ c ∈ s.data.toList.take k, p c = true := by
    intro c hc
    obtain ⟨j, hj2⟩ := List.getElem?_of_mem hc
    have hjk : j < k := by have := (List.getElem?_eq_some_iff.1 hj2).1; rw [List.length_take] at this; omega
    rw [List.getElem?_take_of_lt hjk] at hj2
    have := hj j hjk
    unfold bt at this
    rw [List.getD_eq_getElem?_getD, hj2] at this
    exact this
  conv => lhs; rw [← h]
  rw [List.takeWhile_append_of_pos hall, List.length_append, List.length_take, len_size]
  omega
set_option maxHeartbeats 1000000 in
theorem refDigs (s : ByteArray) (w : World) (hs : s.size ≤ maxLen) :
    Calls Tryd.prog 44 #[.string s] w fun e w' => e = .returned (.int .i64 ((s.data.toList.takeWhile isDig).length : Nat)) ∧ w = w' := by
  unfold maxLen at hs
  go_enter Tryd.func44, Tryd.ntmps44
  go_wp2_with fail
  go_loop [3] (fun i => ∃ k : Nat, k ≤ s.size ∧ i = .int .i64 k ∧ ∀ j, j < k → isDig (bt s j) = true) (fun i => s.size - (intOf i).toNat)
  case atStart => exact ⟨0, Nat.zero_le _, rfl, fun j h => by omega⟩
  case round =>
    obtain ⟨k, hk, rfl, hall⟩ := hrel
    have TF := Lib.hid (tw_from isDig s (s.size - k) k (by omega) hall)
    have HA := Lib.hid hall
    clear hall
    by_cases hlt : k < s.size
    · have DB := Lib.hid (drop_bt s k hlt)
      have hbe := bt_eq s k hlt
      cases hd : isDig (bt s k) with
      | true =>
        have h1 := isDig_yes _ hd
        have d1 : decide ((48 : Int) ≤ ((bt s k).toNat : Int)) = true := by simp; omega
        have d2 : decide (((bt s k).toNat : Int) ≤ 57) = true := by simp; omega
        have HD := Lib.hid hd
        clear hd
        go_wp2_with fail
        go_round
        case rel => exact ⟨k + 1, by omega, by go_num, fun j hj => by
          rcases Nat.lt_or_ge j k with h | h
          · exact HA.out j h
          · obtain rfl : j = k := by omega
            exact HD.out⟩
        case measure => simp [intOf]; omega
      | false =>
        have hfin : (s.data.toList.takeWhile isDig).length = k := by
          rw [TF.out, DB.out, List.takeWhile_cons, hd]; rfl
        have HF := Lib.hid hfin
        clear hfin
        rcases isDig_not _ hd with h1 | h1
        · have d1 : decide ((48 : Int) ≤ ((bt s k).toNat : Int)) = false := by simp; omega
          clear hd
          go_wp2_with fail
          go_ret
          rw [HF.out]
          exact ⟨rfl, rfl⟩
        · have d1 : decide ((48 : Int) ≤ ((bt s k).toNat : Int)) = true := by simp; omega
          have d2 : decide (((bt s k).toNat : Int) ≤ 57) = false := by simp; omega
          clear hd
          go_wp2_with fail
          go_ret
          rw [HF.out]
          exact ⟨rfl, rfl⟩
    · have hfin : (s.data.toList.takeWhile isDig).length = k := by
        rw [TF.out, drop_end s k hlt]; rfl
      have HF := Lib.hid hfin
      clear hfin
      go_wp2_with fail
      go_ret
      rw [HF.out]
      exact ⟨rfl, rfl⟩
def letB (n : Nat) : Bool := (decide (97 ≤ n) && decide (n ≤ 122)) || (decide (n = 95) || (decide (48 ≤ n) && decide (n ≤ 57)))
set_option maxHeartbeats 1000000 in
theorem refLetter (n : Nat) (w : World) (hn : n ≤ 255) : Calls Tryd.prog 75 #[.int .u8 (n : Int), .bool false] w fun e w' => e = .returned (.bool (letB n)) ∧ w = w' := by
  by_cases hb : 97 ≤ n ∧ n ≤ 122
  · have e : letB n = true := by unfold letB; simp [hb.1, hb.2]
    rw [e]
    have d1 : decide ((97 : Int) ≤ (n : Int)) = true := by simp; omega
    have d2 : decide ((n : Int) ≤ 122) = true := by simp; omega
    clear hb e
    go_enter Tryd.func75, Tryd.ntmps75
    go_wp2_with fail
    go_ret
    exact ⟨rfl, rfl⟩
  · have eb : (decide (97 ≤ n) && decide (n ≤ 122)) = false := by
      rw [← Bool.not_eq_true, Bool.and_eq_true, decide_eq_true_iff, decide_eq_true_iff]; exact hb
    have el : letB n = (decide (n = 95) || (decide (48 ≤ n) && decide (n ≤ 57))) := by unfold letB; rw [eb, Bool.false_or]
    rw [el]
    have h1 : decide ((97 : Int) ≤ (n : Int)) = false ∨ (decide ((97 : Int) ≤ (n : Int)) = true ∧ decide ((n : Int) ≤ 122) = false) := by
      by_cases h1 : 97 ≤ n
      · exact .inr ⟨by simp; omega, by simp; omega⟩
      · exact .inl (by simp; omega)
    clear hb eb el
    by_cases h0 : n = 95
    · subst h0
      rw [show (decide (95 = 95) || (decide (48 ≤ 95) && decide (95 ≤ 57))) = true by decide]
      clear h1
      go_enter Tryd.func75, Tryd.ntmps75
      go_wp2_with fail
      go_ret
      exact ⟨rfl, rfl⟩
    · have d0 : ((n : Int) == 95) = false := by simp; omega
      by_cases h48 : 48 ≤ n
      · have d4 : decide ((48 : Int) ≤ (n : Int)) = true := by simp; omega
        by_cases h57 : n ≤ 57
        · have d5 : decide ((n : Int) ≤ 57) = true := by simp; omega
          rw [show (decide (n = 95) || (decide (48 ≤ n) && decide (n ≤ 57))) = true by simp [h48, h57]]
          clear h0 h48 h57
          rcases h1 with d1 | ⟨d1, d2⟩
          all_goals
            go_enter Tryd.func75, Tryd.ntmps75
            go_wp2_with fail
            go_ret
            exact ⟨rfl, rfl⟩
        · have d5 : decide ((n : Int) ≤ 57) = false := by simp; omega
          rw [show (decide (n = 95) || (decide (48 ≤ n) && decide (n ≤ 57))) = false by simp [h0, h57]]
          clear h0 h48 h57
          rcases h1 with d1 | ⟨d1, d2⟩
          all_goals
            go_enter Tryd.func75, Tryd.ntmps75
            go_wp2_with fail
            go_ret
            exact ⟨rfl, rfl⟩
      · have d4 : decide ((48 : Int) ≤ (n : Int)) = false := by simp; omega
        rw [show (decide (n = 95) || (decide (48 ≤ n) && decide (n ≤ 57))) = false by simp [h0, h48]]
        clear h0 h48
        rcases h1 with d1 | ⟨d1, d2⟩
        all_goals
          go_enter Tryd.func75, Tryd.ntmps75
          go_wp2_with fail
          go_ret
          exact ⟨rfl, rfl⟩
set_option maxHeartbeats 400000 in
set_option maxRecDepth 100000 in
theorem refSigns (w : World) : Calls Tryd.prog 47 #[.int .i64 0] w fun e w' => e = .returned (.slice (some ⟨w.heap.size, 0, none⟩) 18 18) ∧ w' = w.alloc (.cells (signsA.map Value.string).toArray 9) := by
  go_enter Tryd.func47, Tryd.ntmps47
  go_wp2_with fail
  go_ret
  exact ⟨rfl, rfl⟩
/-- What the reference finds: of what is wrong the error alone counts. -/
def FV (f : Fd) (v : Value) : Prop := ∃ (k n u : Int) (t : ByteArray), v = .agg #[.int .i64 k, .string t, .int .i64 n, .bool false, .int .i64 0, .int .i64 0, .int .i64 0, .int .i64 u, .int .i64 (f.err : Nat)] ∧ (f.err = 0 → k = (f.kind : Nat) ∧ t = ⟨f.text.toArray⟩ ∧ n = (f.n : Nat) ∧ u = (f.used : Nat))
def FPost (f : Fd) (w : World) (e : Ending) (w' : World) : Prop := ∃ v, e = .returned v ∧ FV f v ∧ Below w.heap.size w w'
theorem low_nam (x : UInt8) : letB (Lib.lowerB x).toNat = isNam x := by
  have := all8 (q := fun x => letB (Lib.lowerB x).toNat == isNam x) (by decide +kernel) x
  simpa using this
theorem low_up (x : UInt8) (h1 : 65 ≤ x.toNat) (h2 : x.toNat ≤ 90) : (Lib.lowerB x).toNat = x.toNat + 32 := by
  have := all8 (q := fun c => !(decide (65 ≤ c.toNat) && decide (c.toNat ≤ 90)) || decide ((Lib.lowerB c).toNat = c.toNat + 32)) (by decide +kernel) x
  rw [decide_eq_true h1, decide_eq_true h2] at this
  simpa using this
theorem low_no (x : UInt8) (h : ¬ (65 ≤ x.toNat ∧ x.toNat ≤ 90)) : Lib.lowerB x = x := by
  have := all8 (q := fun c => (decide (65 ≤ c.toNat) && decide (c.toNat ≤ 90)) || (Lib.lowerB c == c)) (by decide +kernel) x
  rw [show (decide (65 ≤ x.toNat) && decide (x.toNat ≤ 90)) = false by rw [← Bool.not_eq_true, Bool.and_eq_true, decide_eq_true_iff, decide_eq_true_iff]; exact h] at this
  simpa using this
end Go.Proofs.YtjdmaindoohmkaaDoor.P
