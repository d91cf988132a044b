/-
  The reference's Parts: walked.
-/
import Derived.Test.YtciijpahjjoppaaGreatRfp
namespace Go.Proofs.YtciijpahjjoppaaGreat
open Go.RowKit Go.Maps

theorem ext_ba (s : ByteArray) (a b : Nat) : s.extract a b = ba ((s.data.toList.drop a).take (b - a)) := by
  have h : (s.extract a b).data.toList = (s.data.toList.drop a).take (b - a) := by
    simp [ByteArray.data_extract, Array.toList_extract, List.extract]
  rw [← h, ba_data]
theorem bt_get (s : ByteArray) (j : Nat) (h : j < s.size) : s.data.toList[j]? = some (bt s j) := by
  unfold bt
  have h' : j < s.data.toList.length := by simpa using h
  rw [List.getD_eq_getElem?_getD, List.getElem?_eq_getElem h']
  rfl
theorem parts_cut (s : ByteArray) (f k : Nat) (hf : f ≤ k) (hk : k < s.size) (h : bt s k = 36) (hn : ∀ j, f ≤ j → j < k → bt s j ≠ 36) :
    (splitD (s.data.toList.drop f)).map ba = s.extract f k :: (splitD (s.data.toList.drop (k + 1))).map ba := by
  rw [splitD_at (k - f) (s.data.toList.drop f) (by rw [List.getElem?_drop, show f + (k - f) = k by omega, bt_get s k hk, h]) (fun j hj => by
    rw [List.getElem?_drop, bt_get s (f + j) (by omega)]
    intro e
    exact hn (f + j) (by omega) (by omega) (by simpa using e)), List.map_cons, ext_ba, List.drop_drop, show f + (k - f + 1) = k + 1 by omega]
theorem parts_last (s : ByteArray) (f : Nat) (hn : ∀ j, f ≤ j → j < s.size → bt s j ≠ 36) :
    (splitD (s.data.toList.drop f)).map ba = [s.extract f s.size] := by
  rw [splitD_none (s.data.toList.drop f) (fun j => by
    rw [List.getElem?_drop]
    by_cases hj : f + j < s.size
    · rw [bt_get s (f + j) hj]
      intro e
      exact hn (f + j) (by omega) hj (by simpa using e)
    · rw [List.getElem?_eq_none (by simp; omega)]
      simp), List.map_cons, List.map_nil, ext_ba, List.take_of_length_le (by simp)]
def PtI (s : ByteArray) (pre : List ByteArray) (f k : Nat) : Prop :=
  (k ≤ s.size ∧ f ≤ k ∧ (∀ j, f ≤ j → j < k → bt s j ≠ 36) ∧ parts s = pre ++ (splitD (s.data.toList.drop f)).map ba) ∨ (k = s.size + 1 ∧ pre = parts s)
theorem PtI.len {s : ByteArray} {pre : List ByteArray} {f k : Nat} (h : PtI s pre f k) : pre.length ≤ s.size + 1 := by
  have := parts_len s
  rcases h with ⟨_, _, _, e⟩ | ⟨_, rfl⟩
  · rw [e, List.length_append] at this; omega
  · exact this
set_option maxRecDepth 100000 in
set_option maxHeartbeats 2000000 in
theorem refParts_any (s : ByteArray) (w : World) (hs : s.size ≤ 2000000) : Calls Tryz.prog 52 #[.string s] w fun e w' => ∃ v, e = .returned v ∧ OwnS w.heap.size w' v (parts s) ∧ Below w.heap.size w w' := by
  have hmx : s.size ≤ maxLen := by unfold maxLen; omega
  go_enter Tryz.func52, Tryz.ntmps52
  go_wp2_with fail
  go_loopw [3, 4, 5] (fun v fv iv wr => ∃ (pre : List ByteArray) (f k : Nat), fv = .int .i64 f ∧ iv = .int .i64 k ∧ f ≤ s.size + 1 ∧ k ≤ s.size + 1 ∧ PtI s pre f k ∧ OwnS w.heap.size wr v pre ∧ Below w.heap.size w wr) (fun _ _ i _ => s.size + 2 - (intOf i).toNat)
  case atStart => exact ⟨[], 0, 0, rfl, rfl, by omega, by omega, .inl ⟨Nat.zero_le _, Nat.le_refl _, fun j _ hj => by omega, by simp [parts]⟩, OwnS.nil _ _, Below.refl _ _⟩
  case round =>
    obtain ⟨pre, f, k, rfl, rfl, hf, hk, hI, hO, hB⟩ := hrel
    have hpl := hI.len
    have HR2 := Lib.hid hO
    have HB2 := Lib.hid hB
    clear hO hB
    rcases hI with ⟨hk1, hfk, hn, he⟩ | ⟨hk1, he⟩
    · have HN := Lib.hid hn
      have HE := Lib.hid he
      clear hn he
      have HB3 := Lib.hid (HB2.out.alloc HB2.out.size (.cells (([s.extract f k] : List ByteArray).map Value.string).toArray 9))
      have HR3 := Lib.hid (HR2.out.below ((Below.refl wr.heap.size wr).alloc (Nat.le_refl _) (.cells (([s.extract f k] : List ByteArray).map Value.string).toArray 9)))
      have HLs := Lib.hid (lit_strs wr [s.extract f k] (by simp [maxLen]) (by
        intro z hz
        obtain rfl : z = s.extract f k := by simpa using hz
        simp [ByteArray.size_extract]
        omega))
      have hsz := HB2.out.size
      by_cases hlt : k < s.size
      · by_cases hd : bt s k = 36
        · have hq : (((s[k]).toNat : Int) == 36) = true := by rw [bt_eq s k hlt, hd]; rfl
          have HP := Lib.hid (show PtI s (pre ++ [s.extract f k]) (k + 1) (k + 1) from .inl ⟨by omega, Nat.le_refl _, fun j h1 h2 => by omega, by rw [HE.out, parts_cut s f k hfk hlt hd HN.out]; simp⟩)
          clear hd
          go_wp2_with (first
          | (at_builtin
             refine wp_appS rfl (.tmp 22) (.tmp 27) rfl HR3.out (by simp; omega) HLs.out rfl rfl (by simp; omega) ?_
             intro v' w7 hown7 hgrow7
             have HR7 := Lib.hid hown7
             have HB7 := Lib.hid (HB3.out.grown hgrow7 (by simp; omega) (fun j hj => (HR3.out.lt j hj).1))
             clear hown7 hgrow7)
          | go_in)
          go_roundw
          case rel => exact ⟨pre ++ [s.extract f k], k + 1, k + 1, by go_num, by go_num, by omega, by omega, HP.out, HR7.out, HB7.out⟩
          case measure => simp [intOf]; omega
        · have hq : (((s[k]).toNat : Int) == 36) = false := by
            rw [bt_eq s k hlt]
            simp only [beq_eq_false_iff_ne, ne_eq]
            intro e
            exact hd (UInt8.toNat_inj.1 (by simp; omega))
          have HP := Lib.hid (show PtI s pre f (k + 1) from .inl ⟨by omega, by omega, fun j h1 h2 => by
            by_cases hj : j = k
            · rw [hj]; exact hd
            · exact HN.out j h1 (by omega), HE.out⟩)
          clear hd
          go_wp2_with fail
          go_roundw
          case rel => exact ⟨pre, f, k + 1, rfl, by go_num, by omega, by omega, HP.out, HR2.out, HB2.out⟩
          case measure => simp [intOf]; omega
      · obtain rfl : k = s.size := by omega
        have HP := Lib.hid (show PtI s (pre ++ [s.extract f s.size]) (s.size + 1) (s.size + 1) from .inr ⟨rfl, by rw [HE.out, parts_last s f HN.out]⟩)
        go_wp2_with (first
        | (at_builtin
           refine wp_appS rfl (.tmp 22) (.tmp 27) rfl HR3.out (by simp; omega) HLs.out rfl rfl (by simp; omega) ?_
           intro v' w7 hown7 hgrow7
           have HR7 := Lib.hid hown7
           have HB7 := Lib.hid (HB3.out.grown hgrow7 (by simp; omega) (fun j hj => (HR3.out.lt j hj).1))
           clear hown7 hgrow7)
        | go_in)
        go_roundw
        case rel => exact ⟨pre ++ [s.extract f s.size], s.size + 1, s.size + 1, by go_num, by go_num, by omega, by omega, HP.out, HR7.out, HB7.out⟩
        case measure => simp [intOf] <;> omega
    · subst hk1
      have HE := Lib.hid he
      clear he
      go_wp2_with fail
      go_ret
      exact ⟨_, rfl, by rw [← HE.out]; exact HR2.out, HB2.out⟩
end Go.Proofs.YtciijpahjjoppaaGreat
