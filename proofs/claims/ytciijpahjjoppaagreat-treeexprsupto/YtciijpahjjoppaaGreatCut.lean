/-
  strings.Cut at the sign '$': walked.
-/
import Derived.Test.YtciijpahjjoppaaGreatPrt
namespace Go.Proofs.YtciijpahjjoppaaGreat
open Go.RowKit Go.Deep

/-- What Cut leaves. -/
def CutPost (s : ByteArray) (w : World) (e : Ending) (w' : World) : Prop := ∃ p r m, e = .returned (.tuple #[.string p, .string r, .bool m]) ∧ (∃ n, w' = w.drewN n) ∧ ((m = false ∧ parts s = [p]) ∨ (m = true ∧ parts s = p :: parts r ∧ r.size < s.size))
theorem ext_take (s : ByteArray) (k : Nat) : (s.extract 0 k).data.toList = s.data.toList.take k := by
  simp [ByteArray.data_extract, Array.toList_extract, List.extract_eq_take_drop]
theorem ext_drop (s : ByteArray) (k : Nat) : (s.extract k s.size).data.toList = s.data.toList.drop k := by
  simp only [ByteArray.data_extract, Array.toList_extract, List.extract_eq_take_drop]
  rw [List.take_of_length_le (by simp)]
theorem ba_take (s : ByteArray) (i : Nat) : s.extract 0 i = ba (s.data.toList.take i) := by
  rw [← ext_take, ba_data]
theorem ba_drop (s : ByteArray) (i : Nat) : s.extract i s.size = ba (s.data.toList.drop i) := by
  rw [← ext_drop, ba_data]
theorem cutPost_hit (s : ByteArray) (i n : Nat) (w : World) (h : Lib.indexByte s.data.toList 36 = i) : CutPost s w (.returned (.tuple #[.string (s.extract 0 i), .string (s.extract (i + 1) s.size), .bool true])) (w.drewN n) := by
  obtain ⟨h1, h2⟩ := splitD_hit _ i h
  refine ⟨_, _, true, rfl, ⟨n, rfl⟩, .inr ⟨rfl, ?_, ?_⟩⟩
  · unfold parts
    rw [h2, ba_take, ba_drop, ba_list]
    rfl
  · rw [ba_drop, ba_size, List.length_drop]
    have h3 : i < s.size := h1
    show s.size - (i + 1) < s.size
    omega
theorem cutPost_miss (s : ByteArray) (w : World) (h : Lib.indexByte s.data.toList 36 = -1) : CutPost s w (.returned (.tuple #[.string s, .string ⟨#[]⟩, .bool false])) w := by
  refine ⟨s, _, false, rfl, ⟨0, rfl⟩, .inl ⟨rfl, ?_⟩⟩
  unfold parts
  rw [splitD_miss _ h]
  simp [ba_data]
set_option maxRecDepth 100000 in
set_option maxHeartbeats 1000000 in
theorem cutLite_any (s : ByteArray) (w : World) (hs : s.size ≤ maxLen) : Calls Tryz.prog 154 #[.string s, .string ⟨#[36]⟩] w (CutPost s w) := by
  unfold maxLen at hs
  by_cases hm : Lib.indexByte s.data.toList 36 = -1
  · have HM := Lib.hid hm
    clear hm
    go_enter Tryz.func154, Tryz.ntmps154
    go_wp2_with fail
    refine (index_D s _).mono ?_
    rw [HM.out]
    rintro e w' ⟨rfl, rfl⟩
    go_wp2_with fail
    go_ret3
    exact cutPost_miss s _ HM.out
  · obtain ⟨i, hi⟩ := Int.eq_ofNat_of_zero_le (show 0 ≤ Lib.indexByte s.data.toList 36 by have := Lib.indexByte_ge s.data.toList 36; omega)
    have HI := Lib.hid hi
    have hlt : i < s.size := (splitD_hit _ i hi).1
    have c1 : (0 : Int) ≤ ↑i := by omega
    have c2 : (↑i : Int) ≤ ↑s.size := by omega
    have c3 : (0 : Int) ≤ ↑i + 1 := by omega
    have c4 : (↑i + 1 : Int) ≤ ↑s.size := by omega
    clear hi hm
    go_enter Tryz.func154, Tryz.ntmps154
    go_wp2_with fail
    refine (index_D s _).mono ?_
    rw [HI.out]
    rintro e w' ⟨rfl, rfl⟩
    go_wp2_with fail
    go_region
    go_wp2_with fail
    go_ret3
    exact cutPost_hit s i _ _ HI.out
set_option maxRecDepth 100000 in
set_option maxHeartbeats 1000000 in
theorem cut_any (s : ByteArray) (w : World) (hs : s.size ≤ maxLen) : Calls Tryz.prog 141 #[.string s, .string ⟨#[36]⟩] w (CutPost s w) := by
  go_enter Tryz.func141, Tryz.ntmps141
  go_wp2_with fail
  refine (cutLite_any s _ hs).mono ?_
  rintro e w' ⟨p, r, m, rfl, ⟨n, rfl⟩, h⟩
  have H := Lib.hid h
  clear h
  go_wp2_with fail
  go_ret3
  exact ⟨p, r, m, rfl, ⟨n, rfl⟩, H.out⟩
end Go.Proofs.YtciijpahjjoppaaGreat
