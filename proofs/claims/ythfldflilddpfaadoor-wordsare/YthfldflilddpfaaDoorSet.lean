/-
  A set of texts: setOf, has, walked.
-/
import Derived.Test.YthfldflilddpfaaDoorLst
import Derived.Maps.OwnSet
namespace Go.Proofs.YthfldflilddpfaaDoor
open Go.RowKit Go.Maps

def keyL (s : ByteArray) : Lit := .string s.data.toList
theorem keyL_inj {a b : ByteArray} (h : keyL a = keyL b) : a = b := by
  unfold keyL at h
  exact ByteArray.ext (Array.ext' (Lit.string.inj h))
theorem sameKey_keyL (a b : ByteArray) : (keyL a).sameKey (keyL b) = (a.toList == b.toList) := by
  rw [Bool.eq_iff_iff, beq_iff]
  refine ⟨fun h => keyL_inj (WideAt.sameKey_eq h), fun h => ?_⟩
  subst h
  simp [keyL, Lit.sameKey]
def setD (l : List ByteArray) : DataW Unit := Maps.setOf (.agg []) (l.map keyL)
theorem setD_nil : setD [] = .map [] := rfl
theorem setD_snoc (l : List ByteArray) (x : ByteArray) : setD (l ++ [x]) = (setD l).put (keyL x) (.agg []) := by
  unfold setD
  rw [List.map_append, List.map_singleton, setOf_snoc]
theorem has_setD (l : List ByteArray) (s : ByteArray) : Maps.has (setD l) (keyL s) = isIn s l := by
  unfold setD isIn
  rw [has_setOf _ _ _ (fun y hy => by obtain ⟨_, _, rfl⟩ := List.mem_map.1 hy; trivial), List.any_map]
  congr 1
  funext y
  exact sameKey_keyL y s
theorem law9 : Keyed Tryd.prog 9 := string_keyed Tryd.underlying9
theorem zero47 (w : World) : (zeroValue 47).run Tryd.prog w = .ok (.agg #[]) w := by kernel_rfl
theorem under40 : Tryd.prog.underlying 40 = some (.map 9 47) := by kernel_rfl
theorem key9 {s : ByteArray} (hs : s.size ≤ maxLen) : keyOf Tryd.prog 9 (.string s) = some (keyL s) := WideMaps.keyOf_string_mk Tryd.underlying9 hs
/-- The map in block B is the set of these texts. -/
abbrev SetAt (w : World) (B n : Nat) (D : DataW Unit) : Prop := w.ownsMap Tryd.prog 9 unitElem B n D

set_option maxHeartbeats 400000 in
theorem has_any (B n : Nat) (D : DataW Unit) (s : ByteArray) (w : World) (hs : s.size ≤ maxLen) (h : SetAt w B n D) :
    Calls Tryd.prog 26 #[.map (some B), .string s] w fun e w' => e = .returned (.bool (Maps.has D (keyL s))) ∧ w' = w.alloc (.cells #[] 47) := by
  have HO := Lib.hid h
  have HK := Lib.hid (key9 hs)
  clear h
  generalize hr : Maps.has D (keyL s) = r
  have HR := Lib.hid hr
  clear hr
  go_enter Tryd.func26, Tryd.ntmps26
  go_wp2_with (first
    | (at_lookup; refine wpList_lookup_own_unit _ rfl _ _ 40 rfl 9 47 law9 under40 (zero47 _) B n D rfl HO.out _ _ rfl HK.out ?_; rw [HR.out])
    | go_in)
  go_ret
  exact ⟨rfl, rfl⟩

/-- A slice of lists of texts. -/
def IsLists (w : World) (b o : Nat) (Ls : List (List ByteArray)) : Prop :=
  b < w.heap.size ∧ ∀ j ss, Ls[j]? = some ss → ∃ a n c, w.cell? ⟨b, o + j, none⟩ = some (.slice a n c) ∧ IsStrs w a n c ss
theorem flat_take {Ls : List (List ByteArray)} {k : Nat} {ss : List ByteArray} (h : Ls[k]? = some ss) : (Ls.take (k + 1)).flatten = (Ls.take k).flatten ++ ss := by
  rw [List.take_add_one, h]
  simp
theorem flat_take_le {Ls : List (List ByteArray)} {k : Nat} {ss : List ByteArray} (h : Ls[k]? = some ss) : (Ls.take k).flatten.length + ss.length ≤ Ls.flatten.length := by
  have h1 := congrArg (fun l : List (List ByteArray) => l.flatten.length) (List.take_append_drop (k + 1) Ls)
  simp only [List.flatten_append, List.length_append] at h1
  rw [flat_take h, List.length_append] at h1
  omega

set_option maxHeartbeats 1600000 in
theorem setOf_any (b o cap : Nat) (Ls : List (List ByteArray)) (w : World) (hL : IsLists w b o Ls) (hlen : Ls.length ≤ 1000) (htot : Ls.flatten.length ≤ 1000) :
    Calls Tryd.prog 25 #[.slice (some ⟨b, o, none⟩) Ls.length cap] w fun e w' => e = .returned (.map (some w.heap.size)) ∧ SetAt w' w.heap.size Ls.flatten.length (setD Ls.flatten) ∧ Below w.heap.size w w' := by
  have HL := Lib.hid hL
  clear hL
  have hmm := @run_makeMap Tryd.prog
  generalize hN : Ls.length = N at *
  have HN := Lib.hid hN
  clear hN
  go_enter Tryd.func25, Tryd.ntmps25
  go_wp2_with fail
  go_loopw [11] (fun i wr => ∃ k : Nat, k ≤ N ∧ i = .int .i64 k ∧ SetAt wr w.heap.size (Ls.take k).flatten.length (setD (Ls.take k).flatten) ∧ Below w.heap.size w wr)
    (fun i _ => N - (intOf i).toNat)
  case atStart => exact ⟨0, Nat.zero_le _, rfl, World.ownsMap_made _ _ _ _, (Below.refl _ _).alloc (Nat.le_refl _) _⟩
  case round =>
    obtain ⟨k, hk, rfl, hown, hnx⟩ := hrel
    have HO := Lib.hid hown
    have HB := Lib.hid hnx
    clear hown hnx
    by_cases hlt : k < N
    · obtain ⟨ss, hss⟩ : ∃ ss, Ls[k]? = some ss := ⟨Ls[k]'(by rw [HN.out]; exact hlt), List.getElem?_eq_getElem _⟩
      obtain ⟨a, n, c, hc0, hS0⟩ := HL.out.2 k ss hss
      have hc : wr.cell? ⟨b, o + k, none⟩ = some (.slice a n c) := (HB.out.cell (p := ⟨b, o + k, none⟩) HL.out.1).trans hc0
      have HS := Lib.hid hS0
      have HX := Lib.hid hss
      have hle := flat_take_le hss
      have hnn := hS0.1
      have hnc := hS0.len_le
      clear hss hc0 hS0
      generalize hF : (Ls.take k).flatten = F at *
      have HF := Lib.hid hF
      clear hF
      go_wp2_with fail
      go_loopw [17] (fun i wr2 => ∃ m : Nat, m ≤ n ∧ i = .int .i64 m ∧ SetAt wr2 w.heap.size (F ++ ss.take m).length (setD (F ++ ss.take m)) ∧ Below w.heap.size w wr2)
        (fun i _ => n - (intOf i).toNat)
      case atStart => exact ⟨0, Nat.zero_le _, rfl, by rw [List.take_zero, List.append_nil]; exact HO.out, HB.out⟩
      case round =>
        rename_i wr2 _ _
        obtain ⟨m, hm, rfl, hown2, hnx2⟩ := hrel
        have HO2 := Lib.hid hown2
        have HB2 := Lib.hid hnx2
        clear hown2 hnx2
        by_cases hlt2 : m < n
        · obtain ⟨b', o', x, rfl, hx, hxs, hc2⟩ := (HS.out.below HB2.out).at hlt2
          have HT : F ++ ss.take (m + 1) = (F ++ ss.take m) ++ [x] := by rw [take_snoc hx, List.append_assoc]
          have HT := Lib.hid HT
          have HK := Lib.hid (key9 hxs)
          have hlm : (F ++ ss.take m).length ≤ 1000 := by rw [List.length_append, List.length_take]; omega
          clear hx
          go_wp2_with (first
            | (at_mapUpdate; refine wpList_mapUpdate_own _ rfl _ _ _ 40 rfl 9 47 law9 under40 (unitElem (H := Unit)) w.heap.size _ _ rfl HO2.out (by unfold maxLen; omega) _ _ _ rfl rfl HK.out _ [] unitElem_mk ?_; intro w1 hown1 hgrow1)
            | go_in)
          have HO3 := Lib.hid hown1
          have HB3 := Lib.hid (HB2.out.grown hgrow1 HB2.out.size (fun j hj => by cases hj; exact Nat.le_refl _))
          clear hown1 hgrow1
          go_roundw
          case rel =>
            refine ⟨m + 1, by omega, by go_num, ?_, HB3.out⟩
            rw [HT.out, setD_snoc, List.length_append, List.length_singleton]
            exact HO3.out
          case measure => simp [intOf]; omega
        · have hm2 : m = n := by omega
          subst hm2
          go_wp2_with fail
          go_roundw
          case rel =>
            refine ⟨k + 1, by omega, by go_num, ?_, HB2.out⟩
            have H := HO2.out
            rw [List.take_of_length_le (by omega)] at H
            rw [flat_take HX.out, HF.out]
            exact H
          case measure => simp [intOf]; omega
    · have hk2 : k = N := by omega
      subst hk2
      have H := HO.out
      rw [List.take_of_length_le (by rw [HN.out]; omega)] at H
      have H2 := Lib.hid H
      clear H
      go_wp2_with fail
      go_ret
      exact ⟨rfl, H2.out, HB.out⟩
end Go.Proofs.YthfldflilddpfaaDoor
