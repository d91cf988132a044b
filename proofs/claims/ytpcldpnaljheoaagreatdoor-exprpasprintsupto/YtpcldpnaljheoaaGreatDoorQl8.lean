/-
  The document's printer of expressions, walked: an operation's level and sign.
-/
import Derived.Test.YtpcldpnaljheoaaGreatDoorRu8
namespace Go.Proofs.YtpcldpnaljheoaaGreatDoor
open Go.RowKit Go.Deep Go.Sort

def levP (op : Nat) : Nat := if op = 8 then 2 else if op ∈ rowO 1 then 1 else if op ∈ rowO 2 then 2 else if op ∈ rowO 3 then 3 else 4
def sigQ (op : Nat) : List (ByteArray × Nat) → Option ByteArray
  | [] => none
  | (x, o) :: r => if o = op then some x else sigQ op r
def sigP (op : Nat) : ByteArray := ((sigQ op ((rowS 1).zip (rowO 1))).or ((sigQ op ((rowS 2).zip (rowO 2))).or (sigQ op ((rowS 3).zip (rowO 3))))).getD ⟨#[]⟩
theorem row_len (k : Nat) (h1 : 1 ≤ k) (h3 : k ≤ 3) : (rowO k).length = (rowS k).length ∧ (rowS k).length ≤ 6 := by
  rcases (by omega : k = 1 ∨ k = 2 ∨ k = 3) with rfl | rfl | rfl <;> decide
theorem levP_at {op k : Nat} (h8 : op ≠ 8) (h1 : 1 ≤ k) (h3 : k ≤ 3) (hb : ∀ j, 1 ≤ j → j < k → op ∉ rowO j) (h : op ∈ rowO k) : levP op = k := by
  unfold levP
  rw [if_neg h8]
  rcases (by omega : k = 1 ∨ k = 2 ∨ k = 3) with rfl | rfl | rfl
  · rw [if_pos h]
  · rw [if_neg (hb 1 (by omega) (by omega)), if_pos h]
  · rw [if_neg (hb 1 (by omega) (by omega)), if_neg (hb 2 (by omega) (by omega)), if_pos h]
theorem levP_no {op : Nat} (h8 : op ≠ 8) (hb : ∀ j, 1 ≤ j → j < 4 → op ∉ rowO j) : levP op = 4 := by
  unfold levP
  rw [if_neg h8, if_neg (hb 1 (by omega) (by omega)), if_neg (hb 2 (by omega) (by omega)), if_neg (hb 3 (by omega) (by omega))]
theorem rowW_below (k : Nat) (w : World) : Below w.heap.size w (rowW k w) := by
  unfold rowW
  exact ((Below.refl w.heap.size w).alloc (Nat.le_refl _) _).alloc (by simp) _
theorem rowW_o (k : Nat) (w : World) (i o : Nat) (h : (rowO k)[i]? = some o) : (rowW k w).cell? ⟨w.heap.size + 1, i, none⟩ = some (.int .i64 (o : Nat)) := by
  unfold rowW
  have := heap_new (w.alloc (.cells ((rowS k).map Value.string).toArray 9)) (.cells ((rowO k).map fun o => Value.int .i64 (o : Nat)).toArray 3)
  rw [show (w.alloc (.cells ((rowS k).map Value.string).toArray 9)).heap.size = w.heap.size + 1 by simp] at this
  rw [box_cells this]
  simp [h]
theorem rowW_s (k : Nat) (w : World) (i : Nat) (x : ByteArray) (h : (rowS k)[i]? = some x) : (rowW k w).cell? ⟨w.heap.size, i, none⟩ = some (.string x) := by
  unfold rowW
  have N2 := (Below.refl _ (w.alloc (.cells ((rowS k).map Value.string).toArray 9))).alloc (Nat.le_refl _) (.cells ((rowO k).map fun o => Value.int .i64 (o : Nat)).toArray 3)
  rw [box_cells ((N2.block w.heap.size (by simp)).trans (heap_new w _))]
  simp [h]
theorem rowW_size (k : Nat) (w : World) : (rowW k w).heap.size = w.heap.size + 2 := by unfold rowW; simp
set_option maxRecDepth 100000 in
set_option maxHeartbeats 2000000 in
theorem rlevelOf_any (op : Nat) (hop : op ≤ 100) (w : World) : Calls Tryz.prog 33 #[.int .i64 0, .int .i64 (op : Nat)] w fun e w' => e = .returned (.int .i64 (levP op : Nat)) ∧ Below w.heap.size w w' := by
  by_cases h8 : op = 8
  · subst h8
    go_enter Tryz.func33, Tryz.ntmps33
    go_wp2_with fail
    go_ret
    exact ⟨rfl, Below.refl _ _⟩
  · have d8 : ((op : Int) == 8) = false := by simp; omega
    generalize hL : levP op = L
    have HL := Lib.hid hL
    clear hL
    go_enter Tryz.func33, Tryz.ntmps33
    go_wp2_with fail
    go_loopw [5] (fun kv wr => ∃ k : Nat, kv = .int .i64 (k : Nat) ∧ 1 ≤ k ∧ k ≤ 4 ∧ (∀ j, 1 ≤ j → j < k → op ∉ rowO j) ∧ Below w.heap.size w wr) (fun kv _ => 4 - (intOf kv).toNat)
    case atStart => exact ⟨1, rfl, by omega, by omega, fun j h1 h2 => by omega, Below.refl _ _⟩
    case round =>
      obtain ⟨k, rfl, hk1, hk4, hno, hB⟩ := hrel
      have HB := Lib.hid hB
      have HNO := Lib.hid hno
      clear hB hno
      go_wp2_with fail
      refine (rlast_any _).mono ?_
      rintro e w1 ⟨rfl, rfl⟩
      by_cases hk : k < 4
      · have d4 : decide ((k : Int) < 4) = true := by simp; omega
        have hlen := row_len k hk1 (by omega)
        go_wp2_with fail
        refine (rrow_any k hk1 (by omega) _).mono ?_
        rintro e w2 ⟨rfl, rfl⟩
        have HW := Lib.hid (rowW_below k w1)
        have HO := Lib.hid (rowW_o k w1)
        have hsz := rowW_size k w1
        generalize rowW k w1 = W2 at HW HO hsz ⊢
        generalize hq : (rowS k).length = q at hlen ⊢
        go_wp2_with fail
        go_loopw [8] (fun iv wr => ∃ i : Nat, iv = .int .i64 (i : Nat) ∧ i ≤ q ∧ (∀ j o, j < i → (rowO k)[j]? = some o → o ≠ op) ∧ wr = W2) (fun iv _ => q - (intOf iv).toNat)
        case atStart => exact ⟨0, rfl, Nat.zero_le _, fun j o h _ => by omega, rfl⟩
        case round =>
          obtain ⟨i, rfl, hi, hn, rfl⟩ := hrel
          have HN := Lib.hid hn
          clear hn
          by_cases hlt : i < q
          · obtain ⟨o, ho⟩ : ∃ o, (rowO k)[i]? = some o := ⟨_, List.getElem?_eq_getElem (by omega)⟩
            have c0 := HO.out i o ho
            have i0 : (0 : Int) ≤ (i : Int) := by omega
            have i1 : (i : Int) < (q : Int) := by omega
            have d1 : decide ((i : Int) < (q : Int)) = true := by simp; omega
            have HOO := Lib.hid ho
            clear ho
            by_cases he : o = op
            · have d2 : ((o : Int) == (op : Int)) = true := by simp [he]
              have hLk := HL.out
              rw [levP_at h8 hk1 (by omega) HNO.out (List.mem_of_getElem? (he ▸ HOO.out))] at hLk
              have HLk := Lib.hid hLk
              clear he hLk
              go_wp2_with fail
              go_ret
              exact ⟨by rw [← HLk.out]; rfl, HB.out.trans (HW.out.mono HB.out.size)⟩
            · have d2 : ((o : Int) == (op : Int)) = false := by simp; omega
              go_wp2_with fail
              go_roundw
              case rel => exact ⟨i + 1, by go_num, by omega, fun j o' h1 h2 => by
                by_cases hj : j = i
                · subst hj; rw [HOO.out] at h2; injection h2 with h2; omega
                · exact HN.out j o' (by omega) h2, by first | rfl | trivial⟩
              case measure => simp [intOf]; omega
          · obtain rfl : i = q := by omega
            have d1 : decide ((i : Int) < (i : Int)) = false := by simp
            have hk' : op ∉ rowO k := fun hm => by
              obtain ⟨j, hj⟩ := List.mem_iff_getElem?.1 hm
              have hjl := (List.getElem?_eq_some_iff.1 hj).1
              exact HN.out j op (by omega) hj rfl
            have HK := Lib.hid hk'
            clear hk'
            go_wp2_with fail
            go_roundw
            case rel => exact ⟨k + 1, by go_num, by omega, by omega, fun j h1 h2 => by
              by_cases hj : j = k
              · subst hj; exact HK.out
              · exact HNO.out j h1 (by omega), HB.out.trans (HW.out.mono HB.out.size)⟩
            case measure => simp [intOf]; omega
      · obtain rfl : k = 4 := by omega
        have hLk := HL.out
        rw [levP_no h8 HNO.out] at hLk
        go_wp2_with fail
        refine (rlast_any _).mono ?_
        rintro e w1 ⟨rfl, rfl⟩
        go_wp2_with fail
        go_ret
        exact ⟨by rw [← hLk]; rfl, HB.out⟩
theorem sigQ_split {op : Nat} {x : ByteArray} : ∀ (l : List (ByteArray × Nat)) (i : Nat), l[i]? = some (x, op) → (∀ j y o, j < i → l[j]? = some (y, o) → o ≠ op) → sigQ op l = some x
  | [], i, h, _ => by simp at h
  | (y, o) :: r, 0, h, _ => by
    have : (y, o) = (x, op) := by simpa using h
    injection this with h1 h2
    subst h1 h2
    unfold sigQ
    rw [if_pos rfl]
  | (y, o) :: r, i + 1, h, hn => by
    unfold sigQ
    rw [if_neg (hn 0 y o (by omega) rfl)]
    exact sigQ_split r i (by simpa using h) fun j y' o' hj he => hn (j + 1) y' o' (by omega) (by simpa using he)
end Go.Proofs.YtpcldpnaljheoaaGreatDoor
