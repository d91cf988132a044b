/-
  The sink's small calls (New, Full, Len, String, In, Out), walked; also of a sink that is none.
-/
import Derived.Test.YtinamdmefbmnnaaSk
namespace Go.Proofs.Ytinamdmefbmnnaa
open Go.RowKit

theorem ret_bool {a b : Bool} (h : a = b) : Ending.returned (.bool a) = .returned (.bool b) := by rw [h]
set_option maxHeartbeats 400000 in
theorem new_any (most : Int) (room : Nat) (hr : (room : Int) = max most 0) (w : World) :
    Calls Try.prog 10 #[.int .i64 most] w fun e w' => e = .returned (.pointer (some ⟨w.heap.size, 0, none⟩)) ∧ w' = w.alloc (.cells #[.slice none 0 0, .int .i64 (room : Nat), .int .i64 0, .bool false] 46) := by
  rw [hr]
  clear hr
  go_enter Try.func10, Try.ntmps10
  go_wp2
  · go_ret
    exact ⟨rfl, by rw [show max most 0 = 0 by omega]⟩
  · go_ret
    exact ⟨rfl, by rw [show max most 0 = most by omega]⟩

set_option maxHeartbeats 400000 in
theorem full_nil (w : World) : Calls Try.prog 14 #[.pointer none] w fun e w' => e = .returned (.bool true) ∧ w' = w := by
  go_enter Try.func14, Try.ntmps14
  go_wp2
  go_ret
  exact ⟨rfl, rfl⟩
set_option maxHeartbeats 400000 in
theorem full_any {w : World} {q : Nat} {acc : List UInt8} {room deep : Nat} {full : Bool} (h : SinkAt w q acc room deep full) :
    Calls Try.prog 14 #[.pointer (some ⟨q, 0, none⟩)] w fun e w' => e = .returned (.bool full) ∧ w' = w := by
  have h3 := h.c3
  clear h
  go_enter Try.func14, Try.ntmps14
  go_wp2
  go_ret
  exact ⟨rfl, rfl⟩
set_option maxHeartbeats 400000 in
theorem len_nil (w : World) : Calls Try.prog 13 #[.pointer none] w fun e w' => e = .returned (.int .i64 0) ∧ w' = w := by
  go_enter Try.func13, Try.ntmps13
  go_wp2
  go_ret
  exact ⟨rfl, rfl⟩
set_option maxHeartbeats 400000 in
theorem len_any {w : World} {q : Nat} {acc : List UInt8} {room deep : Nat} {full : Bool} (h : SinkAt w q acc room deep full) :
    Calls Try.prog 13 #[.pointer (some ⟨q, 0, none⟩)] w fun e w' => e = .returned (.int .i64 (acc.length : Nat)) ∧ w' = w := by
  obtain ⟨v, h1, h2, h3⟩ := h.ex
  have h0 : w.cell? ⟨q, 0, none⟩ = some v := by simp [World.cell?, h1]
  rcases h2.2 with ⟨rfl, h4⟩ | ⟨g, cap, cur, rfl, _⟩
  · rw [h4]
    clear h h1 h2 h3 h4
    go_enter Try.func13, Try.ntmps13
    go_wp2
    go_ret
    exact ⟨rfl, rfl⟩
  · clear h h1 h2 h3
    go_enter Try.func13, Try.ntmps13
    go_wp2
    go_ret
    exact ⟨rfl, rfl⟩
set_option maxHeartbeats 400000 in
theorem string_nil (w : World) : Calls Try.prog 12 #[.pointer none] w fun e w' => e = .returned (.string ⟨#[]⟩) ∧ w' = w := by
  go_enter Try.func12, Try.ntmps12
  go_wp2
  go_ret
  exact ⟨rfl, rfl⟩
theorem own_conv {w : World} {v : Value} {acc : List UInt8} (h : w.ownsRow 0 5 1 v acc.length (Lib.byteCells acc)) : (convert 42 9 v).run Try.prog w = .ok (.string ⟨acc.toArray⟩) w := by
  rcases h.2 with ⟨rfl, h2⟩ | ⟨g, cap, cur, rfl, _, hg, _, _, _, hcur⟩
  · have : acc = [] := List.eq_nil_of_length_eq_zero h2
    subst this
    exact run_convert_bytes_nil w 42 5 Try.underlying42 Try.underlying5 0 0 9 Try.underlying9
  · have e : strOfNums (acc.map fun b => (b.toNat : Int)) = ⟨acc.toArray⟩ := by
      unfold strOfNums
      rw [List.map_map]
      congr 2
      simp [Function.comp_def]
    rw [← e]
    refine run_convert_bytes_arg w 42 5 Try.underlying42 Try.underlying5 g 0 acc.length cap (acc.map fun b => (b.toNat : Int)) (by simp) ?_ 9 Try.underlying9
    intro i hi
    have h3 : cur.toList[i]? = (Lib.byteCells acc)[i]? := by rw [← hcur, List.getElem?_take]; simp [hi]
    unfold World.cell?
    simp only [hg, Nat.zero_add]
    have h4 : cur[i]? = (Lib.byteCells acc)[i]? := by rw [← h3]; simp
    simp [h4, Lib.byteCells, List.getElem?_eq_getElem hi, List.getD]
set_option maxHeartbeats 400000 in
theorem string_any {w : World} {q : Nat} {acc : List UInt8} {room deep : Nat} {full : Bool} (h : SinkAt w q acc room deep full) :
    Calls Try.prog 12 #[.pointer (some ⟨q, 0, none⟩)] w fun e w' => e = .returned (.string ⟨acc.toArray⟩) ∧ w' = w := by
  obtain ⟨v, h1, h2, h3⟩ := h.ex
  have h0 : w.cell? ⟨q, 0, none⟩ = some v := by simp [World.cell?, h1]
  have hv := own_conv h2
  clear h h1 h2 h3
  go_enter Try.func12, Try.ntmps12
  go_wp2
  go_ret
  exact ⟨rfl, rfl⟩
set_option maxHeartbeats 400000 in
theorem in_nil (w : World) : Calls Try.prog 16 #[.pointer none] w fun e w' => e = .returned (.tuple #[]) ∧ w' = w := by
  go_enter Try.func16, Try.ntmps16
  go_wp2
  go_end0
  exact ⟨rfl, rfl⟩
set_option maxHeartbeats 400000 in
theorem in_any {w : World} {q : Nat} {acc : List UInt8} {room deep : Nat} {full : Bool} (h : SinkAt w q acc room deep full) (hd : deep ≤ 1000000) :
    Calls Try.prog 16 #[.pointer (some ⟨q, 0, none⟩)] w fun e w' => e = .returned (.tuple #[]) ∧ SinkAt w' q acc room (deep + 1) full ∧ Did q w w' := by
  have H := Lib.hid h
  have h2 := h.c2
  have hf := h.fz 2
  clear h
  have hw : IntKind.i64.wrap ((deep : Int) + 1) = ((deep + 1 : Nat) : Int) := by rw [IntWalk.i64_in _ (by omega)]; omega
  go_enter Try.func16, Try.ntmps16
  go_wp2
  go_end0
  exact ⟨rfl, H.out.setDeep _, did_set H.out 2 (by omega) _⟩
set_option maxHeartbeats 400000 in
theorem out_nil (w : World) : Calls Try.prog 20 #[.pointer none] w fun e w' => e = .returned (.tuple #[]) ∧ w' = w := by
  go_enter Try.func20, Try.ntmps20
  go_wp2
  go_end0
  exact ⟨rfl, rfl⟩
set_option maxHeartbeats 400000 in
theorem out_any {w : World} {q : Nat} {acc : List UInt8} {room deep : Nat} {full : Bool} (h : SinkAt w q acc room deep full) (hd : deep ≤ 1000000) :
    Calls Try.prog 20 #[.pointer (some ⟨q, 0, none⟩)] w fun e w' => e = .returned (.tuple #[]) ∧ SinkAt w' q acc room (deep - 1) full ∧ Did q w w' := by
  have H := Lib.hid h
  have h2 := h.c2
  have hf := h.fz 2
  clear h
  by_cases h0 : deep = 0
  · subst h0
    go_enter Try.func20, Try.ntmps20
    go_wp2
    go_end0
    exact ⟨rfl, H.out, Did.refl _ _⟩
  · have hw : IntKind.i64.wrap ((deep : Int) - 1) = ((deep - 1 : Nat) : Int) := by rw [IntWalk.i64_in _ (by omega)]; omega
    have hb : decide ((0 : Int) < (deep : Int)) = true := by simp; omega
    go_enter Try.func20, Try.ntmps20
    go_wp2
    go_end0
    exact ⟨rfl, H.out.setDeep _, did_set H.out 2 (by omega) _⟩
end Go.Proofs.Ytinamdmefbmnnaa
