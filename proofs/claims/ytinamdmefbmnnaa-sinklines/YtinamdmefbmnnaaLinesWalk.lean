/-
  SinkLines, walked.
-/
import Derived.Test.YtinamdmefbmnnaaAwk
namespace Go.Proofs.Ytinamdmefbmnnaa
open Go.RowKit

theorem ba_ext2 {s t : ByteArray} (h : s.data.toList = t.data.toList) : s = t := by
  cases s; cases t
  simp at h
  subst h
  rfl
/-- Two sinks that have no block in common, with one text, one room and one indentation. -/
structure Two (w0 w : World) (p : Nat) (acc : List UInt8) (room deep : Nat) (q : Nat) (acc2 : List UInt8) (room2 deep2 : Nat) : Prop where
  ra : Run w0 w p acc room deep false
  rb : Run w0 w q acc2 room2 deep2 false
  dis : ∀ k, Mine w p k → ¬ Mine w q k
theorem Two.swap {w0 w : World} {p : Nat} {acc : List UInt8} {room deep : Nat} {q : Nat} {acc2 : List UInt8} {room2 deep2 : Nat} (h : Two w0 w p acc room deep q acc2 room2 deep2) : Two w0 w q acc2 room2 deep2 p acc room deep :=
  ⟨h.rb, h.ra, fun k h1 h2 => h.dis k h2 h1⟩
theorem Two.didA {w0 w w' : World} {p : Nat} {acc acc' : List UInt8} {room deep room' deep' : Nat} {q : Nat} {acc2 : List UInt8} {room2 deep2 : Nat} (h : Two w0 w p acc room deep q acc2 room2 deep2)
    (s : SinkAt w' p acc' room' deep' false) (d : Did p w w') : Two w0 w' p acc' room' deep' q acc2 room2 deep2 := by
  have hk : ∀ k, Mine w q k → w'.heap[k]? = w.heap[k]? := fun k hm => d.block k (h.rb.sk.mine_lt k hm) (fun hp => h.dis k hp hm)
  have hq := hk q (.inl rfl)
  have r := h.ra.did s d
  refine ⟨r, ⟨h.rb.sk.kept hk, r.bel, fun k hm => h.rb.up k ((Mine.congr hq).1 hm)⟩, fun k h1 h2 => ?_⟩
  have h3 := (Mine.congr hq).1 h2
  rcases d.mine k h1 with h4 | h4
  · exact h.dis k h4 h3
  · have := h.rb.sk.mine_lt k h3
    omega
theorem Two.didB {w0 w w' : World} {p : Nat} {acc acc' : List UInt8} {room deep room' deep' : Nat} {q : Nat} {acc2 : List UInt8} {room2 deep2 : Nat} (h : Two w0 w p acc room deep q acc2 room2 deep2)
    (s : SinkAt w' q acc' room' deep' false) (d : Did q w w') : Two w0 w' p acc room deep q acc' room' deep' := (h.swap.didA s d).swap
theorem Two.alloc {w0 w : World} {p : Nat} {acc : List UInt8} {room deep : Nat} {q : Nat} {acc2 : List UInt8} {room2 deep2 : Nat} (h : Two w0 w p acc room deep q acc2 room2 deep2) (o : Obj) : Two w0 (w.alloc o) p acc room deep q acc2 room2 deep2 :=
  h.didA (h.ra.alloc o).sk (Did.below h.ra.sk.lt ((Below.refl _ _).alloc (Nat.le_refl _) _))
theorem Two.new (w : World) (room : Nat) : Two w ((w.alloc (.cells #[.slice none 0 0, .int .i64 (room : Nat), .int .i64 0, .bool false] 46)).alloc (.cells #[.slice none 0 0, .int .i64 (room : Nat), .int .i64 0, .bool false] 46)) w.heap.size [] room 0 (w.heap.size + 1) [] room 0 := by
  have h1 := Run.new w room
  have h2 := Run.new (w.alloc (.cells #[.slice none 0 0, .int .i64 (room : Nat), .int .i64 0, .bool false] 46)) room
  have e : (w.alloc (.cells #[.slice none 0 0, .int .i64 (room : Nat), .int .i64 0, .bool false] 46)).heap.size = w.heap.size + 1 := by simp
  have h3 := h1.alloc (.cells #[.slice none 0 0, .int .i64 (room : Nat), .int .i64 0, .bool false] 46)
  rw [e] at h2
  refine ⟨h3, ⟨h2.sk, h3.bel, fun k hk => ?_⟩, fun k k1 k2 => ?_⟩
  · have := h2.up k hk
    rw [e] at this
    omega
  · have k3 := h2.up k k2
    rw [e] at k3
    have k4 := (Mine.congr (heap_old _ _ _ h1.sk.lt)).1 k1
    rw [mine_new] at k4
    omega
theorem none_strs (w : World) : IsStrs w none 0 0 [] := ⟨rfl, Nat.le_refl _, by decide, by simp, .inl rfl⟩
theorem flat1 (x : ByteArray) : flat [x] = x.data.toList := by simp [flat]
theorem flat1_len (x : ByteArray) : (flat [x]).length = x.size := by rw [flat1, len_size]
theorem pad32 {t : ByteArray} {j : Nat} (h : t.data.toList = List.replicate (2 * j) 32) : (t ++ ⟨#[32, 32]⟩).data.toList = List.replicate (2 * (j + 1)) 32 := by
  rw [show 2 * (j + 1) = 2 * j + 2 by omega, ← List.replicate_append_replicate, ← h]
  simp [ByteArray.data_append]
set_option maxRecDepth 100000 in
set_option maxHeartbeats 1600000 in
theorem sinkLines_walk (a : Option Addr) (len cap : Nat) (ss : List ByteArray) (n : Int) (w : World) (hS : IsStrs w a len cap ss) (hn0 : 0 ≤ n) (hn1 : n ≤ 255) :
    Calls Try.prog 5 #[.slice a len cap, .int .u8 n] w fun e w' => e = .returned (.bool true) ∧ Below w.heap.size w w' := by
  have HS := Lib.hid hS
  have hcap : len ≤ maxLen := by have := hS.2.1; have := hS.2.2.1; omega
  unfold maxLen at hcap
  clear hS
  by_cases hl : 40 < len
  · have hd : decide ((40 : Int) < (len : Int)) = true := by simp; omega
    go_enter Try.func5, Try.ntmps5
    go_wp2_with fail
    refine (awake_any _).mono ?_
    rintro e w1 ⟨rfl, b1⟩
    have B1 := Lib.hid b1
    clear b1
    go_wp2_with fail
    go_ret
    exact ⟨rfl, B1.out⟩
  · have hd : decide ((40 : Int) < (len : Int)) = false := by simp; omega
    go_enter Try.func5, Try.ntmps5
    go_wp2_with fail
    refine (new_any 1048576 1048576 (by decide) _).mono ?_
    rintro e w1 ⟨rfl, rfl⟩
    go_wp2_with fail
    refine (new_any 1048576 1048576 (by decide) _).mono ?_
    have T0 := Lib.hid (Two.new w 1048576)
    rintro e w2 ⟨rfl, rfl⟩
    generalize ((w.alloc (.cells #[.slice none 0 0, .int .i64 ((1048576 : Nat) : Int), .int .i64 0, .bool false] 46)).alloc (.cells #[.slice none 0 0, .int .i64 ((1048576 : Nat) : Int), .int .i64 0, .bool false] 46)) = w2 at T0 ⊢
    go_wp2_with fail
    go_loopw [8, 9] (fun v i wr => ∃ (k : Nat) (t : ByteArray), v = .string t ∧ i = .int .i64 k ∧ (k : Int) ≤ n % 20 ∧ t.data.toList = List.replicate (2 * k) 32 ∧ Two w wr w.heap.size [] 1048576 k (w.heap.size + 1) [] 1048576 k) (fun _ i _ => (n % 20).toNat - (intOf i).toNat)
    case atStart => exact ⟨0, ⟨#[]⟩, rfl, rfl, by omega, rfl, T0.out⟩
    case round =>
      obtain ⟨k, t, rfl, rfl, hk, ht, hT⟩ := hrel
      have T := Lib.hid hT
      have HT := Lib.hid ht
      clear hT ht
      by_cases hlt : (k : Int) < n % 20
      · have hd2 : decide ((k : Int) < n % 20) = true := by simpa using hlt
        go_wp2_with fail
        refine (in_any T.out.ra.sk (by omega)).mono ?_
        rintro e w3 ⟨rfl, s3, d3⟩
        have T3 := Lib.hid (T.out.didA s3 d3)
        clear s3 d3
        go_wp2_with fail
        refine (in_any T3.out.rb.sk (by omega)).mono ?_
        rintro e w4 ⟨rfl, s4, d4⟩
        have T4 := Lib.hid (T3.out.didB s4 d4)
        clear s4 d4
        have hsz : t.size ≤ 100000 := by rw [← len_size, HT.out, List.length_replicate]; omega
        go_wp2_with fail
        go_roundw
        case rel => exact ⟨k + 1, _, rfl, by go_num, by omega, pad32 HT.out, T4.out⟩
        case measure => simp [intOf]; omega
      · have hd2 : decide ((k : Int) < n % 20) = false := by simpa using hlt
        have hk20 : k ≤ 19 := by omega
        have hsz : t.size = 2 * k := by rw [← len_size, HT.out, List.length_replicate]
        go_wp2_with fail
        go_loopw [7, 10] (fun v i wr => ∃ (j : Nat) (s : ByteArray) (room : Nat), v = .string s ∧ i = .int .i64 j ∧ j ≤ len ∧ Two w wr w.heap.size s.data.toList room k (w.heap.size + 1) s.data.toList room k ∧ room + s.size = 1048576 ∧ s.size ≤ 1100 * j) (fun _ i _ => len - (intOf i).toNat)
        case atStart => exact ⟨0, ⟨#[]⟩, 1048576, rfl, rfl, Nat.zero_le _, T.out, rfl, by decide⟩
        case round =>
          obtain ⟨j, s, room, rfl, rfl, hj, hT2, hrs, hsj⟩ := hrel
          have U := Lib.hid hT2
          clear hT2 T
          by_cases hlj : j < len
          · obtain ⟨x, hx⟩ : ∃ x, ss[j]? = some x := ⟨ss[j]'(by rw [HS.out.1]; exact hlj), List.getElem?_eq_getElem _⟩
            rcases HS.out.2.2.2.2 with h0 | ⟨b, o, rfl, hbl, hcell⟩
            · omega
            · have hc0 := hcell j x hx
              have hxm : x.size ≤ maxLen := HS.out.2.2.2.1 x (List.mem_of_getElem? hx)
              have HC : Hid (∀ wr, Below w.heap.size w wr → wr.cell? ⟨b, o + j, none⟩ = some (.string x)) := Lib.hid (fun wr hb => (hb.cell (p := ⟨b, o + j, none⟩) hbl).trans hc0)
              clear hcell hx hc0 HS
              unfold maxLen at hxm
              have hc := HC.out wr U.out.ra.bel
              by_cases hx1 : 1000 < x.size
              · have hd3 : decide ((1000 : Int) < (x.size : Int)) = true := by simp; omega
                go_wp2_with fail
                refine (awake_any _).mono ?_
                rintro e w10 ⟨rfl, b10⟩
                have B10 := Lib.hid (U.out.ra.bel.trans (b10.mono U.out.ra.bel.size))
                clear b10
                go_wp2_with fail
                go_ret
                exact ⟨rfl, B10.out⟩
              · have hd3 : decide ((1000 : Int) < (x.size : Int)) = false := by simp; omega
                go_wp2_with fail
                have U1 := Lib.hid (U.out.alloc (.cells ([x].map Value.string).toArray 9))
                have P1 := Lib.hid (parts_lit U.out.ra.sk [x] (by simp; decide) (by simp; unfold maxLen; omega)).strs
                refine (line_any U1.out.ra.sk P1.out (by simp) (by omega) (by rw [flat1_len, len_size]; omega) (by unfold maxLen; omega) true (by rw [flat1_len]; simp; omega)).mono ?_
                rintro e w3 ⟨rfl, s3, d3⟩
                have U3 : Hid (Two w w3 w.heap.size (s.data.toList ++ (List.replicate (2 * k) 32 ++ (flat [x] ++ [10]))) (room - (2 * k + ((flat [x]).length + 1))) k (w.heap.size + 1) s.data.toList room k) := Lib.hid (U1.out.didA s3 d3)
                clear s3 d3 U1 P1
                go_wp2_with fail
                refine (begin_any U3.out.rb.sk (none_strs _) (by decide) (by omega) (by rw [len_size, flat_nil]; simp; omega) (by unfold maxLen; omega) true (by rw [flat_nil]; simp; omega)).mono ?_
                rintro e w4 ⟨rfl, s4, d4⟩
                have U4 : Hid (Two w w4 w.heap.size (s.data.toList ++ (List.replicate (2 * k) 32 ++ (flat [x] ++ [10]))) (room - (2 * k + ((flat [x]).length + 1))) k (w.heap.size + 1) (s.data.toList ++ (List.replicate (2 * k) 32 ++ flat [])) (room - (2 * k + (flat []).length)) k) := Lib.hid (U3.out.didB s4 d4)
                clear s4 d4
                have hc4 := HC.out w4 U4.out.ra.bel
                go_wp2_with fail
                have U5 := Lib.hid (U4.out.alloc (.cells ([x].map Value.string).toArray 9))
                have P5 := Lib.hid (parts_lit U4.out.rb.sk [x] (by simp; decide) (by simp; unfold maxLen; omega)).strs
                refine (end_any U5.out.rb.sk P5.out (by simp) (by omega) (by rw [flat1_len, flat_nil]; simp; omega) (by unfold maxLen; omega) true (by rw [flat1_len, flat_nil]; simp; omega)).mono ?_
                rintro e w6 ⟨rfl, s6, d6⟩
                have U6 : Hid (Two w w6 w.heap.size (s.data.toList ++ (List.replicate (2 * k) 32 ++ (flat [x] ++ [10]))) (room - (2 * k + ((flat [x]).length + 1))) k (w.heap.size + 1) (s.data.toList ++ (List.replicate (2 * k) 32 ++ flat []) ++ (flat [x] ++ [10])) (room - (2 * k + (flat []).length) - ((flat [x]).length + 1)) k) := Lib.hid (U5.out.didB s6 d6)
                clear s6 d6
                have hc6 := HC.out w6 U6.out.ra.bel
                have U7 : Hid (Two w w6 w.heap.size (s ++ t ++ x ++ ⟨#[10]⟩).data.toList (room - (2 * k + (x.size + 1))) k (w.heap.size + 1) (s ++ t ++ x ++ ⟨#[10]⟩).data.toList (room - (2 * k + (x.size + 1))) k) := Lib.hid (by
                  have e := U6.out
                  rw [flat1_len, flat1, flat_nil, List.append_nil, List.length_nil, Nat.add_zero, ← HT.out] at e
                  have e1 : (s ++ t ++ x ++ ⟨#[10]⟩).data.toList = s.data.toList ++ (t.data.toList ++ (x.data.toList ++ [10])) := by simp [ByteArray.data_append]
                  have e2 : (s ++ t ++ x ++ ⟨#[10]⟩).data.toList = s.data.toList ++ t.data.toList ++ (x.data.toList ++ [10]) := by simp [ByteArray.data_append]
                  rw [← e1, ← e2, Nat.sub_sub] at e
                  exact e)
                have hss : (s ++ t ++ x ++ ⟨#[10]⟩).size = s.size + t.size + x.size + 1 := by simp [ByteArray.size_append]; rfl
                clear U6 U5 U4 U3
                go_wp2_with fail
                go_roundw
                case rel => exact ⟨j + 1, _, _, rfl, by go_num, by omega, U7.out, by omega, by omega⟩
                case measure => simp [intOf]; omega
          · go_wp2_with fail
            refine (string_any U.out.ra.sk).mono ?_
            rw [← show s = ⟨s.data.toList.toArray⟩ from ba_ext2 (by simp)]
            rintro e w8 ⟨rfl, rfl⟩
            go_wp2_with fail
            refine (string_any U.out.rb.sk).mono ?_
            rw [← show s = ⟨s.data.toList.toArray⟩ from ba_ext2 (by simp)]
            rintro e w9 ⟨rfl, rfl⟩
            go_wp2_with fail
            refine (awake_any _).mono ?_
            rintro e w10 ⟨rfl, b10⟩
            have B10 := Lib.hid (U.out.ra.bel.trans (b10.mono U.out.ra.bel.size))
            clear b10
            go_wp2_with fail
            go_ret
            exact ⟨rfl, B10.out⟩
end Go.Proofs.Ytinamdmefbmnnaa
