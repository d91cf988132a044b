/-
  SinkRoom, walked.
-/
import Derived.Test.YtinamdmefbmnnaaGreat
namespace Go.Proofs.Ytinamdmefbmnnaa
open Go.RowKit

/-- Texts that came in stand in no block of a sink that was made since. -/
theorem parts_in {w0 w : World} {q : Nat} {acc : List UInt8} {room deep : Nat} {full : Bool} {a : Option Addr} {len cap : Nat} {ss : List ByteArray} (h : Run w0 w q acc room deep full) (hs : IsStrs w0 a len cap ss) : Parts w q a len cap ss := by
  refine ⟨hs.below h.bel, fun hn b o e hm => ?_⟩
  rcases hs.2.2.2.2 with h0 | ⟨b2, o2, e2, hb, _⟩
  · exact hn h0
  · rw [e] at e2
    cases e2
    have := h.up b hm
    omega
set_option maxHeartbeats 1600000 in
theorem sinkRoom_walk (n : Int) (a : Option Addr) (len cap : Nat) (xs : List ActV) (w : World) (hS : IsActs w a len cap xs) (hn0 : -9223372036854775808 ≤ n) (hn1 : n ≤ 9223372036854775807) :
    Calls Try.prog 4 #[.int .i64 n, .slice a len cap] w fun e w' => e = .returned (.bool true) ∧ Below w.heap.size w w' := by
  have HS := Lib.hid hS
  have hcap : len ≤ maxLen := by have := hS.2.1; have := hS.2.2.1; omega
  unfold maxLen at hcap
  clear hS
  obtain ⟨M, hM⟩ : ∃ M : Nat, (M : Int) = max n 0 := ⟨(max n 0).toNat, by omega⟩
  have HM := Lib.hid hM
  have hMm : M ≤ 9223372036854775807 := by omega
  clear hM
  go_enter Try.func4, Try.ntmps4
  go_wp2_with fail
  refine (great_any a len cap xs w HS.out).mono ?_
  rintro e w1 ⟨⟨g, rfl, hg⟩, rfl⟩
  have HG := Lib.hid hg
  clear hg
  cases g with
  | true =>
    go_wp2_with fail
    refine (awake_any _).mono ?_
    rintro e w2 ⟨rfl, b2⟩
    have B2 := Lib.hid b2
    clear b2
    go_wp2_with fail
    go_ret
    exact ⟨rfl, B2.out⟩
  | false =>
    have F := Lib.hid (HG.out rfl)
    clear HG
    go_wp2_with fail
    refine (new_any n M HM.out _).mono ?_
    have R0 := Lib.hid (Run.new w1 M)
    generalize (w1.alloc (.cells #[.slice none 0 0, .int .i64 ((M : Nat) : Int), .int .i64 0, .bool false] 46)) = w2 at R0 ⊢
    rintro e w' ⟨rfl, rfl⟩
    go_wp2_with fail
    go_loopw [6, 7] (fun f i wr => ∃ (k : Nat) (full : Bool) (acc : List UInt8) (room : Nat), f = .bool full ∧ i = .int .i64 k ∧ k ≤ len ∧ k ≤ 60 ∧ Run w1 wr w1.heap.size acc room 0 full ∧ acc.length ≤ tot (xs.take k) ∧ room + acc.length = M) (fun _ i _ => 60 - (intOf i).toNat)
    case atStart => exact ⟨0, false, [], M, rfl, rfl, Nat.zero_le _, Nat.zero_le _, R0.out, by simp, by simp⟩
    case round =>
      obtain ⟨k, full, acc, room, rfl, rfl, hk, hk6, hR, hal, hra⟩ := hrel
      have R := Lib.hid hR
      clear hR
      by_cases hlt : k < len ∧ k < 60
      · obtain ⟨h1, h2⟩ := hlt
        obtain ⟨x, hx⟩ : ∃ x, xs[k]? = some x := ⟨xs[k]'(by rw [HS.out.1]; exact h1), List.getElem?_eq_getElem _⟩
        rcases HS.out.2.2.2 with h0 | ⟨b, o, rfl, hbl, hcell⟩
        · omega
        · obtain ⟨_, hc1, _, _, hst⟩ := hcell k x hx
          have hc : wr.cell? ⟨b, o + k * 2 + 1, none⟩ = some (.slice x.a x.len x.cap) := (R.out.bel.cell (p := ⟨b, o + k * 2 + 1, none⟩) hbl).trans hc1
          have ht := tot_take hx
          have ht6 := tot_le xs (k + 1) (by omega)
          have hts := F.out.sum
          have P := Lib.hid (parts_in R.out hst)
          have hT1 : tot (xs.take k) + (flat x.ss).length ≤ 20000 := by omega
          have TT := Lib.hid ht
          clear hcell hc1 hx hst F ht ht6 hts
          have d1 : decide ((k : Int) < (len : Int)) = true := by simp; omega
          have d2 : decide ((k : Int) < 60) = true := by simp; omega
          go_wp2_with fail
          refine (string_any R.out.sk).mono ?_
          rintro e w3 ⟨rfl, rfl⟩
          go_wp2_with fail
          obtain ⟨ok, hok⟩ : ∃ ok : Bool, ok = (!full && decide ((flat x.ss).length ≤ room)) := ⟨_, rfl⟩
          refine (put_any R.out.sk P.out (by omega) (by unfold maxLen; omega) ok hok).mono ?_
          rintro e w4 ⟨rfl, s4, d4⟩
          have S4 := Lib.hid s4
          have D4 := Lib.hid d4
          clear s4 d4
          cases full with
          | true =>
            obtain rfl : ok = false := by simpa using hok
            have R4 : Hid (Run w1 w4 w1.heap.size acc room 0 true) := Lib.hid (R.out.did S4.out D4.out)
            have dm : decide (max n 0 < (acc.length : Int)) = false := by have := HM.out; simp; omega
            clear S4 D4 hok
            go_wp2_with fail
            refine (string_any R4.out.sk).mono ?_
            rintro e w5 ⟨rfl, rfl⟩
            go_wp2_with fail
            refine (len_any R4.out.sk).mono ?_
            rintro e w6 ⟨rfl, rfl⟩
            go_wp2_with fail
            refine (full_any R4.out.sk).mono ?_
            rintro e w7 ⟨rfl, rfl⟩
            go_wp2_with fail
            go_roundw
            case rel => exact ⟨k + 1, true, _, _, rfl, by go_num, by omega, by omega, R4.out, by rw [TT.out]; omega, by omega⟩
            case measure => simp [intOf]; omega
          | false =>
            cases ok with
            | true =>
              have hfl : (flat x.ss).length ≤ room := by simpa using hok
              have R4 : Hid (Run w1 w4 w1.heap.size (acc ++ flat x.ss) (room - (flat x.ss).length) 0 false) := Lib.hid (R.out.did S4.out D4.out)
              have hll : (acc ++ flat x.ss).length = acc.length + (flat x.ss).length := List.length_append
              generalize acc ++ flat x.ss = acc2 at R4 hll
              have dm : decide (max n 0 < (acc2.length : Int)) = false := by have := HM.out; simp; omega
              have HLL := Lib.hid hll
              clear hll
              clear S4 D4 hok
              go_wp2_with fail
              refine (len_any R4.out.sk).mono ?_
              rintro e w6 ⟨rfl, rfl⟩
              go_wp2_with fail
              refine (full_any R4.out.sk).mono ?_
              rintro e w7 ⟨rfl, rfl⟩
              go_wp2_with fail
              go_roundw
              case rel => exact ⟨k + 1, false, _, _, rfl, by go_num, by omega, by omega, R4.out, by rw [TT.out, HLL.out]; omega, by rw [HLL.out]; omega⟩
              case measure => simp [intOf]; omega
            | false =>
              have R4 : Hid (Run w1 w4 w1.heap.size acc room 0 true) := Lib.hid (R.out.did S4.out D4.out)
              have dm : decide (max n 0 < (acc.length : Int)) = false := by have := HM.out; simp; omega
              clear S4 D4 hok
              go_wp2_with fail
              refine (string_any R4.out.sk).mono ?_
              rintro e w5 ⟨rfl, rfl⟩
              go_wp2_with fail
              refine (len_any R4.out.sk).mono ?_
              rintro e w6 ⟨rfl, rfl⟩
              go_wp2_with fail
              refine (full_any R4.out.sk).mono ?_
              rintro e w7 ⟨rfl, rfl⟩
              go_wp2_with fail
              go_roundw
              case rel => exact ⟨k + 1, true, _, _, rfl, by go_num, by omega, by omega, R4.out, by rw [TT.out]; omega, by omega⟩
              case measure => simp [intOf]; omega
      · by_cases hkl : k < len
        · have d1 : decide ((k : Int) < (len : Int)) = true := by simp; omega
          have d2 : decide ((k : Int) < 60) = false := by simp; omega
          go_wp2_with fail
          refine (awake_any _).mono ?_
          rintro e w10 ⟨rfl, b10⟩
          have B10 := Lib.hid (R.out.bel.trans (b10.mono R.out.bel.size))
          clear b10
          go_wp2_with fail
          go_ret
          exact ⟨rfl, B10.out⟩
        · have d1 : decide ((k : Int) < (len : Int)) = false := by simp; omega
          go_wp2_with fail
          refine (awake_any _).mono ?_
          rintro e w10 ⟨rfl, b10⟩
          have B10 := Lib.hid (R.out.bel.trans (b10.mono R.out.bel.size))
          clear b10
          go_wp2_with fail
          go_ret
          exact ⟨rfl, B10.out⟩
end Go.Proofs.Ytinamdmefbmnnaa
