/-
  awake, the document's example, walked.
-/
import Derived.Test.YtinamdmefbmnnaaLn
namespace Go.Proofs.Ytinamdmefbmnnaa
open Go.RowKit

/-- From w0 on nothing but the sink at q, and new blocks, has turned. -/
structure Run (w0 w : World) (q : Nat) (acc : List UInt8) (room deep : Nat) (full : Bool) : Prop where
  sk : SinkAt w q acc room deep full
  bel : Below w0.heap.size w0 w
  up : ∀ k, Mine w q k → w0.heap.size ≤ k
theorem Run.new (w : World) (room : Nat) : Run w (w.alloc (.cells #[.slice none 0 0, .int .i64 (room : Nat), .int .i64 0, .bool false] 46)) w.heap.size [] room 0 false :=
  ⟨SinkAt.new w room, (Below.refl _ _).alloc (Nat.le_refl _) _, fun k hk => by rw [mine_new] at hk; omega⟩
theorem Run.did {w0 w w' : World} {q : Nat} {acc acc' : List UInt8} {room deep room' deep' : Nat} {full full' : Bool} (h : Run w0 w q acc room deep full) (s : SinkAt w' q acc' room' deep' full') (d : Did q w w') : Run w0 w' q acc' room' deep' full' :=
  ⟨s, h.bel.trans (d.toBelow h.up h.bel.size), d.above h.up h.bel.size⟩
theorem Run.below {w0 w w' : World} {q : Nat} {acc : List UInt8} {room deep : Nat} {full : Bool} (h : Run w0 w q acc room deep full) (b : Below w.heap.size w w') : Run w0 w' q acc room deep full :=
  h.did (h.sk.below b) (Did.below h.sk.lt b)
theorem Run.alloc {w0 w : World} {q : Nat} {acc : List UInt8} {room deep : Nat} {full : Bool} (h : Run w0 w q acc room deep full) (o : Obj) : Run w0 (w.alloc o) q acc room deep full :=
  h.below ((Below.refl _ _).alloc (Nat.le_refl _) _)
/-- A list of texts that is laid anew. -/
theorem parts_lit {w : World} {q : Nat} {acc : List UInt8} {room deep : Nat} {full : Bool} (h : SinkAt w q acc room deep full) (ss : List ByteArray) (hl : ss.length ≤ maxLen) (hs : ∀ x ∈ ss, x.size ≤ maxLen) :
    Parts (w.alloc (.cells (ss.map Value.string).toArray 9)) q (some ⟨w.heap.size, 0, none⟩) ss.length ss.length ss :=
  parts_new h ((Below.refl _ _).alloc (Nat.le_refl _) _) (isStrs_row (heap_new _ _) hl hs)
theorem parts_none (w : World) (q : Nat) : Parts w q none 0 0 [] := ⟨⟨rfl, Nat.le_refl _, by decide, by simp, .inl rfl⟩, fun h => absurd rfl h⟩

set_option maxHeartbeats 800000 in
theorem awake_any (w : World) : Calls Try.prog 9 #[] w fun e w' => e = .returned (.bool true) ∧ Below w.heap.size w w' := by
  go_enter Try.func9, Try.ntmps9
  go_wp2_with fail
  refine (new_any 9 9 (by decide) _).mono ?_
  have R0 := Lib.hid (Run.new w 9)
  generalize (w.alloc (.cells #[.slice none 0 0, .int .i64 ((9 : Nat) : Int), .int .i64 0, .bool false] 46)) = w1 at R0 ⊢
  rintro e w' ⟨rfl, rfl⟩
  go_wp2_with fail
  refine (in_any R0.out.sk (by decide)).mono ?_
  rintro e w2 ⟨rfl, s2, d2⟩
  have R2 := Lib.hid (R0.out.did s2 d2)
  clear s2 d2
  go_wp2_with fail
  have P3 := Lib.hid (parts_lit R2.out.sk [⟨#[97]⟩, ⟨#[98]⟩] (by decide) (by simp; decide)).strs
  have R3 := Lib.hid (R2.out.alloc (.cells ([⟨#[97]⟩, ⟨#[98]⟩].map Value.string).toArray 9))
  refine (line_any R3.out.sk P3.out (by decide) (by decide) (by decide) (by decide) true (by decide)).mono ?_
  rintro e w4 ⟨rfl, s4, d4⟩
  have R4 : Hid (Run w w4 w.heap.size [32, 32, 97, 98, 10] 4 1 false) := Lib.hid (R3.out.did s4 d4)
  clear s4 d4
  go_wp2_with fail
  have P5 := Lib.hid (parts_lit R4.out.sk [⟨#[49, 50, 51, 52, 53]⟩] (by decide) (by simp; decide))
  have R5 := Lib.hid (R4.out.alloc (.cells ([⟨#[49, 50, 51, 52, 53]⟩].map Value.string).toArray 9))
  refine (put_any R5.out.sk P5.out (by decide) (by decide) false (by decide)).mono ?_
  rintro e w6 ⟨rfl, s6, d6⟩
  have R6 : Hid (Run w w6 w.heap.size [32, 32, 97, 98, 10] 4 1 true) := Lib.hid (R5.out.did s6 d6)
  clear s6 d6
  go_wp2_with fail
  refine (put_full R6.out.sk _ _ _).mono ?_
  rintro e w7 ⟨rfl, rfl⟩
  go_wp2_with fail
  refine (string_any R6.out.sk).mono ?_
  rintro e w8 ⟨rfl, rfl⟩
  go_wp2_with fail
  refine (full_any R6.out.sk).mono ?_
  rintro e w9 ⟨rfl, rfl⟩
  go_wp2_with fail
  go_ret
  exact ⟨rfl, R6.out.bel⟩
end Go.Proofs.Ytinamdmefbmnnaa
