/-
  The scanner's small calls, walked.
-/
import Derived.Test.YtjdmaindoohmkaaDoorPNm
import Derived.Test.YtjdmaindoohmkaaDoorWhile
import Derived.Test.YtjdmaindoohmkaaDoorLst
import Derived.Lib.QuietBelow
namespace Go.Proofs.YtjdmaindoohmkaaDoor.P
open Go.RowKit Go.Sort

theorem _root_.Go.Proofs.YtjdmaindoohmkaaDoor.Only.alloc {b : Nat} {a w : World} (h : Only b a w) (o : Obj) : Only b a (w.alloc o) :=
  ⟨h.os, h.tape, h.output, by have := h.size; simp; omega, fun k hk hs => (((Below.refl w.heap.size w).alloc (Nat.le_refl _) o).block k (Nat.lt_of_lt_of_le hs h.size)).trans (h.block k hk hs)⟩
theorem _root_.Go.Proofs.YtjdmaindoohmkaaDoor.Only.new {b : Nat} {a w : World} (h : Only b a w) {q o : Nat} (hq : a.heap.size ≤ q) (u : Value) : Only b a (w.setCell ⟨q, o, none⟩ u) :=
  ⟨h.os, h.tape, h.output, by have := h.size; simp [World.setCell]; omega, fun k hk hs => (Below.heap_setCell _ _ _ _ (by simp; omega)).trans (h.block k hk hs)⟩
theorem _root_.Go.Proofs.YtjdmaindoohmkaaDoor.Only.belowR {b : Nat} {a w w' : World} (h : Only b a w) (k : Below w.heap.size w w') : Only b a w' := h.trans (Only.ofBelow k (Nat.le_refl _))
theorem _root_.Go.Proofs.YtjdmaindoohmkaaDoor.Only.from {b : Nat} {a a' w : World} (h : Only b a' w) (k : Below a.heap.size a a') : Only b a w := (Only.ofBelow k (Nat.le_refl _)).trans h
theorem _root_.Go.Proofs.YtjdmaindoohmkaaDoor.CurAt.other {w : World} {b : Nat} {s : ByteArray} {k : Nat} (h : CurAt w b s k) {q o : Nat} (hq : q ≠ b) (u : Value) : CurAt (w.setCell ⟨q, o, none⟩ u) b s k :=
  h.stays (Below.heap_setCell _ _ _ _ (by simp; omega))

/-- The block p is a scanner of s, whose cursor is the block c and stands at k. -/
structure ScAt (w : World) (p c : Nat) (s : ByteArray) (k : Nat) : Prop where
  cur : CurAt w c s k
  blk : w.heap[p]? = some (.cells #[.pointer (some ⟨c, 0, none⟩), .int .i64 0, .string s] 62)
  ne : p ≠ c
theorem ScAt.lt {w : World} {p c : Nat} {s : ByteArray} {k : Nat} (h : ScAt w p c s k) : p < w.heap.size := heap_lt h.blk
theorem ScAt.c0 {w : World} {p c : Nat} {s : ByteArray} {k : Nat} (h : ScAt w p c s k) : w.cell? ⟨p, 0, none⟩ = some (.pointer (some ⟨c, 0, none⟩)) := by simp [World.cell?, h.blk]
theorem ScAt.c1 {w : World} {p c : Nat} {s : ByteArray} {k : Nat} (h : ScAt w p c s k) : w.cell? ⟨p, 1, none⟩ = some (.int .i64 0) := by simp [World.cell?, h.blk]
theorem ScAt.c2 {w : World} {p c : Nat} {s : ByteArray} {k : Nat} (h : ScAt w p c s k) : w.cell? ⟨p, 2, none⟩ = some (.string s) := by simp [World.cell?, h.blk]
theorem ScAt.only {w w' : World} {p c : Nat} {s : ByteArray} {k j : Nat} (h : ScAt w p c s k) (ho : Only c w w') (hc : CurAt w' c s j) : ScAt w' p c s j :=
  ⟨hc, (ho.block p h.ne h.lt).trans h.blk, h.ne⟩
theorem ScAt.below {w w' : World} {p c : Nat} {s : ByteArray} {k : Nat} (h : ScAt w p c s k) (hb : Below w.heap.size w w') : ScAt w' p c s k :=
  ⟨h.cur.stays (hb.block c h.cur.lt), (hb.block p h.lt).trans h.blk, h.ne⟩
theorem ScAt.drewN {w : World} {p c : Nat} {s : ByteArray} {k : Nat} (h : ScAt w p c s k) (n : Nat) : ScAt (w.drewN n) p c s k := ⟨h.cur.drewN n, h.blk, h.ne⟩
theorem ScAt.alloc {w : World} {p c : Nat} {s : ByteArray} {k : Nat} (h : ScAt w p c s k) (o : Obj) : ScAt (w.alloc o) p c s k := h.below ((Below.refl _ _).alloc (Nat.le_refl _) _)

/- While by a set, plainly. -/
theorem wh_tw (set s : ByteArray) (p : UInt8 → Bool) (hp : ∀ c : UInt8, inTo set set.size c.toNat = p c) : ∀ n k, k + n = s.size → whEnd set s k = k + ((s.data.toList.drop k).takeWhile p).length := by
  intro n
  induction n with
  | zero => intro k h; rw [whEnd_end _ _ _ (by omega), drop_end s k (by omega)]; rfl
  | succ n ih =>
    intro k h
    rw [drop_bt s k (by omega), List.takeWhile_cons]
    cases hb : p (bt s k) with
    | true => rw [whEnd_in set s k (by omega) (by unfold holds; rw [hp, hb]), ih (k + 1) (by omega), if_pos rfl, List.length_cons]; omega
    | false => rw [whEnd_out set s k (by unfold holds; rw [hp, hb]), if_neg (by decide)]; rfl
theorem tw_take (p : UInt8 → Bool) : ∀ l : List UInt8, l.take (l.takeWhile p).length = l.takeWhile p
  | [] => rfl
  | c :: r => by
    rw [List.takeWhile_cons]
    split
    · rw [List.length_cons, List.take_succ_cons, tw_take p r]
    · rfl
theorem ext_take (s : ByteArray) (k n : Nat) : s.extract k (k + n) = ⟨((s.data.toList.drop k).take n).toArray⟩ := by
  apply ByteArray.ext
  apply Array.ext'
  simp
theorem while_tw (b k : Nat) (s set : ByteArray) (p : UInt8 → Bool) (w : World) (hc : CurAt w b s k) (hs : s.size ≤ maxLen) (ht : set.size ≤ maxLen) (hp : ∀ c : UInt8, inTo set set.size c.toNat = p c) :
    Calls Tryd.prog 32 #[.pointer (some ⟨b, 0, none⟩), .string set] w fun e w' => e = .returned (.string ⟨((s.data.toList.drop k).takeWhile p).toArray⟩) ∧ CurAt w' b s (k + ((s.data.toList.drop k).takeWhile p).length) ∧ Only b w w' := by
  have h := while_any b k s set w hc hs ht
  rw [wh_tw set s p hp (s.size - k) k (by have := hc.le; omega), ext_take, tw_take] at h
  exact h
theorem all8 {q : UInt8 → Bool} (h : ∀ n : Fin 256, q (UInt8.ofNat n.val) = true) (c : UInt8) : q c = true := by
  have := h ⟨c.toNat, UInt8.toNat_lt c⟩
  simpa using this
def setD : ByteArray := ⟨#[48, 49, 50, 51, 52, 53, 54, 55, 56, 57]⟩
def setB : ByteArray := ⟨#[9, 10, 13, 32]⟩
def setL : ByteArray := ⟨#[97, 98, 99, 100, 101, 102, 103, 104, 105, 106, 107, 108, 109, 110, 111, 112, 113, 114, 115, 116, 117, 118, 119, 120, 121, 122, 65, 66, 67, 68, 69, 70, 71, 72, 73, 74, 75, 76, 77, 78, 79, 80, 81, 82, 83, 84, 85, 86, 87, 88, 89, 90]⟩
def setN : ByteArray := ⟨#[97, 98, 99, 100, 101, 102, 103, 104, 105, 106, 107, 108, 109, 110, 111, 112, 113, 114, 115, 116, 117, 118, 119, 120, 121, 122, 65, 66, 67, 68, 69, 70, 71, 72, 73, 74, 75, 76, 77, 78, 79, 80, 81, 82, 83, 84, 85, 86, 87, 88, 89, 90, 48, 49, 50, 51, 52, 53, 54, 55, 56, 57, 95]⟩
theorem setD_is (c : UInt8) : inTo setD setD.size c.toNat = isDig c := by
  have := all8 (q := fun c => inTo setD setD.size c.toNat == isDig c) (by decide +kernel) c
  simpa using this
theorem setB_is (c : UInt8) : inTo setB setB.size c.toNat = isBl c := by
  have := all8 (q := fun c => inTo setB setB.size c.toNat == isBl c) (by decide +kernel) c
  simpa using this
theorem setN_is (c : UInt8) : inTo setN setN.size c.toNat = isNam c := by
  have := all8 (q := fun c => inTo setN setN.size c.toNat == isNam c) (by decide +kernel) c
  simpa using this

/-- rest: what is left of the text. -/
def restOf (s : ByteArray) (k : Nat) : ByteArray := ⟨(s.data.toList.drop k).toArray⟩
theorem restOf_l (s : ByteArray) (k : Nat) : (restOf s k).data.toList = s.data.toList.drop k := rfl
theorem ext_rest (s : ByteArray) (k : Nat) : s.extract k s.size = restOf s k := by
  apply ByteArray.ext
  apply Array.ext'
  rw [restOf_l]
  simp
  rw [List.take_of_length_le (by simp)]
theorem restOf_size (s : ByteArray) (k : Nat) : (restOf s k).size = s.size - k := by
  have := len_size (restOf s k)
  rw [restOf_l, List.length_drop, len_size] at this
  exact this.symm
theorem field_at (a b c : Int) (w : World) : (Instr.field 26 (.agg #[.int .i64 a, .int .i64 b, .int .i64 c]) 0).run Tryd.prog w = .ok (.int .i64 a) w := by kernel_rfl
theorem field_line (a b c : Int) (w : World) : (Instr.field 26 (.agg #[.int .i64 a, .int .i64 b, .int .i64 c]) 1).run Tryd.prog w = .ok (.int .i64 b) w := by kernel_rfl
set_option maxHeartbeats 400000 in
theorem rest_any (p c k : Nat) (s : ByteArray) (w : World) (h : ScAt w p c s k) :
    Calls Tryd.prog 55 #[.pointer (some ⟨p, 0, none⟩)] w fun e w' => e = .returned (.string (restOf s k)) ∧ Below w.heap.size w w' := by
  have h0 := h.c0
  have h2 := h.c2
  have C := Lib.hid h.cur
  have hle := h.cur.le
  have hw1 : (0 : Int) ≤ (k : Int) := by omega
  have hw2 : (k : Int) ≤ (s.size : Int) := by omega
  rw [← ext_rest]
  clear h
  go_enter Tryd.func55, Tryd.ntmps55
  go_wp2_with fail
  have cP : ∀ d os, Calls Tryd.prog 33 #[.pointer (some ⟨c, 0, none⟩)] (grow (redrawn w d) os) fun e w'' => e = .returned (.agg #[.int .i64 (k : Nat), .int .i64 (lineOf s k : Nat), .int .i64 (colOf s k : Nat)]) ∧ ∃ p : Regrown, w'' = grow (redrawn w p.d) p.os := fun d os =>
    Calls.regrown_of (pos_any c k s _ (C.out.stays ((below_regrown w d os).block c C.out.lt)))
  have CP := Lib.hid cP
  have g0 := cell_regrown h0
  have g2 := cell_regrown h2
  have gf := field_at (k : Int) (lineOf s k : Int) (colOf s k : Int)
  clear cP C h0 h2
  refine wp_region_quiet_below (by kernel_rfl) (by kernel_rfl) ?_
  repeat (first | go_big_quiet_step ((with_reducible exact CP.out _ _)) | quiet_step ((with_reducible exact CP.out _ _)))
  refine wpQuiet_nil ?_
  intro _ hw'
  obtain ⟨⟨dq, osq⟩, hw''⟩ := hw'
  subst hw''
  go_wp2_with fail
  go_ret
  exact ⟨rfl, below_regrown w dq osq⟩
end Go.Proofs.YtjdmaindoohmkaaDoor.P
