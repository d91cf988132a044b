/-
  While, walked.
-/
import Derived.Test.YtjdmaindoohmkaaDoorMem
namespace Go.Proofs.YtjdmaindoohmkaaDoor
open Go.RowKit

/-- Does the set hold the byte at k? -/
def holds (set s : ByteArray) (k : Nat) : Bool := inTo set set.size (bt s k).toNat
def runTo (set s : ByteArray) : Nat → Nat → Nat
  | 0, k => k
  | n + 1, k => if holds set s k = true then runTo set s n (k + 1) else k
/-- The place at which While stops, from k on. -/
def whEnd (set s : ByteArray) (k : Nat) : Nat := runTo set s (s.size - k) k
theorem whEnd_in (set s : ByteArray) (k : Nat) (h : k < s.size) (hh : holds set s k = true) : whEnd set s k = whEnd set s (k + 1) := by
  unfold whEnd
  rw [show s.size - k = (s.size - (k + 1)) + 1 by omega, runTo, if_pos hh]
theorem whEnd_out (set s : ByteArray) (k : Nat) (hh : holds set s k = false) : whEnd set s k = k := by
  unfold whEnd
  cases s.size - k with
  | zero => rfl
  | succ n => rw [runTo, if_neg (by rw [hh]; decide)]
theorem whEnd_end (set s : ByteArray) (k : Nat) (h : s.size ≤ k) : whEnd set s k = k := by
  unfold whEnd
  rw [show s.size - k = 0 by omega]
  rfl
theorem whEnd_bd (set s : ByteArray) (k : Nat) (h : k ≤ s.size) : k ≤ whEnd set s k ∧ whEnd set s k ≤ s.size := by
  have g : ∀ n k, k + n = s.size → k ≤ runTo set s n k ∧ runTo set s n k ≤ s.size := by
    intro n
    induction n with
    | zero => intro k h; simp only [runTo]; omega
    | succ n ih =>
      intro k h
      rw [runTo]
      split
      · have := ih (k + 1) (by omega); omega
      · omega
  exact g _ k (by omega)

/-- How much a cursor has ahead. -/
def leftOf (s : ByteArray) (b : Nat) (w : World) : Nat := s.size - (match w.cell? ⟨b, 1, none⟩ with | some v => (intOf v).toNat | none => 0)
theorem leftOf_at {w : World} {b : Nat} {s : ByteArray} {k : Nat} (h : CurAt w b s k) : leftOf s b w = s.size - k := by
  unfold leftOf
  rw [h.c1]
  simp [intOf]
theorem only_cell {b : Nat} {w w' : World} (h : Only b w w') {p : Addr} (hp : p.block ≠ b) {v : Value} (hv : w.cell? p = some v) : w'.cell? p = some v := by
  have hlt : p.block < w.heap.size := block_lt_of_cell hv
  rw [World.cell?_of_block (w := w) (h.block p.block hp hlt)]; exact hv

set_option maxHeartbeats 1000000 in
theorem while_any (b k : Nat) (s set : ByteArray) (w : World) (hc : CurAt w b s k) (hs : s.size ≤ maxLen) (ht : set.size ≤ maxLen) :
    Calls Tryd.prog 32 #[.pointer (some ⟨b, 0, none⟩), .string set] w fun e w' => e = .returned (.string (s.extract k (whEnd set s k))) ∧ CurAt w' b s (whEnd set s k) ∧ Only b w w' := by
  have C := Lib.hid hc
  have hlt0 := hc.lt
  clear hc
  have hs' := hs
  unfold maxLen at hs'
  have hz := zero59
  go_enter Tryd.func32, Tryd.ntmps32
  go_wp2_with fail
  refine (members_any set _ ht).mono ?_
  rintro e w1 ⟨rfl, b1⟩
  have B1 := Lib.hid b1
  have C1 := Lib.hid (C.out.stays (b1.block _ hlt0))
  have hz1 := b1.size
  clear b1 C
  have there1 : (w1.alloc (.cells (memArr fun _ => false) 80)).there w1.heap.size 0 (memArr (inTo set set.size)).size := by
    rw [memArr_size]
    exact MemAt.there (f := fun _ => false) ⟨heap_new _ _⟩
  have TH := Lib.hid there1
  have FW : ∀ W, (w1.alloc (.cells (memArr fun _ => false) 80)).setCells w1.heap.size 0 (memL (inTo set set.size)) = W →
      CurAt W b s k ∧ Below w1.heap.size w1 W ∧ W.rangeAt w1.heap.size 0 (memL (inTo set set.size)) := by
    rintro W rfl
    have hb : Below w1.heap.size w1 ((w1.alloc (.cells (memArr fun _ => false) 80)).setCells w1.heap.size 0 (memL (inTo set set.size))) :=
      below_setCells _ (Nat.le_refl _) _ _ _ ((Below.refl _ _).alloc (Nat.le_refl _) _)
    refine ⟨C1.out.stays (hb.block _ C1.out.lt), hb, World.rangeAt_setCells_same _ _ _ _ ?_⟩
    rw [memL_len, ← memArr_size (inTo set set.size)]
    exact there1
  have FW := Lib.hid FW
  clear there1
  have tok1 : True := trivial
  go_wp2_with (have _t := tok1; (with_reducible refine wpList_store_mid (op := ⟨none, .store 80 (.tmp 5) (.tmp 12), _, _, _, _⟩) ?h1 80 (.tmp 5) (.tmp 12) ?h2 w1.heap.size 0 (memArr (inTo set set.size)) ?h3 ?h4 ?h5 ?h6 ?h7 ?h8); (case h1 => exact Eq.refl _); (case h2 => exact Eq.refl _); (case h3 => exact Eq.refl _); (case h4 => exact Eq.refl _); (case h5 => exact TH.out); (case h6 => rw [memArr_size]; exact info59); (case h7 => exact mem_one _); rw [memArr_list]; generalize hW : World.setCells _ _ _ _ = w2; obtain ⟨c2, b2, r2⟩ := FW.out _ hW; have h1 := c2.c1; have C2 := Lib.hid c2; have B2 := Lib.hid b2; have R2 := Lib.hid r2; clear hW c2 b2 r2 FW tok1)
  have hmb : w1.heap.size ≠ b := by omega
  have BW := Lib.hid (Only.ofBelow (b := b) (B1.out.trans (B2.out.mono hz1)) (Nat.le_refl _))
  clear TH h1 B1 B2 C1 hz
  go_loopw [7, 8] (fun _ _ wr => ∃ j : Nat, k ≤ j ∧ CurAt wr b s j ∧ Only b w2 wr ∧ whEnd set s k = whEnd set s j) (fun _ _ wr => leftOf s b wr)
  case atStart => exact ⟨k, Nat.le_refl _, C2.out, Only.refl _ _, rfl⟩
  case round =>
    obtain ⟨j, hj, hcj, ho, he⟩ := hrel
    have hle := hcj.le
    have c0 := hcj.c0
    have c1 := hcj.c1
    have CJ := Lib.hid hcj
    have O := Lib.hid ho
    have E := Lib.hid he
    clear hcj ho he
    by_cases hin : j < s.size
    · have hbt := UInt8.toNat_lt (bt s j)
      have hm0 := R2.out (bt s j).toNat _ (memL_at _ _ (by omega))
      rw [Nat.zero_add] at hm0
      have hm := only_cell O.out (p := ⟨w1.heap.size, (bt s j).toNat, none⟩) hmb hm0
      clear hm0
      have hbi : ((bt s j).toNat : Int) < 256 := by omega
      cases hh : holds set s j with
      | true =>
        have E1 := Lib.hid (E.out.trans (whEnd_in set s j hin hh))
        unfold holds at hh
        rw [hh] at hm
        clear hh
        go_wp2_with fail
        refine (peek_in b j 0 s _ c0 c1 hs (by omega) (by omega) (by omega)).mono ?_
        rw [show j + (0 : Int).toNat = j from rfl]
        rintro e w' ⟨rfl, n, rfl⟩
        go_wp2_with fail
        refine (next_in b j s _ (CJ.out.drewN n) hs hin).mono ?_
        rintro e w3 ⟨rfl, c3, o3⟩
        have C3 := Lib.hid c3
        have O3 := Lib.hid o3
        clear c3 o3
        go_wp2_with fail
        go_roundw
        case rel => exact ⟨j + 1, by omega, C3.out, O.out.trans (((Only.refl b wr).drewN n).trans O3.out), E1.out⟩
        case measure => rw [leftOf_at C3.out, leftOf_at CJ.out]; omega
      | false =>
        have E1 := Lib.hid (E.out.trans (whEnd_out set s j hh))
        unfold holds at hh
        rw [hh] at hm
        clear hh
        have hw1 : (k : Int) ≤ (j : Int) := by omega
        have hw2 : (j : Int) ≤ (s.size : Int) := by omega
        go_wp2_with fail
        refine (peek_in b j 0 s _ c0 c1 hs (by omega) (by omega) (by omega)).mono ?_
        rw [show j + (0 : Int).toNat = j from rfl]
        rintro e w' ⟨rfl, n, rfl⟩
        go_wp2_with fail
        go_quiet (fail)
        go_wp2_with fail
        go_ret
        rw [E1.out]
        exact ⟨rfl, (CJ.out.drewN n).drewN _, (((BW.out.trans O.out).drewN n)).drewN _⟩
    · have E1 := Lib.hid (E.out.trans (whEnd_end set s j (by omega)))
      have hw1 : (k : Int) ≤ (j : Int) := by omega
      have hw2 : (j : Int) ≤ (s.size : Int) := by omega
      go_wp2_with fail
      refine (peek_out b j 0 s _ c0 c1 hs (by omega) (by omega) (by omega)).mono ?_
      rintro e w' ⟨rfl, n, rfl⟩
      go_wp2_with fail
      go_quiet (fail)
      go_wp2_with fail
      go_ret
      rw [E1.out]
      exact ⟨rfl, (CJ.out.drewN n).drewN _, (((BW.out.trans O.out).drewN n)).drewN _⟩
end Go.Proofs.YtjdmaindoohmkaaDoor
