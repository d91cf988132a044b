/-
  Places, walked: the reference's At and text.At.
-/
import Derived.Test.YtjdmaindoohmkaaDoorCur
namespace Go.Proofs.YtjdmaindoohmkaaDoor
open Go.RowKit

theorem Only.set {b : Nat} {a w : World} (h : Only b a w) (o : Nat) (u : Value) : Only b a (w.setCell ⟨b, o, none⟩ u) := h.setCell rfl u
def posV (s : ByteArray) (k : Nat) : Value := .agg #[.int .i64 (k : Nat), .int .i64 (lineOf s k : Nat), .int .i64 (colOf s k : Nat)]
def posC (s : ByteArray) (k : Nat) : Array Value := #[.int .i64 (k : Nat), .int .i64 (lineOf s k : Nat), .int .i64 (colOf s k : Nat)]
structure PosAt (w : World) (b : Nat) (s : ByteArray) (k : Nat) : Prop where
  blk : w.heap[b]? = some (.cells #[.int .i64 (k : Nat), .int .i64 (lineOf s k : Nat), .int .i64 (colOf s k : Nat)] 26)
theorem PosAt.lt {w : World} {b : Nat} {s : ByteArray} {k : Nat} (h : PosAt w b s k) : b < w.heap.size := heap_lt h.blk
theorem PosAt.c0 {w : World} {b : Nat} {s : ByteArray} {k : Nat} (h : PosAt w b s k) : w.cell? ⟨b, 0, none⟩ = some (.int .i64 (k : Nat)) := by simp [World.cell?, h.blk]
theorem PosAt.c1 {w : World} {b : Nat} {s : ByteArray} {k : Nat} (h : PosAt w b s k) : w.cell? ⟨b, 1, none⟩ = some (.int .i64 (lineOf s k : Nat)) := by simp [World.cell?, h.blk]
theorem PosAt.c2 {w : World} {b : Nat} {s : ByteArray} {k : Nat} (h : PosAt w b s k) : w.cell? ⟨b, 2, none⟩ = some (.int .i64 (colOf s k : Nat)) := by simp [World.cell?, h.blk]
theorem PosAt.fz {w : World} {b : Nat} {s : ByteArray} {k : Nat} (h : PosAt w b s k) (o : Nat) : w.frozen? ⟨b, o, none⟩ = false := by simp [World.frozen?, h.blk]

set_option maxHeartbeats 800000 in
theorem refAt_any (s : ByteArray) (at_ : Int) (w : World) (hs : s.size ≤ maxLen) :
    Calls Tryd.prog 18 #[.string s, .int .i64 at_] w fun e w' => e = .returned (posV s (skipN at_ 0 s)) ∧ Below w.heap.size w w' := by
  unfold maxLen at hs
  go_enter Tryd.func18, Tryd.ntmps18
  go_wp2_with fail
  obtain ⟨w2, hw2⟩ : ∃ w2, w2 = ((w.alloc (.cells #[.int .i64 0, .int .i64 0, .int .i64 0] 26)).alloc (.cells #[.int .i64 0, .int .i64 0, .int .i64 0] 26)) := ⟨_, rfl⟩
  rw [← hw2]
  have P0 : PosAt w2 (w.heap.size + 1) s 0 := ⟨by
    rw [hw2, line_zero, col_zero]
    have := heap_new (w.alloc (.cells #[.int .i64 0, .int .i64 0, .int .i64 0] 26)) (.cells #[.int .i64 0, .int .i64 0, .int .i64 0] 26)
    rw [show (w.alloc (.cells #[.int .i64 0, .int .i64 0, .int .i64 0] 26)).heap.size = w.heap.size + 1 by simp] at this
    rw [this]; rfl⟩
  have R0 : w2.heap[w.heap.size]? = some (.cells #[.int .i64 0, .int .i64 0, .int .i64 0] 26) := by
    rw [hw2, Below.heap_alloc _ _ _ (by simp), heap_new]
  have B0 : Below w.heap.size w w2 := by
    rw [hw2]; exact ((Below.refl _ _).alloc (Nat.le_refl _) _).alloc (by simp) _
  have P0 := Lib.hid P0
  have R0 := Lib.hid R0
  have B0 := Lib.hid B0
  clear hw2
  go_loopw [6] (fun i wr => ∃ j : Nat, i = .int .i64 j ∧ j ≤ skipN at_ 0 s ∧ PosAt wr (w.heap.size + 1) s j ∧ Only (w.heap.size + 1) w2 wr) (fun i _ => s.size - (intOf i).toNat)
  case atStart => exact ⟨0, rfl, Nat.zero_le _, P0.out, Only.refl _ _⟩
  case round =>
    obtain ⟨j, rfl, hj, hp, ho⟩ := hrel
    have O := Lib.hid ho
    have PP := Lib.hid hp
    have h0 := hp.c0
    have h1 := hp.c1
    have h2 := hp.c2
    have f0 := hp.fz 0
    have f1 := hp.fz 1
    have f2 := hp.fz 2
    have hl := line_le s j
    have hco := col_le s j
    clear hp ho
    have hk : skipN at_ 0 s = min at_.toNat s.size := by unfold skipN; rw [Nat.sub_zero]
    have K := Lib.hid hk
    rw [hk] at hj
    clear hk
    by_cases hlt : j < s.size
    · by_cases hat : (j : Int) < at_
      · have hb := bt_eq s j hlt
        by_cases hn : (bt s j).toNat = 10
        · have E1 := Lib.hid (line_nl s j hlt hn)
          have E2 := Lib.hid (col_nl s j hlt hn)
          rw [← hb] at hn
          clear hb
          have hq : ((s[j].toNat : Int) == 10) = true := by simp; omega
          clear hn
          go_wp2_with fail
          go_roundw
          case rel =>
            refine ⟨j + 1, by go_num, by rw [K.out]; omega, ⟨?_⟩, O.out.trans ?_⟩
            · rw [heap_set (heap_set (heap_set (heap_set PP.out.blk _) _) _) _, E1.out, E2.out]
              simp
            · exact ((((Only.refl _ _).set _ _).set _ _).set _ _).set _ _
          case measure => simp [intOf]; omega
        · have E1 := Lib.hid (line_no s j hlt hn)
          have E2 := Lib.hid (col_no s j hlt hn)
          rw [← hb] at hn
          clear hb
          have hq : ((s[j].toNat : Int) == 10) = false := by simp; omega
          clear hn
          go_wp2_with fail
          go_roundw
          case rel =>
            refine ⟨j + 1, by go_num, by rw [K.out]; omega, ⟨?_⟩, O.out.trans ?_⟩
            · rw [heap_set (heap_set PP.out.blk _) _, E1.out, E2.out]
              simp
            · exact ((Only.refl _ _).set _ _).set _ _
          case measure => simp [intOf]; omega
      · have e : skipN at_ 0 s = j := by rw [K.out]; omega
        have hr := R0.out
        rw [← O.out.block w.heap.size (by omega) (heap_lt R0.out)] at hr
        have g0 : wr.cell? ⟨w.heap.size, 0, none⟩ = some (.int .i64 0) := by simp [World.cell?, hr]
        have g1 : wr.cell? ⟨w.heap.size, 1, none⟩ = some (.int .i64 0) := by simp [World.cell?, hr]
        have g2 : wr.cell? ⟨w.heap.size, 2, none⟩ = some (.int .i64 0) := by simp [World.cell?, hr]
        have q0 : ∀ o, wr.frozen? ⟨w.heap.size, o, none⟩ = false := fun o => by simp [World.frozen?, hr]
        have E := Lib.hid e
        have BB := Lib.hid (B0.out.trans (O.out.below (B := w.heap.size) (by omega) B0.out.size))
        clear e hr
        go_wp2_with fail
        exact bodyPost_ret (v := posV s j) (by simp [results, Tryd.results18, go_sem, posV, g0, g1, g2]) rfl ⟨by rw [E.out], ((BB.out.setCell (Nat.le_refl _) _).setCell (Nat.le_refl _) _).setCell (Nat.le_refl _) _⟩
    · have e : skipN at_ 0 s = j := by rw [K.out]; omega
      have hr := R0.out
      rw [← O.out.block w.heap.size (by omega) (heap_lt R0.out)] at hr
      have g0 : wr.cell? ⟨w.heap.size, 0, none⟩ = some (.int .i64 0) := by simp [World.cell?, hr]
      have g1 : wr.cell? ⟨w.heap.size, 1, none⟩ = some (.int .i64 0) := by simp [World.cell?, hr]
      have g2 : wr.cell? ⟨w.heap.size, 2, none⟩ = some (.int .i64 0) := by simp [World.cell?, hr]
      have q0 : ∀ o, wr.frozen? ⟨w.heap.size, o, none⟩ = false := fun o => by simp [World.frozen?, hr]
      have E := Lib.hid e
      have BB := Lib.hid (B0.out.trans (O.out.below (B := w.heap.size) (by omega) B0.out.size))
      clear e hr
      go_wp2_with fail
      exact bodyPost_ret (v := posV s j) (by simp [results, Tryd.results18, go_sem, posV, g0, g1, g2]) rfl ⟨by rw [E.out], ((BB.out.setCell (Nat.le_refl _) _).setCell (Nat.le_refl _) _).setCell (Nat.le_refl _) _⟩

theorem new2 (s : ByteArray) (w : World) :
    Calls Tryd.prog 31 #[.string s] w fun e w' => e = .returned (.pointer (some ⟨w.heap.size, 0, none⟩)) ∧ CurAt w' w.heap.size s 0 ∧ Below w.heap.size w w' :=
  (new_any s w).mono fun _ _ ⟨he, hw⟩ => ⟨he, by rw [hw]; exact CurAt.new w s, by rw [hw]; exact (Below.refl _ _).alloc (Nat.le_refl _) _⟩
end Go.Proofs.YtjdmaindoohmkaaDoor
