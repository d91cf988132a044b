/-
  The document's printer of expressions, walked: a call.
-/
import Derived.Test.YtpcldpnaljheoaaGreatDoorQp8
import Derived.Test.YtpcldpnaljheoaaGreatDoorPc8
namespace Go.Proofs.YtpcldpnaljheoaaGreatDoor
open Go.RowKit Go.Deep Go.Sort

def calI (nm : ByteArray) (t : List D → List UInt8) (l : List (List D)) (k : Nat) : List UInt8 := nm.data.toList ++ 40 :: jnL t true (l.take k)
theorem calI_succ {nm : ByteArray} {t : List D → List UInt8} {l : List (List D)} {k : Nat} {x : List D} (hx : l[k]? = some x) : calI nm t l (k + 1) = if k = 0 then calI nm t l k ++ t x else (calI nm t l k ++ [44, 32]) ++ t x := by
  unfold calI
  rw [jnL_take t l true k x hx]
  by_cases h : k = 0
  · rw [if_pos h, if_pos h, if_pos rfl]; simp
  · rw [if_neg h, if_neg h]; simp
theorem calI_le (nm : ByteArray) (t : List D → List UInt8) (l : List (List D)) (k : Nat) : (calI nm t l k).length + 1 ≤ (calP nm t l).length := by
  have := jnL_le t l true k
  unfold calI calP
  simp
  omega
theorem calI_all (nm : ByteArray) (t : List D → List UInt8) (l : List (List D)) : calP nm t l = calI nm t l l.length ++ [41] := by
  unfold calI calP
  rw [List.take_length]
  simp
set_option maxRecDepth 100000 in
set_option maxHeartbeats 4000000 in
theorem rp_call {w0 : World} {t : List D → List UInt8} {l : List (List D)} (hf : ∀ y ∈ l, RfFn w0 t y) (hs : ∀ y ∈ l, ShE y) {n : Int} {nm fd : ByteArray} {a : Option Addr} {len c : Nat} (hA : At w0 (.slice a len c) (.row l)) (w : World) (hW : Below w0.heap.size w0 w) (hl : (calP nm t l).length ≤ 100000000) :
    Calls Tryz.prog 15 (rpA 7 n nm fd a len c) w (RpPost (calP nm t l) w) := by
  have hle := hA.len_le
  have hlen := hA.len_eq.1
  have HF := Lib.hid hf
  have HS := Lib.hid hs
  have HA := Lib.hid hA
  have HW := Lib.hid hW
  have R0 := Lib.hid ((Below.refl w.heap.size w).alloc (Nat.le_refl _) (.cells #[.int .i64 7, .int .i64 n, .string nm, .string fd, .slice a len c] 25))
  have K0 := Lib.hid (heap_new w (.cells #[.int .i64 7, .int .i64 n, .string nm, .string fd, .slice a len c] 25))
  have HLE := Lib.hid (fun k => Nat.le_trans (calI_le nm t l k) hl)
  have HALL := Lib.hid (calI_all nm t l)
  have a0 : ∀ w, (Op.stringOp .add nm ⟨#[40]⟩).run Tryz.prog w = .ok (.string ⟨(calI nm t l 0).toArray⟩) w := fun w => by
    have h0 : calI nm t l 0 = nm.data.toList ++ [40] := by unfold calI; simp [jnL]
    have h1 := HLE.out 0
    rw [h0] at h1 ⊢
    have := add_l nm.data.toList [40] (by simp at h1 ⊢; omega) w
    rwa [ba_bal] at this
  unfold RpPost
  clear hf hs hA hW hl
  generalize hS0 : (ByteArray.mk (calI nm t l 0).toArray) = S0 at a0
  have HS0 := Lib.hid hS0
  clear hS0
  go_enter Tryz.func15, Tryz.ntmps15
  go_wp2_with fail
  generalize w.alloc _ = W0 at R0 K0 ⊢
  go_loopw [5, 6] (fun sv iv wr => ∃ k : Nat, iv = .int .i64 (k : Nat) ∧ sv = .string ⟨(calI nm t l k).toArray⟩ ∧ k ≤ len ∧ Hid (wr.heap[w.heap.size]? = some (.cells #[.int .i64 7, .int .i64 n, .string nm, .string fd, .slice a len c] 25)) ∧ Below w.heap.size w wr) (fun _ iv _ => len - (intOf iv).toNat)
  case atStart => exact ⟨0, rfl, by rw [HS0.out], Nat.zero_le _, K0, R0.out⟩
  case round =>
    obtain ⟨k, rfl, rfl, hk, KK, hB⟩ := hrel
    have HB := Lib.hid hB
    have cc := box_cells KK.out
    clear hB HS0 a0
    by_cases hlt : k < len
    · obtain ⟨y, hy⟩ : ∃ y, l[k]? = some y := ⟨_, List.getElem?_eq_getElem (by omega)⟩
      have hym := List.mem_of_getElem? hy
      obtain ⟨b, o, op1, n1, nm1, fd1, la1, ln1, lc1, rfl, hb, hv, c0, c1, c2, c3, c4⟩ := HA.out.elemE hy (HS.out y hym)
      have B0 := HW.out.trans (HB.out.mono HW.out.size)
      have e0 := (B0.cell (p := ⟨b, o + k * 5, none⟩) hb).trans c0
      have e1 := (B0.cell (p := ⟨b, o + k * 5 + 1, none⟩) hb).trans c1
      have e2 := (B0.cell (p := ⟨b, o + k * 5 + 2, none⟩) hb).trans c2
      have e3 := (B0.cell (p := ⟨b, o + k * 5 + 3, none⟩) hb).trans c3
      have e4 := (B0.cell (p := ⟨b, o + k * 5 + 4, none⟩) hb).trans c4
      have hbw : b < wr.heap.size := Nat.lt_of_lt_of_le hb B0.size
      have hsz := HLE.out (k + 1)
      have hsu := calI_succ (nm := nm) (t := t) hy
      have HSU := Lib.hid hsu
      have i0 : (0 : Int) ≤ (k : Int) := by omega
      have i1 : (k : Int) < (len : Int) := by omega
      have d1 : decide ((k : Int) < (len : Int)) = true := by simp; omega
      by_cases hk0 : k = 0
      · subst hk0
        rw [if_pos rfl] at hsu
        have hl1 : (calI nm t l 0).length + (t y).length ≤ 100000000 := by rw [hsu] at hsz; simp at hsz; omega
        have HC := Lib.hid (HF.out y hym _ hv wr B0 (by omega))
        have a2 : ∀ w, (Op.stringOp .add ⟨(calI nm t l 0).toArray⟩ ⟨(t y).toArray⟩).run Tryz.prog w = .ok (.string ⟨(calI nm t l (0 + 1)).toArray⟩) w := fun w => by
          rw [hsu]
          exact add_l _ _ (by omega) w
        clear hv c0 c1 c2 c3 c4 B0 hsz hsu hl1
        generalize (ByteArray.mk (calI nm t l 0).toArray) = S1 at a2 ⊢
        generalize hS2 : (ByteArray.mk (calI nm t l (0 + 1)).toArray) = S2 at a2
        generalize (ByteArray.mk (t y).toArray) = ty at HC a2
        have HS2 := Lib.hid hS2
        clear hS2
        rw [show o + 0 * 5 = o by omega] at e0 e1 e2 e3 e4
        go_wp2_with fail
        refine HC.out.mono ?_
        rintro e w3 ⟨rfl, b3⟩
        have HB3 := Lib.hid (HB.out.trans (b3.mono HB.out.size))
        have K3 := Lib.hid ((b3.block _ (heap_lt KK.out)).trans KK.out)
        clear b3 cc e0 e1 e2 e3 e4
        go_wp2_with fail
        go_roundw
        case rel => exact ⟨1, by go_num, by rw [HS2.out], by omega, K3, HB3.out⟩
        case measure => simp [intOf]; omega
      · rw [if_neg hk0] at hsu
        have d2 : decide ((k : Int) > 0) = true := by simp; omega
        have d3 : decide ((0 : Int) < (k : Int)) = true := by simp; omega
        have d4 : decide (0 < k) = true := by simp; omega
        have hl1 : (calI nm t l k).length + 2 + (t y).length ≤ 100000000 := by rw [hsu] at hsz; simp at hsz; omega
        have HC := Lib.hid (HF.out y hym _ hv wr B0 (by omega))
        have a1 : ∀ w, (Op.stringOp .add ⟨(calI nm t l k).toArray⟩ ⟨#[44, 32]⟩).run Tryz.prog w = .ok (.string ⟨(calI nm t l k ++ [44, 32]).toArray⟩) w := fun w => add_l _ [44, 32] (by simp; omega) w
        have a2 : ∀ w, (Op.stringOp .add ⟨(calI nm t l k ++ [44, 32]).toArray⟩ ⟨(t y).toArray⟩).run Tryz.prog w = .ok (.string ⟨(calI nm t l (k + 1)).toArray⟩) w := fun w => by
          rw [hsu]
          exact add_l _ _ (by simp; omega) w
        clear hv c0 c1 c2 c3 c4 B0 hsz hsu hl1
        generalize (ByteArray.mk (calI nm t l k).toArray) = S1 at a1 ⊢
        generalize (ByteArray.mk (calI nm t l k ++ [44, 32]).toArray) = S3 at a1 a2
        generalize hS2 : (ByteArray.mk (calI nm t l (k + 1)).toArray) = S2 at a2
        generalize (ByteArray.mk (t y).toArray) = ty at HC a2
        have HS2 := Lib.hid hS2
        clear hS2
        go_wp2_with fail
        refine HC.out.mono ?_
        rintro e w3 ⟨rfl, b3⟩
        have HB3 := Lib.hid (HB.out.trans (b3.mono HB.out.size))
        have K3 := Lib.hid ((b3.block _ (heap_lt KK.out)).trans KK.out)
        clear b3 cc e0 e1 e2 e3 e4
        go_wp2_with fail
        go_roundw
        case rel => exact ⟨k + 1, by go_num, by rw [HS2.out], by omega, K3, HB3.out⟩
        case measure => simp [intOf]; omega
    · obtain rfl : k = len := by omega
      have d1 : decide ((k : Int) < (k : Int)) = false := by simp
      have h1 := HLE.out l.length
      have a2 : ∀ w, (Op.stringOp .add ⟨(calI nm t l k).toArray⟩ ⟨#[41]⟩).run Tryz.prog w = .ok (.string ⟨(calP nm t l).toArray⟩) w := fun w => by
        rw [HALL.out, ← hlen]
        exact add_l _ [41] (by rw [hlen] at h1 ⊢; simp; omega) w
      generalize (ByteArray.mk (calI nm t l k).toArray) = S1 at a2 ⊢
      generalize hS2 : (ByteArray.mk (calP nm t l).toArray) = S2 at a2
      have HS2 := Lib.hid hS2
      clear hS2
      go_wp2_with fail
      go_ret
      exact ⟨by rw [HS2.out]; rfl, HB.out⟩
end Go.Proofs.YtpcldpnaljheoaaGreatDoor
