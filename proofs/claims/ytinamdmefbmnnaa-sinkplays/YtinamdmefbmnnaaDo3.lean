/-
  do, walked: In and Out; all acts in one.
-/
import Derived.Test.YtinamdmefbmnnaaDo2
namespace Go.Proofs.Ytinamdmefbmnnaa
open Go.RowKit

/-- The reference's indentation is set. -/
theorem pl_set {c : Con} {d d0 : Nat} {acc : List UInt8} {room : Nat} {full fx : Bool} {s : ByteArray} {w : World} (h1 : Run c.w0 w c.q acc room d full) (h2 : RefAt w c.p c.most d0 fx s) (h3 : ¬ Mine w c.q c.p) (h4 : c.w0.heap.size ≤ c.p) :
    Pl c d acc room full fx s (w.setCell ⟨c.p, 1, none⟩ (.int .i64 (d : Nat))) := by
  have hk : ∀ k, k ≠ c.p → (w.setCell ⟨c.p, 1, none⟩ (.int .i64 (d : Nat))).heap[k]? = w.heap[k]? := fun k hk => Below.heap_setCell _ _ _ _ hk
  have hm : ∀ k, Mine (w.setCell ⟨c.p, 1, none⟩ (.int .i64 (d : Nat))) c.q k ↔ Mine w c.q k := fun k => Mine.congr (hk c.q (fun e => h3 (.inl e.symm)))
  exact ⟨⟨h1.sk.kept fun k m => hk k (fun e => h3 (e ▸ m)), h1.bel.setCell (p := ⟨c.p, 1, none⟩) h4 _, fun k m => h1.up k ((hm k).1 m)⟩, h2.setDeep d, fun m => h3 ((hm _).1 m), h4⟩
set_option maxHeartbeats 1600000 in
theorem do_in (c : Con) {deep : Nat} {acc : List UInt8} {room : Nat} {full : Bool} {s : ByteArray} {w : World} (M : Nat) (h : Pl c deep acc room full full s w) (hs : s.data.toList = acc) (hra : room + acc.length = M)
    (hk0 : -9223372036854775808 ≤ c.kind) (hk1 : c.kind ≤ 9223372036854775807) (hd : deep ≤ 100) (hr : c.kind % 7 = 2) :
    Calls Try.prog 11 #[.pointer (some ⟨c.q, 0, none⟩), .pointer (some ⟨c.p, 0, none⟩), .agg #[.int .i64 c.kind, .slice c.xa c.xl c.xc]] w fun e w' => e = .returned (.bool true) ∧ Nx c M deep acc.length w' := by
  have ST0 := Lib.hid (st_box h).pl
  have HR := Lib.hid hr
  have HRA := Lib.hid hra
  have HSS := Lib.hid hs
  clear h hr hra hs
  go_enter Try.func11, Try.ntmps11
  go_wp2_with fail
  refine (pick_any c.kind 7 _ hk0 hk1 (by decide) (by decide)).mono ?_
  rw [HR.out]
  rintro e w1 ⟨rfl, rfl⟩
  clear hk0 hk1
  generalize hW1 : (w.alloc (.cells #[.int .i64 c.kind, .slice c.xa c.xl c.xc] 33)) = w1 at ST0 ⊢
  clear hW1
  go_wp2_with fail
  refine (in_any ST0.out.run.sk (by omega)).mono ?_
  rintro e w2 ⟨rfl, s2, d2⟩
  have P2 := Lib.hid (ST0.out.did s2 d2)
  clear s2 d2
  have hc := P2.out.2.1.c1
  have hz := P2.out.2.1.fz 1
  have hw : IntKind.i64.wrap ((deep : Int) + 1) = ((deep + 1 : Nat) : Int) := by rw [IntWalk.i64_in _ (by omega)]; omega
  have N := Lib.hid (pl_set P2.out.1 P2.out.2.1 P2.out.2.2 ST0.out.p0)
  go_wp2_with fail
  go_ret
  exact ⟨rfl, deep + 1, acc, room, full, s, N.out, HSS.out, HRA.out, Nat.le_refl _, Nat.le_refl _⟩
set_option maxHeartbeats 1600000 in
theorem do_out (c : Con) {deep : Nat} {acc : List UInt8} {room : Nat} {full : Bool} {s : ByteArray} {w : World} (M : Nat) (h : Pl c deep acc room full full s w) (hs : s.data.toList = acc) (hra : room + acc.length = M)
    (hk0 : -9223372036854775808 ≤ c.kind) (hk1 : c.kind ≤ 9223372036854775807) (hd : deep ≤ 100) (hr : c.kind % 7 = 3) :
    Calls Try.prog 11 #[.pointer (some ⟨c.q, 0, none⟩), .pointer (some ⟨c.p, 0, none⟩), .agg #[.int .i64 c.kind, .slice c.xa c.xl c.xc]] w fun e w' => e = .returned (.bool true) ∧ Nx c M deep acc.length w' := by
  have ST0 := Lib.hid (st_box h).pl
  have HR := Lib.hid hr
  have HRA := Lib.hid hra
  have HSS := Lib.hid hs
  clear h hr hra hs
  go_enter Try.func11, Try.ntmps11
  go_wp2_with fail
  refine (pick_any c.kind 7 _ hk0 hk1 (by decide) (by decide)).mono ?_
  rw [HR.out]
  rintro e w1 ⟨rfl, rfl⟩
  clear hk0 hk1
  generalize hW1 : (w.alloc (.cells #[.int .i64 c.kind, .slice c.xa c.xl c.xc] 33)) = w1 at ST0 ⊢
  clear hW1
  go_wp2_with fail
  refine (out_any ST0.out.run.sk (by omega)).mono ?_
  rintro e w2 ⟨rfl, s2, d2⟩
  have P2 := Lib.hid (ST0.out.did s2 d2)
  clear s2 d2
  have hc := P2.out.2.1.c1
  have hz := P2.out.2.1.fz 1
  have hw : max 0 ((deep : Int) - 1) = ((deep - 1 : Nat) : Int) := by omega
  have N := Lib.hid (pl_set P2.out.1 P2.out.2.1 P2.out.2.2 ST0.out.p0)
  go_wp2_with fail
  go_ret
  exact ⟨rfl, deep - 1, acc, room, full, s, N.out, HSS.out, HRA.out, by omega, Nat.le_refl _⟩
theorem nx_mono {c : Con} {M deep n m : Nat} {w : World} (h : Nx c M deep n w) (hl : n ≤ m) : Nx c M deep m w := by
  obtain ⟨d, a, r, f, s, h1, h2, h3, h4, h5⟩ := h
  exact ⟨d, a, r, f, s, h1, h2, h3, h4, by omega⟩
theorem do_any (c : Con) {deep : Nat} {acc : List UInt8} {room : Nat} {full : Bool} {s : ByteArray} {w : World} (M : Nat) (h : Pl c deep acc room full full s w) (hx : IsStrs c.w0 c.xa c.xl c.xc c.xs) (hs : s.data.toList = acc) (hra : room + acc.length = M) (hM : (M : Int) = max c.most 0) (hM2 : M ≤ maxLen)
    (hk0 : -9223372036854775808 ≤ c.kind) (hk1 : c.kind ≤ 9223372036854775807) (hn : c.xl ≤ 20) (hd : deep ≤ 100) (hl : acc.length + (flat c.xs).length ≤ 100000) :
    Calls Try.prog 11 #[.pointer (some ⟨c.q, 0, none⟩), .pointer (some ⟨c.p, 0, none⟩), .agg #[.int .i64 c.kind, .slice c.xa c.xl c.xc]] w fun e w' => e = .returned (.bool true) ∧ Nx c M deep (acc.length + (2 * deep + ((flat c.xs).length + 1))) w' := by
  have h0 := Int.emod_nonneg c.kind (show (7 : Int) ≠ 0 by omega)
  have h7 := Int.emod_lt_of_pos c.kind (show (0 : Int) < 7 by omega)
  have hc : c.kind % 7 = 0 ∨ c.kind % 7 = 1 ∨ c.kind % 7 = 2 ∨ c.kind % 7 = 3 ∨ c.kind % 7 = 4 ∨ c.kind % 7 = 5 ∨ c.kind % 7 = 6 := by omega
  rcases hc with e | e | e | e | e | e | e
  · exact (do_put c M h hx hs hra hM hM2 hk0 hk1 hl 0 e (.inl rfl)).mono fun _ _ h => ⟨h.1, nx_mono h.2 (by omega)⟩
  · exact (do_put c M h hx hs hra hM hM2 hk0 hk1 hl 1 e (.inr rfl)).mono fun _ _ h => ⟨h.1, nx_mono h.2 (by omega)⟩
  · exact (do_in c M h hs hra hk0 hk1 hd e).mono fun _ _ h => ⟨h.1, nx_mono h.2 (by omega)⟩
  · exact (do_out c M h hs hra hk0 hk1 hd e).mono fun _ _ h => ⟨h.1, nx_mono h.2 (by omega)⟩
  · exact (do_begin c M h hx hs hra hM hM2 hk0 hk1 hn hd hl e).mono fun _ _ h => ⟨h.1, nx_mono h.2 (by omega)⟩
  · exact (do_end c M h hx hs hra hM hM2 hk0 hk1 hn hd hl e).mono fun _ _ h => ⟨h.1, nx_mono h.2 (by omega)⟩
  · exact (do_line c M h hx hs hra hM hM2 hk0 hk1 hn hd hl e).mono fun _ _ h => ⟨h.1, nx_mono h.2 (by omega)⟩
end Go.Proofs.Ytinamdmefbmnnaa
