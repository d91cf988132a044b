/-
  The document's reader of expressions, walked: what begins with a name: none, a variable.
-/
import Derived.Test.YtpcldpnaljheoaaGreatDoorRj8
namespace Go.Proofs.YtpcldpnaljheoaaGreatDoor
open Go.RowKit Go.Deep Go.Sort

set_option maxRecDepth 100000 in
set_option maxHeartbeats 4000000 in
theorem rnm_wrong {g cap : Nat} {ts : List Tok} {s : RS} {w : World} (hf : s.f = 0) (h : TkW g ts w) (hk : (cur ts s).kind ≠ 1) :
    Calls Tryz.prog 137 (facA g cap ts s.k) w (GPost w.heap.size (e0, refuseS ts s) w) := by
  have hlen := h.ok.len
  have Z := (Below.refl w.heap.size w).alloc (Nat.le_refl _) got0
  have T0 := Lib.hid (h.below Z)
  have HT := Lib.hid (rtok_any (cap := cap) s.k (h.below Z))
  have K0 := Lib.hid (heap_new w got0)
  have ZB := Lib.hid Z
  have HWR := Lib.hid (fun (W : World) (hW : TkW g ts W) => rwrong_any (cap := cap) s.k hW)
  have hfw := fault_wr (ts := ts) hf
  have hne := refuse_ne ts s
  rw [cur_tk hf] at hk
  rw [← hfw] at HWR
  have hb : ((tkAt ts s.k).kind : Int) ≠ 1 := by omega
  generalize tkAt ts s.k = t at HT hb
  generalize refuseS ts s = s3 at HWR hne ⊢
  have hb2 : ((t.kind : Int) != 1) = true := by simpa using hb
  clear h Z hk hfw hb
  go_enter Tryz.func137, Tryz.ntmps137
  go_wp2_with fail
  generalize w.alloc _ = W at HT K0 ZB T0 ⊢
  refine HT.out.mono ?_
  rintro e w1 ⟨rfl, b1⟩
  have b1a := b1.alloc b1.size (.cells #[.int .i64 (t.kind : Nat), .string t.text, .int .i64 (t.n : Nat), .bool t.same, .int .i64 (t.pos : Nat), .int .i64 (t.line : Nat), .int .i64 (t.col : Nat)] 50)
  have I1 := Lib.hid (show FxI g ts w1.heap.size t w _ from ⟨ZB.out.trans (b1a.mono ZB.out.size), T0.out.below b1a, (b1a.block _ (heap_lt K0.out)).trans K0.out, heap_new w1 _, Nat.lt_of_lt_of_le (heap_lt K0.out) b1.size⟩)
  generalize hzt : w1.heap.size = zt at I1
  clear HT b1 b1a K0 ZB T0
  unfold tokV tokCells
  go_wp2_with fail
  generalize w1.alloc _ = W1 at I1 ⊢
  refine (HWR.out _ I1.out.tk).mono ?_
  rintro e w2 ⟨rfl, b2⟩
  have I2 := Lib.hid (I1.out.next b2)
  have k0 := box_cells I2.out.k0
  have f0 : ∀ o, w2.frozen? ⟨w.heap.size, o, none⟩ = false := fun o => by simp [World.frozen?, I2.out.k0]
  clear I1 b2
  unfold gotN gotV faultD
  go_wp2_with fail
  exact bodyPost_ret (v := gotN (faultD s3)) (results_cell (i := 6) (b := w.heap.size) Tryz.results137 Tryz.isAgg56 Tryz.sizeOf56 rfl rfl (s10_heap I2.out.k0 _ _ _ _ _ _ _ _ _ _)) rfl ⟨s10_below I2.out.bel _ _ _ _ _ _ _ _ _ _, .inr ⟨hne, rfl⟩⟩
set_option maxRecDepth 100000 in
set_option maxHeartbeats 4000000 in
theorem rnm_var {g cap : Nat} {ts : List Tok} {s : RS} {w : World} (hf : s.f = 0) (h : TkW g ts w) (hk : (cur ts s).kind = 1) (h40 : isT ts (stepS s) [⟨#[40]⟩] = false) (h91 : isT ts (stepS s) [⟨#[91]⟩] = false) (h46 : isT ts (stepS s) [⟨#[46]⟩] = false) :
    Calls Tryz.prog 137 (facA g cap ts s.k) w (GPost w.heap.size (mkE 4 0 (cur ts s).text noB [], stepS s) w) := by
  have hlen := h.ok.len
  have Z := (Below.refl w.heap.size w).alloc (Nat.le_refl _) got0
  have T0 := Lib.hid (h.below Z)
  have HT := Lib.hid (rtok_any (cap := cap) s.k (h.below Z))
  have K0 := Lib.hid (heap_new w got0)
  have ZB := Lib.hid Z
  have hsl := (cur_k (ts := ts) (s := s) (by omega)).2.1
  have htx := h.ok.txt _ (List.mem_of_getElem? (cur_k (ts := ts) (s := s) (by omega)).2.2)
  have e40 : isW (tkAt ts (stepS s).k) [⟨#[40]⟩] = false := by unfold isT at h40; rw [cur_tk (s := stepS s) hf] at h40; exact h40
  have e91 : isW (tkAt ts (stepS s).k) [⟨#[91]⟩] = false := by unfold isT at h91; rw [cur_tk (s := stepS s) hf] at h91; exact h91
  have e46 : isW (tkAt ts (stepS s).k) [⟨#[46]⟩] = false := by unfold isT at h46; rw [cur_tk (s := stepS s) hf] at h46; exact h46
  have H40 := Lib.hid (fun (W : World) (hW : TkW g ts W) => ris_any (cap := cap) (stepS s).k ⟨#[40]⟩ hW)
  have H91 := Lib.hid (fun (W : World) (hW : TkW g ts W) => ris_any (cap := cap) (stepS s).k ⟨#[91]⟩ hW)
  have H46 := Lib.hid (fun (W : World) (hW : TkW g ts W) => ris_any (cap := cap) (stepS s).k ⟨#[46]⟩ hW)
  rw [e40] at H40
  rw [e91] at H91
  rw [e46] at H46
  have hw1 : IntKind.i64.wrap ((s.k : Int) + 1) = (((stepS s).k : Nat) : Int) := by rw [IntWalk.i64_in _ (by omega)]; exact (Int.natCast_add s.k 1).symm
  have hstf : (stepS s).f = 0 := hf
  rw [← cur_tk (ts := ts) hf] at HT
  have hk1 : ((cur ts s).kind : Int) = 1 := by omega
  generalize cur ts s = t at HT hk1 htx ⊢
  generalize stepS s = s1 at *
  clear h Z hk h40 h91 h46 e40 e91 e46 hf
  go_enter Tryz.func137, Tryz.ntmps137
  go_wp2_with fail
  generalize w.alloc _ = W at HT K0 ZB T0 ⊢
  refine HT.out.mono ?_
  rintro e w1 ⟨rfl, b1⟩
  have b1a := b1.alloc b1.size (.cells #[.int .i64 (t.kind : Nat), .string t.text, .int .i64 (t.n : Nat), .bool t.same, .int .i64 (t.pos : Nat), .int .i64 (t.line : Nat), .int .i64 (t.col : Nat)] 50)
  have I1 := Lib.hid (show FxI g ts w1.heap.size t w _ from ⟨ZB.out.trans (b1a.mono ZB.out.size), T0.out.below b1a, (b1a.block _ (heap_lt K0.out)).trans K0.out, heap_new w1 _, Nat.lt_of_lt_of_le (heap_lt K0.out) b1.size⟩)
  generalize hzt : w1.heap.size = zt at I1
  clear HT b1 b1a K0 ZB T0
  unfold tokV tokCells
  rw [hk1] at I1 ⊢
  clear hk1
  go_wp2_with fail
  generalize w1.alloc _ = W1 at I1 ⊢
  refine (H40.out _ I1.out.tk).mono ?_
  rintro e w2 ⟨rfl, b2⟩
  have I2 := Lib.hid (I1.out.next b2)
  clear I1 b2
  go_wp2_with fail
  refine (H91.out _ I2.out.tk).mono ?_
  rintro e w3 ⟨rfl, b3⟩
  have I3 := Lib.hid (I2.out.next b3)
  clear I2 b3
  go_wp2_with fail
  refine (H46.out _ I3.out.tk).mono ?_
  rintro e w4 ⟨rfl, b4⟩
  have I4 := Lib.hid (I3.out.next b4)
  have kt := box_cells I4.out.kt
  have k0 := box_cells I4.out.k0
  have f0 : ∀ o, w4.frozen? ⟨w.heap.size, o, none⟩ = false := fun o => by simp [World.frozen?, I4.out.k0]
  clear I3 b4
  go_wp2_with fail
  exact bodyPost_ret (v := gotV 4 0 t.text ⟨#[]⟩ none 0 0 s1.k ⟨0, 0, 0, 0⟩) (results_cell (i := 6) (b := w.heap.size) Tryz.results137 Tryz.isAgg56 Tryz.sizeOf56 rfl rfl (s10_heap I4.out.k0 _ _ _ _ _ _ _ _ _ _)) rfl ⟨s10_below I4.out.bel _ _ _ _ _ _ _ _ _ _, .inl ⟨hstf, _, _, _, _, _, _, _, rfl, ExAt.leaf _ (by omega) (by omega) (by omega) (by omega) (by unfold maxLen; omega) (by decide)⟩⟩
end Go.Proofs.YtpcldpnaljheoaaGreatDoor
