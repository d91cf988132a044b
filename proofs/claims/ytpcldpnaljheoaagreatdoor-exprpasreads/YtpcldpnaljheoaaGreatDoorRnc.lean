/-
  The document's reader of expressions, walked: what begins with a name: a call.
-/
import Derived.Test.YtpcldpnaljheoaaGreatDoorRca
namespace Go.Proofs.YtpcldpnaljheoaaGreatDoor
open Go.RowKit Go.Deep Go.Sort

set_option maxRecDepth 100000 in
set_option maxHeartbeats 4000000 in
theorem rnm_call {g cap : Nat} {ts : List Tok} {E : RS → XS} {n : Nat} (hE : OkV g ts 48 (lvA g cap ts 1) E n) (hEk : ∀ s, s.f = 0 → leftS ts s < n → (E s).2.f = 0 → s.k < (E s).2.k ∧ (E s).2.k ≤ ts.length) {s : RS} {w : World} (hf : s.f = 0) (h : TkW g ts w) (hn : leftS ts s < n + 1) (hk : (cur ts s).kind = 1) (h40 : isT ts (stepS s) [⟨#[40]⟩] = true) :
    Calls Tryz.prog 137 (facA g cap ts s.k) w (GPost w.heap.size (mkE 7 0 (cur ts s).text noB (oprF ts E (stepS (stepS s))).1, (oprF ts E (stepS (stepS s))).2) w) := by
  have hlen := h.ok.len
  have Z := (Below.refl w.heap.size w).alloc (Nat.le_refl _) got0
  have T0 := Lib.hid (h.below Z)
  have HT := Lib.hid (rtok_any (cap := cap) s.k (h.below Z))
  have K0 := Lib.hid (heap_new w got0)
  have ZB := Lib.hid Z
  have hsl := (cur_k (ts := ts) (s := s) (by omega)).2.1
  have hlt := left_step (cur_k (ts := ts) (s := s) (by omega))
  have hlt2 := left_stepT h40
  have hkl := (isT_k h40).2.1
  have htx := h.ok.txt _ (List.mem_of_getElem? (cur_k (ts := ts) (s := s) (by omega)).2.2)
  have e40 : isW (tkAt ts (stepS s).k) [⟨#[40]⟩] = true := by unfold isT at h40; rw [cur_tk (s := stepS s) hf] at h40; exact h40
  have H40 := Lib.hid (fun (W : World) (hW : TkW g ts W) => ris_any (cap := cap) (stepS s).k ⟨#[40]⟩ hW)
  rw [e40] at H40
  have HC := Lib.hid (fun (W : World) (hW : TkW g ts W) => rcall_any hE hEk (s := stepS (stepS s)) hf hkl hW (by omega) (cur ts s).text htx)
  have hk1' : (stepS s).k = s.k + 1 := rfl
  have hk2' : (stepS (stepS s)).k = s.k + 2 := rfl
  have hw1 : IntKind.i64.wrap ((s.k : Int) + 1) = (((stepS s).k : Nat) : Int) := by rw [IntWalk.i64_in _ (by omega), hk1']; omega
  have hw2 : IntKind.i64.wrap ((s.k : Int) + 2) = (((stepS (stepS s)).k : Nat) : Int) := by rw [IntWalk.i64_in _ (by omega), hk2']; omega
  rw [← cur_tk (ts := ts) hf] at HT
  have hk1 : ((cur ts s).kind : Int) = 1 := by omega
  generalize cur ts s = t at HT hk1 htx HC ⊢
  generalize hRN : (mkE 7 0 t.text noB (oprF ts E (stepS (stepS s))).1, (oprF ts E (stepS (stepS s))).2) = RN at HC ⊢
  clear hRN
  generalize (stepS (stepS s)).k = k2 at HC hw2
  generalize (stepS s).k = k1 at H40 hw1
  clear h Z hk h40 e40 hf hE hEk hn hlt hlt2 hkl hk1' hk2'
  go_enter Tryz.func137, Tryz.ntmps137
  go_wp2_with fail
  generalize w.alloc _ = W at HT K0 ZB T0 ⊢
  refine HT.out.mono ?_
  rintro e w1 ⟨rfl, b1⟩
  have b1a := b1.alloc b1.size (.cells #[.int .i64 (t.kind : Nat), .string t.text, .int .i64 (t.n : Nat), .bool t.same, .int .i64 (t.pos : Nat), .int .i64 (t.line : Nat), .int .i64 (t.col : Nat)] 50)
  have I1 := Lib.hid (show FxI g ts w1.heap.size t w _ from ⟨ZB.out.trans (b1a.mono ZB.out.size), T0.out.below b1a, (b1a.block _ (heap_lt K0.out)).trans K0.out, heap_new w1 _, Nat.lt_of_lt_of_le (heap_lt K0.out) b1.size⟩)
  generalize hzt : w1.heap.size = zt at I1
  clear HT b1 b1a K0 ZB T0
  unfold tokV tokCells
  rw [hk1] at I1 ⊢
  clear hk1
  go_wp2_with fail
  generalize w1.alloc _ = W1 at I1 ⊢
  refine (H40.out _ I1.out.tk).mono ?_
  rintro e w2 ⟨rfl, b2⟩
  have I2 := Lib.hid (I1.out.next b2)
  have kt := box_cells I2.out.kt
  have lzt := heap_lt I2.out.kt
  clear I1 b2
  go_wp2_with fail
  refine (HC.out _ I2.out.tk).mono ?_
  rintro e w6 ⟨b6, ⟨hRf, op, nn, nm, fd, a, len, c, rfl, hx⟩ | ⟨hRf, rfl⟩⟩
  · have I6 := Lib.hid (I2.out.next b6)
    have X6 := Lib.hid hx
    have z0 := heap_lt I2.out.k0
    have k0' := box_cells I6.out.k0
    have f0' : ∀ o, w6.frozen? ⟨w.heap.size, o, none⟩ = false := fun o => by simp [World.frozen?, I6.out.k0]
    clear hx b6 kt
    unfold gotV
    go_wp2_with fail
    exact bodyPost_ret (v := gotV op nn nm fd a len c RN.2.k ⟨0, 0, 0, 0⟩) (results_cell (i := 6) (b := w.heap.size) Tryz.results137 Tryz.isAgg56 Tryz.sizeOf56 rfl rfl (s10_heap I6.out.k0 _ _ _ _ _ _ _ _ _ _)) rfl
      ⟨s10_below I6.out.bel _ _ _ _ _ _ _ _ _ _, .inl ⟨hRf, _, _, _, _, _, _, _, rfl, X6.out.sub ((s10_sub (P := fun k => k < w2.heap.size) z0 _ _ _ _ _ _ _ _ _ _).trans (mk_weak _ fun k hk => Nat.lt_trans hk z0))⟩⟩
  · have I6 := Lib.hid (I2.out.next b6)
    have k0' := box_cells I6.out.k0
    have f0' : ∀ o, w6.frozen? ⟨w.heap.size, o, none⟩ = false := fun o => by simp [World.frozen?, I6.out.k0]
    clear b6 kt
    unfold gotN gotV faultD
    go_wp2_with fail
    exact bodyPost_ret (v := gotN (faultD RN.2)) (results_cell (i := 6) (b := w.heap.size) Tryz.results137 Tryz.isAgg56 Tryz.sizeOf56 rfl rfl (s10_heap I6.out.k0 _ _ _ _ _ _ _ _ _ _)) rfl
      ⟨s10_below I6.out.bel _ _ _ _ _ _ _ _ _ _, .inr ⟨hRf, rfl⟩⟩
end Go.Proofs.YtpcldpnaljheoaaGreatDoor
