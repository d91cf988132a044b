/-
  The document's reader of expressions, walked: the level of what binds most.
-/
import Derived.Test.YtpcldpnaljheoaaGreatDoorRx8
namespace Go.Proofs.YtpcldpnaljheoaaGreatDoor
open Go.RowKit Go.Deep Go.Sort

set_option maxRecDepth 100000 in
set_option maxHeartbeats 4000000 in
theorem rlev_fac {g cap : Nat} {ts : List Tok} {F : RS → XS} {n : Nat} (hF : OkV g ts 86 (facA g cap ts) F n) : OkV g ts 48 (lvA g cap ts 4) F n := by
  intro s w hf hk h hn
  have Z := (Below.refl w.heap.size w).alloc (Nat.le_refl _) got0
  have K0 := Lib.hid (heap_new w got0)
  have ZB := Lib.hid Z
  have HC := Lib.hid (hF s (w.alloc got0) hf hk (h.below Z) hn)
  generalize F s = X at HC ⊢
  clear h Z hF hk hn
  go_enter Tryz.func48, Tryz.ntmps48
  go_wp2_with fail
  have ez : (w.alloc got0).heap.size = w.heap.size + 1 := by simp
  generalize w.alloc _ = W at HC K0 ZB ez ⊢
  refine (rlast_any _).mono ?_
  rintro e w1 ⟨rfl, rfl⟩
  go_wp2_with fail
  refine HC.out.mono ?_
  rintro e w2 ⟨b2, ⟨hXf, op, nn, nm, fd, a, len, c, rfl, hx⟩ | ⟨hXf, rfl⟩⟩
  · have B2 := Lib.hid (ZB.out.trans (b2.mono ZB.out.size))
    have K2 := Lib.hid ((b2.block _ (heap_lt K0.out)).trans K0.out)
    have X2 := Lib.hid hx
    have k0 := box_cells K2.out
    have f0 : ∀ o, w2.frozen? ⟨w.heap.size, o, none⟩ = false := fun o => by simp [World.frozen?, K2.out]
    clear hx b2 K0 ZB HC
    unfold gotV
    go_wp2_with fail
    exact bodyPost_ret (v := gotV op nn nm fd a len c X.2.k ⟨0, 0, 0, 0⟩) (results_cell (i := 8) (b := w.heap.size) Tryz.results48 Tryz.isAgg56 Tryz.sizeOf56 rfl rfl (s10_heap K2.out _ _ _ _ _ _ _ _ _ _)) rfl ⟨s10_below B2.out _ _ _ _ _ _ _ _ _ _, .inl ⟨hXf, _, _, _, _, _, _, _, rfl, X2.out.sub ((s10_sub (P := fun k => k < w1.heap.size) (by show w.heap.size < w1.heap.size; omega) _ _ _ _ _ _ _ _ _ _).trans (mk_weak _ fun k hk => by show k < w1.heap.size; have : k < w.heap.size := hk; omega))⟩⟩
  · have B2 := Lib.hid (ZB.out.trans (b2.mono ZB.out.size))
    have K2 := Lib.hid ((b2.block _ (heap_lt K0.out)).trans K0.out)
    have k0 := box_cells K2.out
    have f0 : ∀ o, w2.frozen? ⟨w.heap.size, o, none⟩ = false := fun o => by simp [World.frozen?, K2.out]
    clear b2 K0 ZB HC
    unfold gotN gotV faultD
    go_wp2_with fail
    exact bodyPost_ret (v := gotN (faultD X.2)) (results_cell (i := 8) (b := w.heap.size) Tryz.results48 Tryz.isAgg56 Tryz.sizeOf56 rfl rfl (s10_heap K2.out _ _ _ _ _ _ _ _ _ _)) rfl ⟨s10_below B2.out _ _ _ _ _ _ _ _ _ _, .inr ⟨hXf, rfl⟩⟩
end Go.Proofs.YtpcldpnaljheoaaGreatDoor
