/-
  The document's reader of expressions, walked: the limits, of what was read.
-/
import Derived.Test.YtpcldpnaljheoaaGreatDoorRbd
namespace Go.Proofs.YtpcldpnaljheoaaGreatDoor
open Go.RowKit Go.Deep Go.Sort

def BdPost (L : Dg) (op n : Int) (nm fd : ByteArray) (a : Option Addr) (len c : Nat) (j : Nat) (w : World) (e : Ending) (w' : World) : Prop :=
  Below w.heap.size w w' ∧ ((L.c ≠ 0 ∧ e = .returned (gotN L)) ∨ (L.c = 0 ∧ e = .returned (gotV op n nm fd a len c j ⟨0, 0, 0, 0⟩)))
set_option maxRecDepth 100000 in
set_option maxHeartbeats 4000000 in
theorem rbound_ok {g cap : Nat} {ts : List Tok} (k : Nat) {w : World} (h : TkW g ts w) {op n : Int} {nm fd : ByteArray} {a : Option Addr} {len c : Nat} {j : Nat} {x : List D} (hx : AllAt w [.int .i64 op, .int .i64 n, .string nm, .string fd, .slice a len c] x) (hs : ShE x) :
    Calls Tryz.prog 47 #[tkV g cap ts, .int .i64 (k : Nat), gotV op n nm fd a len c j ⟨0, 0, 0, 0⟩] w (BdPost (limR x (tkAt ts k).pos (tkAt ts k).line (tkAt ts k).col) op n nm fd a len c j w) := by
  have I0 := Lib.hid (BdI.start h (gotO op n nm fd a len c j ⟨0, 0, 0, 0⟩))
  have HT := Lib.hid (fun (W : World) (hW : TkW g ts W) => rtok_any (cap := cap) k hW)
  have HX := Lib.hid (fun (W : World) (b : Below w.heap.size w W) => (hx.sub (sub_low (fun _ => False) b fun _ h => h.elim)).sub (mk_sub _ _))
  have HL := Lib.hid (fun (W : World) (b : Below w.heap.size w W) => rlong_any hs _ (HX.out W b) W (Below.refl _ _))
  have HD := Lib.hid (fun (W : World) (b : Below w.heap.size w W) => deep_any W 1048576 (by omega) x _ hs (HX.out W b) W (Below.refl _ _))
  unfold BdPost
  have HQ := Lib.hid (show limR x (tkAt ts k).pos (tkAt ts k).line (tkAt ts k).col = if 512 < gRow x then ⟨3, (tkAt ts k).pos, (tkAt ts k).line, (tkAt ts k).col⟩ else if 48 < dep 1048576 x then ⟨4, (tkAt ts k).pos, (tkAt ts k).line, (tkAt ts k).col⟩ else ⟨0, 0, 0, 0⟩ from rfl)
  generalize limR x (tkAt ts k).pos (tkAt ts k).line (tkAt ts k).col = L at HQ ⊢
  clear h hx hs HX
  generalize gRow x = gx at HL HQ
  generalize dep 1048576 x = dx at HD HQ
  generalize tkAt ts k = t at HT HQ
  have hfp := field_place (t.kind : Nat) (t.n : Nat) (t.pos : Nat) (t.line : Nat) (t.col : Nat) t.text t.same
  unfold gotN gotV
  go_enter Tryz.func47, Tryz.ntmps47
  go_wp2_with fail
  generalize (w.alloc _).alloc _ = W at I0 ⊢
  refine (HL.out _ I0.out.bel).mono ?_
  rintro e w1 ⟨rfl, b1⟩
  have I1 := Lib.hid (I0.out.next b1)
  clear b1 I0
  have cb := box_cells I1.out.kb
  have lb := heap_lt I1.out.kb
  have c0 := box_cells I1.out.k0
  have l0 := heap_lt I1.out.k0
  have f0 : ∀ o, w1.frozen? ⟨w.heap.size + 1, o, none⟩ = false := fun o => by simp [World.frozen?, I1.out.k0]
  by_cases hg : 512 < gx
  · have d1 : decide ((gx : Int) > 512) = true := by simp; omega
    have d2 : decide ((512 : Int) < (gx : Int)) = true := by simp; omega
    have d3 : decide (512 < gx) = true := by simp; omega
    have HE := Lib.hid (HQ.out.trans (if_pos hg))
    clear hg HQ
    go_wp2_with fail
    refine (HT.out _ I1.out.tk).mono ?_
    rintro e w2 ⟨rfl, b2⟩
    have I2 := Lib.hid (I1.out.next b2)
    clear b2 cb lb l0 f0 c0
    have c0 := box_cells I2.out.k0
    have l0 := heap_lt I2.out.k0
    have f0 : ∀ o, w2.frozen? ⟨w.heap.size + 1, o, none⟩ = false := fun o => by simp [World.frozen?, I2.out.k0]
    unfold tokV tokCells
    go_wp2_with fail
    exact bodyPost_ret (v := gotN ⟨3, t.pos, t.line, t.col⟩) (results_cell (i := 6) (b := w.heap.size + 1) Tryz.results47 Tryz.isAgg56 Tryz.sizeOf56 rfl rfl (s10_heap I2.out.k0 _ _ _ _ _ _ _ _ _ _)) rfl (by rw [HE.out]; exact ⟨I2.out.bel.trans ((s10_below (Below.refl (w.heap.size + 1) w2) _ _ _ _ _ _ _ _ _ _).mono (Nat.le_succ _)), .inl ⟨Nat.succ_ne_zero _, rfl⟩⟩)
  · have d1 : decide ((gx : Int) > 512) = false := by simp; omega
    have d2 : decide ((512 : Int) < (gx : Int)) = false := by simp; omega
    have d3 : decide (512 < gx) = false := by simp; omega
    have HQ2 := Lib.hid (HQ.out.trans (if_neg hg))
    clear hg HQ
    go_wp2_with fail
    refine (HD.out _ I1.out.bel).mono ?_
    rintro e w2 ⟨rfl, b2⟩
    have I2 := Lib.hid (I1.out.next b2)
    clear b2 cb lb l0 f0 c0
    have cb := box_cells I2.out.kb
    have lb := heap_lt I2.out.kb
    have c0 := box_cells I2.out.k0
    have l0 := heap_lt I2.out.k0
    have f0 : ∀ o, w2.frozen? ⟨w.heap.size + 1, o, none⟩ = false := fun o => by simp [World.frozen?, I2.out.k0]
    by_cases hd : 48 < dx
    · have e1 : decide ((dx : Int) > 48) = true := by simp; omega
      have e2 : decide ((48 : Int) < (dx : Int)) = true := by simp; omega
      have e3 : decide (48 < dx) = true := by simp; omega
      have HE := Lib.hid (HQ2.out.trans (if_pos hd))
      clear hd HQ2
      go_wp2_with fail
      refine (HT.out _ I2.out.tk).mono ?_
      rintro e w3 ⟨rfl, b3⟩
      have I3 := Lib.hid (I2.out.next b3)
      clear b3 cb lb l0 f0 c0
      have c0 := box_cells I3.out.k0
      have l0 := heap_lt I3.out.k0
      have f0 : ∀ o, w3.frozen? ⟨w.heap.size + 1, o, none⟩ = false := fun o => by simp [World.frozen?, I3.out.k0]
      unfold tokV tokCells
      go_wp2_with fail
      exact bodyPost_ret (v := gotN ⟨4, t.pos, t.line, t.col⟩) (results_cell (i := 6) (b := w.heap.size + 1) Tryz.results47 Tryz.isAgg56 Tryz.sizeOf56 rfl rfl (s10_heap I3.out.k0 _ _ _ _ _ _ _ _ _ _)) rfl (by rw [HE.out]; exact ⟨I3.out.bel.trans ((s10_below (Below.refl (w.heap.size + 1) w3) _ _ _ _ _ _ _ _ _ _).mono (Nat.le_succ _)), .inl ⟨Nat.succ_ne_zero _, rfl⟩⟩)
    · have e1 : decide ((dx : Int) > 48) = false := by simp; omega
      have e2 : decide ((48 : Int) < (dx : Int)) = false := by simp; omega
      have e3 : decide (48 < dx) = false := by simp; omega
      have HE := Lib.hid (HQ2.out.trans (if_neg hd))
      clear hd HQ2
      go_wp2_with fail
      exact bodyPost_ret (v := gotV op n nm fd a len c j ⟨0, 0, 0, 0⟩) (results_cell (i := 6) (b := w.heap.size + 1) Tryz.results47 Tryz.isAgg56 Tryz.sizeOf56 rfl rfl (s10_heap I2.out.k0 _ _ _ _ _ _ _ _ _ _)) rfl (by rw [HE.out]; exact ⟨I2.out.bel.trans ((s10_below (Below.refl (w.heap.size + 1) w2) _ _ _ _ _ _ _ _ _ _).mono (Nat.le_succ _)), .inr ⟨rfl, rfl⟩⟩)
end Go.Proofs.YtpcldpnaljheoaaGreatDoor
