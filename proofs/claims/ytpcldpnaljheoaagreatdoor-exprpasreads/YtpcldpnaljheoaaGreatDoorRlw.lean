/-
  ExprPasReads, walked.
-/
import Derived.Test.YtpcldpnaljheoaaGreatDoorRre
import Derived.Test.YtpcldpnaljheoaaGreatDoorZy6
namespace Go.Proofs.YtpcldpnaljheoaaGreatDoor
open Go.RowKit Go.Deep Go.Sort

/-- What Read answers of a text. -/
def redO (s : ByteArray) : Dg := if (redD s).c = 0 then ⟨0, 0, 0, 0⟩ else redD s
def redE (s : ByteArray) : List D := if (redD s).c = 0 then redX s else e0
theorem read_r {s : ByteArray} {w w' : World} {e : Ending} (h : ReadPost s w e w') : Below w.heap.size w w' ∧ ∃ op nn nm fd a len c, e = .returned (.tuple #[exV op nn nm fd a len c, dgV (redO s)]) ∧ AllAt w' [.int .i64 op, .int .i64 nn, .string nm, .string fd, .slice a len c] (redE s) ∧ ShE (redE s) := by
  unfold ReadPost at h
  unfold redO redE
  generalize redD s = RD at *
  generalize redX s = RX at *
  obtain ⟨b, h⟩ := h
  refine ⟨b, ?_⟩
  rcases h with ⟨h1, rfl⟩ | ⟨h1, op, nn, nm, fd, a, len, c, rfl, h2, h3⟩
  · rw [if_neg h1, if_neg h1]
    have he : ExAt w' e0 0 0 noB noB none 0 0 := ExAt.leaf w' (by omega) (by omega) (by omega) (by omega) (by decide) (by decide)
    exact ⟨0, 0, noB, noB, none, 0, 0, rfl, he.1, he.2⟩
  · rw [if_pos h1, if_pos h1]
    exact ⟨op, nn, nm, fd, a, len, c, rfl, h2.sub (mk_sub _ _), h3⟩
/-- Two boxes behind a call's two results. -/
structure TwB (z : Nat) (o1 o2 : Obj) (w W : World) : Prop where
  bel : Below w.heap.size w W
  k1 : W.heap[z]? = some o1
  k2 : W.heap[z + 1]? = some o2
theorem TwB.next {z : Nat} {o1 o2 : Obj} {w W W' : World} (h : TwB z o1 o2 w W) (b : Below W.heap.size W W') : TwB z o1 o2 w W' :=
  ⟨h.bel.trans (b.mono h.bel.size), (b.block _ (heap_lt h.k1)).trans h.k1, (b.block _ (heap_lt h.k2)).trans h.k2⟩
theorem TwB.start (w : World) (o1 o2 : Obj) : TwB w.heap.size o1 o2 w ((w.alloc o1).alloc o2) := by
  have Z1 := (Below.refl w.heap.size w).alloc (Nat.le_refl _) o1
  have Z2 := Z1.alloc Z1.size o2
  have e1 : (w.alloc o1).heap.size = w.heap.size + 1 := by simp
  have N2 := (Below.refl _ (w.alloc o1)).alloc (Nat.le_refl _) o2
  have k2 := heap_new (w.alloc o1) o2
  rw [e1] at k2 N2
  exact ⟨Z2, (N2.block _ (by omega)).trans (heap_new w _), k2⟩
set_option maxRecDepth 100000 in
set_option maxHeartbeats 4000000 in
theorem reads_any (s : ByteArray) (w : World) (hG : Gt w) :
    Calls Tryz.prog 3 #[.string s] w fun e w' => e = .returned (.bool true) ∧ Below w.heap.size w w' := by
  have HG := Lib.hid hG
  by_cases hbig : 70000 < s.size
  · have d1 : decide ((s.size : Int) > 70000) = true := by simp; omega
    have d2 : decide (70000 < s.size) = true := by simp; omega
    have AW := Lib.hid (awake_any _ hG)
    clear hbig hG
    go_enter Tryz.func3, Tryz.ntmps3
    go_wp2_with fail
    refine AW.out.mono ?_
    rintro e w3 ⟨rfl, b3⟩
    have B3 := Lib.hid b3
    clear b3
    go_wp2_with fail
    go_ret
    exact ⟨rfl, B3.out⟩
  · have d1 : decide ((s.size : Int) > 70000) = false := by simp; omega
    have d2 : decide (70000 < s.size) = false := by simp; omega
    have HR := Lib.hid ((Read_any s w hG).mono fun e w' h => read_r h)
    have HQ := Lib.hid (fun (W : World) => (rRead_any s W).mono fun e w' h => read_r h)
    generalize redO s = D at HR HQ
    generalize redE s = X at HR HQ
    clear hbig hG
    go_enter Tryz.func3, Tryz.ntmps3
    go_wp2_with fail
    refine HR.out.mono ?_
    rintro e w1 ⟨b1, op, nn, nm, fd, a, len, c, rfl, hx, hs⟩
    have T1 := Lib.hid (TwB.start w1 (.cells #[.int .i64 op, .int .i64 nn, .string nm, .string fd, .slice a len c] 25) (.cells #[.int .i64 (D.c : Nat), .int .i64 (D.p : Nat), .int .i64 (D.l : Nat), .int .i64 (D.k : Nat)] 30))
    have HX1 := Lib.hid (fun (W : World) (b : Below w1.heap.size w1 W) => (hx.sub (sub_low (fun _ => False) b fun _ h => h.elim)).sub (mk_sub _ _))
    have HS := Lib.hid hs
    have B1 := Lib.hid b1
    clear hx hs b1 HR
    unfold dgV
    go_wp2_with fail
    generalize (w1.alloc _).alloc _ = W2 at T1 ⊢
    refine (HQ.out _).mono ?_
    rintro e w3 ⟨b3, op2, nn2, nm2, fd2, a2, len2, c2, rfl, hx, hs⟩
    have T3 := Lib.hid (TwB.start w3 (.cells #[.int .i64 op2, .int .i64 nn2, .string nm2, .string fd2, .slice a2 len2 c2] 25) (.cells #[.int .i64 (D.c : Nat), .int .i64 (D.p : Nat), .int .i64 (D.l : Nat), .int .i64 (D.k : Nat)] 30))
    have T13 := Lib.hid ((T1.out.next b3).next T3.out.bel)
    have HX2 := Lib.hid ((hx.sub (sub_low (fun _ => False) T3.out.bel fun _ h => h.elim)).sub (mk_sub _ _))
    clear hx hs b3 T1 HQ
    have c1 := box_cells T13.out.k1
    have l1 := heap_lt T13.out.k1
    unfold dgV
    go_wp2_with fail
    clear c1 l1
    generalize (w3.alloc _).alloc _ = W4 at T3 T13 HX2 ⊢
    have SE := Lib.hid (refSameE_any W4 X X HS.out HS.out _ _ (HX1.out W4 T13.out.bel) HX2.out W4 (Below.refl _ _))
    unfold EqPost at SE
    rw [same_refl] at SE
    clear HX1 HX2 HS
    refine SE.out.mono ?_
    rintro e w5 ⟨rfl, b5⟩
    have T15 := Lib.hid (T13.out.next b5)
    have T35 := Lib.hid (T3.out.next b5)
    have AW := Lib.hid (awake_any w5 (HG.out.below (B1.out.trans (T15.out.bel.mono B1.out.size))))
    clear b5 T13 T3 SE
    have c2 := box_cells T15.out.k2
    have c4 := box_cells T35.out.k2
    have l2 := heap_lt T15.out.k2
    have l4 := heap_lt T35.out.k2
    go_wp2_with fail
    refine AW.out.mono ?_
    rintro e w6 ⟨rfl, b6⟩
    have B6 := Lib.hid ((B1.out.trans (T15.out.bel.mono B1.out.size)).trans (b6.mono (Nat.le_trans B1.out.size T15.out.bel.size)))
    clear b6
    go_wp2_with fail
    go_ret
    exact ⟨rfl, B6.out⟩
end Go.Proofs.YtpcldpnaljheoaaGreatDoor
