/-
  ExprPasGroups: of every text and every number the law returns true, and what was handed in reads as it did. Conditions: the row's own (the listed tables of Go's library and of the program hold what their initialisers lay, which the card ties to the program's text).
-/
import Derived.Test.YtpcldpnaljheoaaGreatDoorZzEnd
namespace Go.Proofs.YtpcldpnaljheoaaGreatDoor
open Go.RowKit Go.Deep

def wrapN (s : ByteArray) : Nat → ByteArray
  | 0 => s
  | k + 1 => wrapB (wrapN s k)
theorem wrapN_size (s : ByteArray) : ∀ k, (wrapN s k).size = s.size + 4 * k
  | 0 => rfl
  | k + 1 => by
    show (wrapB (wrapN s k)).size = _
    rw [wrap_size, wrapN_size s k]
    omega
theorem wrapN_red {s : ByteArray} (h : (redD s).c = 0) (hs : s.size ≤ 5000) : ∀ k, k ≤ 9 → (redD (wrapN s k)).c = 0 ∧ redX (wrapN s k) = redX s
  | 0, _ => ⟨h, rfl⟩
  | k + 1, hk => by
    obtain ⟨h1, h2⟩ := wrapN_red h hs k (by omega)
    have h3 := wrapN_size s k
    obtain ⟨h4, h5⟩ := wrap_red h1 (by omega)
    exact ⟨h4, h5.trans h2⟩
/-- What a call of Read leaves, in one form. -/
theorem read_u {s : ByteArray} {w w' : World} {e : Ending} (h : ReadPost s w e w') : Below w.heap.size w w' ∧ ∃ op nn nm fd a len c D, e = .returned (.tuple #[exV op nn nm fd a len c, dgV D]) ∧ (D.c = 0 ↔ (redD s).c = 0) ∧ ((redD s).c = 0 → AllAt w' [.int .i64 op, .int .i64 nn, .string nm, .string fd, .slice a len c] (redX s) ∧ ShE (redX s)) := by
  unfold ReadPost at h
  generalize redD s = RD at *
  generalize redX s = RX at *
  obtain ⟨b, h⟩ := h
  refine ⟨b, ?_⟩
  rcases h with ⟨h1, rfl⟩ | ⟨h1, op, nn, nm, fd, a, len, c, rfl, h2, h3⟩
  · exact ⟨0, 0, noB, noB, none, 0, 0, RD, rfl, Iff.rfl, fun h => absurd h h1⟩
  · exact ⟨op, nn, nm, fd, a, len, c, ⟨0, 0, 0, 0⟩, rfl, ⟨fun _ => h1, fun _ => rfl⟩, fun _ => ⟨h2.sub (mk_sub _ _), h3⟩⟩
set_option maxRecDepth 100000 in
set_option maxHeartbeats 4000000 in
theorem groups_any (s : ByteArray) (n : Nat) (hn : n ≤ 255) (w : World) (hG : Gt w) :
    Calls Tryz.prog 7 #[.string s, .int .u8 (n : Nat)] w fun e w' => e = .returned (.bool true) ∧ Below w.heap.size w w' := by
  have HG := Lib.hid hG
  by_cases hbig : 5000 < s.size
  · have d1 : decide ((s.size : Int) > 5000) = true := by simp; omega
    have d2 : decide (5000 < s.size) = true := by simp; omega
    have AW := Lib.hid (awake_any _ hG)
    clear hbig hG
    go_enter Tryz.func7, Tryz.ntmps7
    go_wp2_with fail
    refine AW.out.mono ?_
    rintro e w3 ⟨rfl, b3⟩
    have B3 := Lib.hid b3
    clear b3
    go_wp2_with fail
    go_ret
    exact ⟨rfl, B3.out⟩
  · have d1 : decide ((s.size : Int) > 5000) = false := by simp; omega
    have d2 : decide (5000 < s.size) = false := by simp; omega
    have HR := Lib.hid (Read_any s w hG)
    have hS : s.size ≤ 5000 := by omega
    obtain ⟨q, hq⟩ : ∃ q, q = n % 9 := ⟨_, rfl⟩
    have hq8 : q ≤ 8 := by omega
    have hrem : (n : Int).tmod 9 = (q : Int) := by rw [Int.tmod_eq_emod_of_nonneg (by omega)]; omega
    clear hbig hG hq
    go_enter Tryz.func7, Tryz.ntmps7
    go_wp2_with fail
    refine HR.out.mono ?_
    intro e w1 h1
    obtain ⟨b1, op, nn, nm, fd, a, len, c, D, rfl, hD, hX⟩ := read_u h1
    have B1 := Lib.hid b1
    have HD := Lib.hid hD
    have HX := Lib.hid hX
    have Z1 := (Below.refl w1.heap.size w1).alloc (Nat.le_refl _) (.cells #[.int .i64 op, .int .i64 nn, .string nm, .string fd, .slice a len c] 25)
    have Z2 := Z1.alloc Z1.size (.cells #[.int .i64 (D.c : Nat), .int .i64 (D.p : Nat), .int .i64 (D.l : Nat), .int .i64 (D.k : Nat)] 30)
    have e1 : (w1.alloc (.cells #[.int .i64 op, .int .i64 nn, .string nm, .string fd, .slice a len c] 25)).heap.size = w1.heap.size + 1 := by simp
    have k1 := (((Below.refl _ (w1.alloc (.cells #[.int .i64 op, .int .i64 nn, .string nm, .string fd, .slice a len c] 25))).alloc (Nat.le_refl _) (.cells #[.int .i64 (D.c : Nat), .int .i64 (D.p : Nat), .int .i64 (D.l : Nat), .int .i64 (D.k : Nat)] 30)).block w1.heap.size (by simp)).trans (heap_new w1 (.cells #[.int .i64 op, .int .i64 nn, .string nm, .string fd, .slice a len c] 25))
    have k2 := heap_new (w1.alloc (.cells #[.int .i64 op, .int .i64 nn, .string nm, .string fd, .slice a len c] 25)) (.cells #[.int .i64 (D.c : Nat), .int .i64 (D.p : Nat), .int .i64 (D.l : Nat), .int .i64 (D.k : Nat)] 30)
    rw [e1] at k2
    have K1 := Lib.hid k1
    have K2 := Lib.hid k2
    have B2 := Lib.hid Z2
    clear h1 b1 hD hX Z1 Z2 e1 k1 k2 HR
    unfold dgV
    go_wp2_with fail
    generalize (w1.alloc (.cells #[.int .i64 op, .int .i64 nn, .string nm, .string fd, .slice a len c] 25)).alloc (.cells #[.int .i64 (D.c : Nat), .int .i64 (D.p : Nat), .int .i64 (D.l : Nat), .int .i64 (D.k : Nat)] 30) = W2 at K1 K2 B2 ⊢
    go_loopw [7, 8] (fun tv iv wr => ∃ k : Nat, tv = .string (wrapN s k) ∧ iv = .int .i64 (k : Nat) ∧ k ≤ q ∧ wr = W2) (fun _ iv _ => q - (intOf iv).toNat)
    case atStart => exact ⟨0, rfl, rfl, Nat.zero_le _, rfl⟩
    case round =>
      obtain ⟨k, rfl, rfl, hk, rfl⟩ := hrel
      have hws := wrapN_size s k
      have HW := Lib.hid (show wrapN s (k + 1) = ⟨#[40, 32]⟩ ++ wrapN s k ++ ⟨#[32, 41]⟩ from rfl)
      have HRD := Lib.hid (fun (h : (redD s).c = 0) => wrapN_red h hS k (by omega))
      generalize wrapN s k = T at *
      have j1 : ¬ 9223372036854775807 < 2 + T.size := by omega
      have j2 : ¬ 9223372036854775807 < 2 + T.size + 2 := by omega
      by_cases hlt : k < q
      · have d3 : decide ((k : Int) < (q : Int)) = true := by simp; omega
        go_wp2_with fail
        go_roundw
        case rel => exact ⟨k + 1, by rw [HW.out], by go_num, by omega, by first | rfl | trivial⟩
        case measure => simp [intOf]; omega
      · have d3 : decide ((k : Int) < (q : Int)) = false := by simp; omega
        have HR2 := Lib.hid (Read_any T wr (HG.out.below (B1.out.trans (B2.out.mono B1.out.size))))
        clear HW hws j1 j2
        go_wp2_with fail
        refine HR2.out.mono ?_
        intro e w3 h3
        obtain ⟨b3, op2, nn2, nm2, fd2, a2, len2, c2, D2, rfl, hD2, hX2⟩ := read_u h3
        have B3 := Lib.hid (B2.out.trans (b3.mono B2.out.size))
        have K31 := Lib.hid ((b3.block _ (heap_lt K1.out)).trans K1.out)
        have K32 := Lib.hid ((b3.block _ (heap_lt K2.out)).trans K2.out)
        have Z1 := (Below.refl w3.heap.size w3).alloc (Nat.le_refl _) (.cells #[.int .i64 op2, .int .i64 nn2, .string nm2, .string fd2, .slice a2 len2 c2] 25)
        have Z2 := Z1.alloc Z1.size (.cells #[.int .i64 (D2.c : Nat), .int .i64 (D2.p : Nat), .int .i64 (D2.l : Nat), .int .i64 (D2.k : Nat)] 30)
        have e1 : (w3.alloc (.cells #[.int .i64 op2, .int .i64 nn2, .string nm2, .string fd2, .slice a2 len2 c2] 25)).heap.size = w3.heap.size + 1 := by simp
        have k1 := (((Below.refl _ (w3.alloc (.cells #[.int .i64 op2, .int .i64 nn2, .string nm2, .string fd2, .slice a2 len2 c2] 25))).alloc (Nat.le_refl _) (.cells #[.int .i64 (D2.c : Nat), .int .i64 (D2.p : Nat), .int .i64 (D2.l : Nat), .int .i64 (D2.k : Nat)] 30)).block w3.heap.size (by simp)).trans (heap_new w3 (.cells #[.int .i64 op2, .int .i64 nn2, .string nm2, .string fd2, .slice a2 len2 c2] 25))
        have k2 := heap_new (w3.alloc (.cells #[.int .i64 op2, .int .i64 nn2, .string nm2, .string fd2, .slice a2 len2 c2] 25)) (.cells #[.int .i64 (D2.c : Nat), .int .i64 (D2.p : Nat), .int .i64 (D2.l : Nat), .int .i64 (D2.k : Nat)] 30)
        rw [e1] at k2
        have K3 := Lib.hid k1
        have K4 := Lib.hid k2
        have K41 := Lib.hid ((Z2.block _ (heap_lt K31.out)).trans K31.out)
        have K42 := Lib.hid ((Z2.block _ (heap_lt K32.out)).trans K32.out)
        have B4 := Lib.hid (B3.out.trans (Z2.mono B3.out.size))
        have Z4 := Lib.hid Z2
        have HD2 := Lib.hid hD2
        have HX2 := Lib.hid hX2
        have HZ := Lib.hid (show ((w3.alloc (.cells #[.int .i64 op2, .int .i64 nn2, .string nm2, .string fd2, .slice a2 len2 c2] 25)).alloc (.cells #[.int .i64 (D2.c : Nat), .int .i64 (D2.p : Nat), .int .i64 (D2.l : Nat), .int .i64 (D2.k : Nat)] 30)).heap.size = w3.heap.size + 1 + 1 by simp)
        clear h3 b3 hD2 hX2 Z1 Z2 e1 k1 k2 HR2 K31 K32
        have u6 : ((w3.alloc (.cells #[.int .i64 op2, .int .i64 nn2, .string nm2, .string fd2, .slice a2 len2 c2] 25)).alloc (.cells #[.int .i64 (D2.c : Nat), .int .i64 (D2.p : Nat), .int .i64 (D2.l : Nat), .int .i64 (D2.k : Nat)] 30)).cell? ⟨w1.heap.size + 1, 0, none⟩ = some (.int .i64 (D.c : Nat)) := box_cells K42.out 0
        have v0 : ((w3.alloc (.cells #[.int .i64 op2, .int .i64 nn2, .string nm2, .string fd2, .slice a2 len2 c2] 25)).alloc (.cells #[.int .i64 (D2.c : Nat), .int .i64 (D2.p : Nat), .int .i64 (D2.l : Nat), .int .i64 (D2.k : Nat)] 30)).cell? ⟨w1.heap.size, 0, none⟩ = some (.int .i64 op) := box_cells K41.out 0
        have v1 : ((w3.alloc (.cells #[.int .i64 op2, .int .i64 nn2, .string nm2, .string fd2, .slice a2 len2 c2] 25)).alloc (.cells #[.int .i64 (D2.c : Nat), .int .i64 (D2.p : Nat), .int .i64 (D2.l : Nat), .int .i64 (D2.k : Nat)] 30)).cell? ⟨w1.heap.size, 1, none⟩ = some (.int .i64 nn) := box_cells K41.out 1
        have v2 : ((w3.alloc (.cells #[.int .i64 op2, .int .i64 nn2, .string nm2, .string fd2, .slice a2 len2 c2] 25)).alloc (.cells #[.int .i64 (D2.c : Nat), .int .i64 (D2.p : Nat), .int .i64 (D2.l : Nat), .int .i64 (D2.k : Nat)] 30)).cell? ⟨w1.heap.size, 2, none⟩ = some (.string nm) := box_cells K41.out 2
        have v3 : ((w3.alloc (.cells #[.int .i64 op2, .int .i64 nn2, .string nm2, .string fd2, .slice a2 len2 c2] 25)).alloc (.cells #[.int .i64 (D2.c : Nat), .int .i64 (D2.p : Nat), .int .i64 (D2.l : Nat), .int .i64 (D2.k : Nat)] 30)).cell? ⟨w1.heap.size, 3, none⟩ = some (.string fd) := box_cells K41.out 3
        have v4 : ((w3.alloc (.cells #[.int .i64 op2, .int .i64 nn2, .string nm2, .string fd2, .slice a2 len2 c2] 25)).alloc (.cells #[.int .i64 (D2.c : Nat), .int .i64 (D2.p : Nat), .int .i64 (D2.l : Nat), .int .i64 (D2.k : Nat)] 30)).cell? ⟨w1.heap.size, 4, none⟩ = some (.slice a len c) := box_cells K41.out 4
        have y0 : ((w3.alloc (.cells #[.int .i64 op2, .int .i64 nn2, .string nm2, .string fd2, .slice a2 len2 c2] 25)).alloc (.cells #[.int .i64 (D2.c : Nat), .int .i64 (D2.p : Nat), .int .i64 (D2.l : Nat), .int .i64 (D2.k : Nat)] 30)).cell? ⟨w3.heap.size, 0, none⟩ = some (.int .i64 op2) := box_cells K3.out 0
        have y1 : ((w3.alloc (.cells #[.int .i64 op2, .int .i64 nn2, .string nm2, .string fd2, .slice a2 len2 c2] 25)).alloc (.cells #[.int .i64 (D2.c : Nat), .int .i64 (D2.p : Nat), .int .i64 (D2.l : Nat), .int .i64 (D2.k : Nat)] 30)).cell? ⟨w3.heap.size, 1, none⟩ = some (.int .i64 nn2) := box_cells K3.out 1
        have y2 : ((w3.alloc (.cells #[.int .i64 op2, .int .i64 nn2, .string nm2, .string fd2, .slice a2 len2 c2] 25)).alloc (.cells #[.int .i64 (D2.c : Nat), .int .i64 (D2.p : Nat), .int .i64 (D2.l : Nat), .int .i64 (D2.k : Nat)] 30)).cell? ⟨w3.heap.size, 2, none⟩ = some (.string nm2) := box_cells K3.out 2
        have y3 : ((w3.alloc (.cells #[.int .i64 op2, .int .i64 nn2, .string nm2, .string fd2, .slice a2 len2 c2] 25)).alloc (.cells #[.int .i64 (D2.c : Nat), .int .i64 (D2.p : Nat), .int .i64 (D2.l : Nat), .int .i64 (D2.k : Nat)] 30)).cell? ⟨w3.heap.size, 3, none⟩ = some (.string fd2) := box_cells K3.out 3
        have y4 : ((w3.alloc (.cells #[.int .i64 op2, .int .i64 nn2, .string nm2, .string fd2, .slice a2 len2 c2] 25)).alloc (.cells #[.int .i64 (D2.c : Nat), .int .i64 (D2.p : Nat), .int .i64 (D2.l : Nat), .int .i64 (D2.k : Nat)] 30)).cell? ⟨w3.heap.size, 4, none⟩ = some (.slice a2 len2 c2) := box_cells K3.out 4
        have y5 : ((w3.alloc (.cells #[.int .i64 op2, .int .i64 nn2, .string nm2, .string fd2, .slice a2 len2 c2] 25)).alloc (.cells #[.int .i64 (D2.c : Nat), .int .i64 (D2.p : Nat), .int .i64 (D2.l : Nat), .int .i64 (D2.k : Nat)] 30)).cell? ⟨w3.heap.size + 1, 0, none⟩ = some (.int .i64 (D2.c : Nat)) := box_cells K4.out 0
        have AW := Lib.hid (fun (U : World) (b : Below w1.heap.size w1 U) => awake_any U (HG.out.below (B1.out.trans (b.mono B1.out.size))))
        by_cases hz : (redD s).c = 0
        · have hd0 : D.c = 0 := HD.out.2 hz
          have ht0 := HRD.out hz
          have hd2 : D2.c = 0 := HD2.out.2 ht0.1
          have d5 : ((D.c : Int) != 0) = false := by simp [hd0]
          have d6 : ((D2.c : Int) == 0) = true := by simp [hd2]
          have hx := HX.out
          have hx2 := HX2.out
          rw [ht0.2] at hx2
          generalize redX s = RX at hx hx2
          obtain ⟨x1, s1⟩ := hx hz
          obtain ⟨x2, s2⟩ := hx2 ht0.1
          clear ht0 HX HX2 HRD hx hx2
          have r1 := (x1.sub (sub_low (fun _ => False) B4.out fun _ h => h.elim)).sub (mk_sub _ _)
          have r2 := (x2.sub (sub_low (fun _ => False) Z4.out fun _ h => h.elim)).sub (mk_sub _ _)
          have SE := Lib.hid (refSameE_any _ RX RX s1 s2 _ _ r1 r2 _ (Below.refl _ _))
          unfold EqPost at SE
          rw [same_refl] at SE
          clear hd0 hd2 x1 x2 r1 r2 s1 s2 HD HD2 hz
          unfold dgV
          go_wp2_with fail
          refine SE.out.mono ?_
          rintro e w5 ⟨rfl, b5⟩
          have B5 := Lib.hid (B4.out.trans (b5.mono B4.out.size))
          clear b5 u6 v0 v1 v2 v3 v4 y0 y1 y2 y3 y4 y5
          go_wp2_with fail
          refine (AW.out _ B5.out).mono ?_
          rintro e w6 ⟨rfl, b6⟩
          have B6 := Lib.hid (B1.out.trans ((B5.out.trans (b6.mono B5.out.size)).mono B1.out.size))
          clear b6
          go_wp2_with fail
          go_ret
          exact ⟨rfl, B6.out⟩
        · have hd0 : D.c ≠ 0 := fun h => hz (HD.out.1 h)
          have d5 : ((D.c : Int) != 0) = true := by simp [hd0]
          clear hd0 HX HX2 HD HD2 hz HRD
          unfold dgV
          go_wp2_with fail
          refine (AW.out _ B4.out).mono ?_
          rintro e w6 ⟨rfl, b6⟩
          have B6 := Lib.hid (B1.out.trans ((B4.out.trans (b6.mono B4.out.size)).mono B1.out.size))
          clear b6
          go_wp2_with fail
          go_ret
          exact ⟨rfl, B6.out⟩
end Go.Proofs.YtpcldpnaljheoaaGreatDoor
namespace Go.Proofs.YtpcldpnaljheoaaGreatDoor.exprPasGroups
open Go.ChangeShapes Go.WideShapes Go.ChangeAt Go.RowKit
open Go.ChangeMaps (open_string shut_string)
set_option linter.unusedVariables false

theorem laid_met (os : Os) : laidMet Tryz.prog Rows.exprPasGroupsRow.laid ((laidWorld os).forCall (fun _ _ => 0) ⟨#[], #[.string ⟨#[]⟩, .int .u8 0], []⟩).memory := laid_all os _
theorem reads (os : Os) {H : Type} (enc : TypeId × Value → H) : ∃ places, DataW.whole enc Tryz.prog ((laidWorld os).forCall (fun _ _ => 0) ⟨#[], #[.string ⟨#[]⟩, .int .u8 0], []⟩).memory Tryz.f7.params.toList Rows.exprPasGroupsSpec.vars false (#[.string ⟨#[]⟩, .int .u8 0] : Array Value).toList 8 = some ([.lit (.string []), .lit (.int .u8 0)], [], places) :=
  ⟨[], by kernel_rfl⟩

set_option maxRecDepth 100000 in
theorem lifted (os : Os) (started : os.Started) (H : Type) (enc : TypeId × Value → H) (F : Stop.Interp) :
    ReturnsInHanded {} Tryz.checked os 7 .any ((OpenSpec.ofChange Rows.exprPasGroupsSpec).preRow enc Tryz.prog Tryz.f7 Rows.exprPasGroupsRow.domain false Rows.exprPasGroupsRow.laid) (((OpenSpec.ofChange Rows.exprPasGroupsSpec).at F).post enc Tryz.prog Tryz.f7 false true false false) := by
  obtain ⟨places, hx⟩ := reads os enc
  refine returnsInHanded_of_row (C := Tryz.checked) (s := OpenSpec.ofChange Rows.exprPasGroupsSpec) own started (by kernel_rfl) Tryz.func7
    (fits (enc := enc) #[.string ⟨#[]⟩, .int .u8 0] (by kernel_rfl)
      (OpenSpec.preRow_of_cond 8 hx (by kernel_rfl) (fun k hk => by cases hk) (by kernel_rfl) (laid_met os))) ?_
  intro W base args ds gs before hval hW _ hcond _ hL _ _
  have hW' := hW
  obtain ⟨p, q, hA0, hV, rfl, hfz, hnd⟩ := hW
  have hA : DataW.TrodAll enc Tryz.prog W 0 (fun _ => true) true Tryz.f7.params.toList args.toList ds p := hA0
  rw [Tryz.params7] at hA hval
  obtain ⟨v0, vs0, d0, ds0, p0, q0, hargs, rfl, rfl, h0, r0⟩ := trodAll_cons hA
  obtain ⟨v1, vs1, d1, ds1, p1, q1, rfl, rfl, rfl, h1, r1⟩ := trodAll_cons r0
  obtain ⟨rfl, rfl, rfl⟩ := trodAll_nil r1
  obtain rfl : args = #[v0, v1] := by cases args; simp_all
  obtain ⟨rfl, rfl⟩ := trodVars_none hV
  have k0 := h0
  have lt0 : ∀ x ∈ p0, x.block < W.heap.size := by obtain ⟨m, hm⟩ := k0; exact DataW.trod_lt m _ _ _ hm
  have k1 := h1
  have lt1 : ∀ x ∈ p1, x.block < W.heap.size := by obtain ⟨m, hm⟩ := k1; exact DataW.trod_lt m _ _ _ hm
  obtain ⟨s, rfl, rfl, rfl, hs⟩ := open_string Tryz.underlying9 (hval 0 9 v0 rfl rfl) h0
  obtain ⟨ni, rfl, rfl, rfl, wn⟩ := open_int Tryz.underlying5 (hval 1 5 v1 rfl rfl) h1
  have bdn := bounds_u8 wn
  obtain ⟨n, rfl⟩ : ∃ n : Nat, ni = (n : Int) := ⟨ni.toNat, by omega⟩
  clear hA0
  refine (groups_any s n (by omega) W (gt_of hL)).mono fun e W' ⟨he, bel⟩ => ?_
  subst he
  exact ⟨_, rfl, _, _, _, [], _, [], hW', trodAll_mk1 (shut_bool Tryz.underlying4 _), (trodAll_cons_mk (Below.trod laidOut (by kernel_rfl) (of_decide_eq_true (by kernel_rfl)) k0 bel lt0) (trodAll_cons_mk (Below.trod laidOut (by kernel_rfl) (of_decide_eq_true (by kernel_rfl)) k1 bel lt1) trodAll_mk0)), rfl, bel.frame _, fun h => by cases h⟩

theorem said : Rows.ExprPasGroupsSaid :=
  OpenClaim.holds_of_cond 7 Tryz.f7 rfl rfl rfl rfl rfl rfl rfl ⟨rfl, rfl, rfl, rfl, rfl⟩ rfl rfl rfl rfl rfl (by kernel_rfl) Tryz.func7 (by kernel_rfl)
    (of_decide_eq_true (by kernel_rfl)) (by unfold Func.isWrapper; first | (rw [if_pos (by decide +kernel)]; kernel_rfl) | (rw [if_neg (by decide +kernel)]; exact ⟨rfl, rfl⟩))
    (fun os started H enc _ F => by rw [OpenClaim.pre_eq_preRow]; exact lifted os started H enc F)

theorem plain (f : FuncId) (fn : Func) (hf : Tryz.pinned.checked.prog.funcNamed "pantograph/pantographlaw08.ExprPasGroups" = some f) (hfn : Tryz.pinned.checked.prog.funcs[f]? = some fn) :
    false = Tryz.pinned.checked.prog.looks [] ∧ ∀ (j : Nat) t, fn.params[j]? = some t → Tryz.pinned.checked.prog.wantsStandIn t = false := by
  obtain rfl : f = 7 := Option.some.inj ((show Tryz.prog.funcNamed "pantograph/pantographlaw08.ExprPasGroups" = some 7 by kernel_rfl).symm.trans hf) |>.symm
  obtain rfl : fn = Tryz.f7 := (Option.some.inj (Tryz.func7.symm.trans hfn)).symm
  refine ⟨by kernel_rfl, fun j t ht => ?_⟩
  rw [Tryz.params7] at ht
  have hm : t = 9 ∨ t = 5 := by simpa using Array.mem_of_getElem? ht
  rcases hm with rfl | rfl
  · exact (show Tryz.prog.wantsStandIn 9 = false by kernel_rfl)
  · exact (show Tryz.prog.wantsStandIn 5 = false by kernel_rfl)

theorem card : Rows.ExprPasGroupsCardSaid :=
  Claim7.holds_tied_plain_at .later [] _ _ _ _ said (fun _ h => by cases h) (by kernel_rfl) (fun _ h => by cases h) exprPasGroups_row_tie rfl ⟨rfl, rfl⟩ (by kernel_rfl) rfl plain (by kernel_rfl)
end Go.Proofs.YtpcldpnaljheoaaGreatDoor.exprPasGroups

namespace Go.Proofs.YtpcldpnaljheoaaGreatDoor
theorem exprPasGroups_holds : Rows.ExprPasGroupsCardSaid := exprPasGroups.card
end Go.Proofs.YtpcldpnaljheoaaGreatDoor
