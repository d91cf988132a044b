/-
  The document's printer of expressions, walked: two operands.
-/
import Derived.Test.YtpcldpnaljheoaaGreatDoorQi8
namespace Go.Proofs.YtpcldpnaljheoaaGreatDoor
open Go.RowKit Go.Deep Go.Sort

set_option maxRecDepth 100000 in
set_option maxHeartbeats 8000000 in
theorem rp_two1 {w0 : World} {t : List D → List UInt8} {y z : List D} (hfy : RfFn w0 t y) (hfz : RfFn w0 t z) (hsy : ShE y) (hsz : ShE z) (h1y : 1 ≤ opX y) (h2y : opX y ≤ 24) (h1z : 1 ≤ opX z) (h2z : opX z ≤ 24) {op : Nat} (h10 : 10 ≤ op) (h24 : op ≤ 24) (hlv : (sgnP (op : Int)).lv = 1) (hlf : (sgnP (op : Int)).lf = 2) (hrt : (sgnP (op : Int)).rt = 2) {n : Int} {nm fd : ByteArray} {a : Option Addr} {len c : Nat} {l : List (List D)} (hA : At w0 (.slice a len c) (.row l)) (hy : l[0]? = some y) (hz : l[1]? = some z) (w : World) (hW : Below w0.heap.size w0 w) (hl : (btwP (op : Int) t y z).length ≤ 100000000) :
    Calls Tryz.prog 15 (rpA (op : Nat) n nm fd a len c) w (RpPost (btwP (op : Int) t y z) w) := by
  have hln := hA.len_eq.1
  have h0l : 1 < l.length := (List.getElem?_eq_some_iff.1 hz).1
  obtain ⟨b, o, op1, n1, nm1, fd1, la1, ln1, lc1, rfl, hb, hv, c0, c1, c2, c3, c4⟩ := hA.elemE hy hsy
  obtain ⟨b', o', op2, n2, nm2, fd2, la2, ln2, lc2, hab, hb', hv', e0, e1, e2, e3, e4⟩ := hA.elemE hz hsz
  injection hab with hab
  injection hab with hab1 hab2
  subst hab1 hab2
  rw [show o + 0 * 5 = o by omega] at c0 c1 c2 c3 c4
  rw [show o + 1 * 5 = o + 5 by omega] at e0 e1 e2 e3 e4
  have R0 := Lib.hid ((Below.refl w.heap.size w).alloc (Nat.le_refl _) (.cells #[.int .i64 (op : Nat), .int .i64 n, .string nm, .string fd, .slice (some ⟨b, o, none⟩) len c] 25))
  have K0 := Lib.hid (heap_new w (.cells #[.int .i64 (op : Nat), .int .i64 n, .string nm, .string fd, .slice (some ⟨b, o, none⟩) len c] 25))
  have hlen0 : (0 : Int) < (len : Int) := by omega
  have hlen1 : (1 : Int) < (len : Int) := by omega
  have hlen2 : 1 < len := by omega
  have hlen3 : 0 < len := by omega
  have HB0 := Lib.hid hW
  have hbt : btwP (op : Int) t y z = optP 2 t y ++ [32] ++ (sgnP (op : Int)).t.data.toList ++ [32] ++ optP 2 t z := by unfold btwP; rw [hlf, hrt]; simp
  have hst := sgn_size (op : Int)
  have hl2 : (optP 2 t y).length + (sgnP (op : Int)).t.data.toList.length + (optP 2 t z).length ≤ 99999998 := by rw [hbt] at hl; simp at hl ⊢; omega
  have HLv := Lib.hid (fun (U : World) => rlevelOf_any op (by omega) U)
  rw [lev_sgn op (by omega) h24, hlv] at HLv
  have HSg := Lib.hid (fun (U : World) => rSign_any op h10 h24 U)
  have HY := Lib.hid (fun (U : World) (b : Below w0.heap.size w0 U) => rat_any hfy hsy h1y h2y hv 2 U b (by omega))
  have HZ := Lib.hid (fun (U : World) (b : Below w0.heap.size w0 U) => rat_any hfz hsz h1z h2z hv' 2 U b (by omega))
  rw [hbt]
  generalize optP 2 t y = ty at HY hl2 ⊢
  generalize optP 2 t z = tz at HZ hl2 ⊢
  generalize (sgnP (op : Int)).t = sg at HSg hl2 ⊢
  have a1 : ∀ w, (Op.stringOp .add ⟨ty.toArray⟩ ⟨#[32]⟩).run Tryz.prog w = .ok (.string ⟨(ty ++ [32]).toArray⟩) w := fun w => add_l ty [32] (by simp at hl2 ⊢; omega) w
  have a2 : ∀ w, (Op.stringOp .add ⟨(ty ++ [32]).toArray⟩ sg).run Tryz.prog w = .ok (.string ⟨(ty ++ [32] ++ sg.data.toList).toArray⟩) w := fun w => by
    have := add_l (ty ++ [32]) sg.data.toList (by simp at hl2 ⊢; omega) w
    rwa [ba_bal] at this
  have a3 : ∀ w, (Op.stringOp .add ⟨(ty ++ [32] ++ sg.data.toList).toArray⟩ ⟨#[32]⟩).run Tryz.prog w = .ok (.string ⟨(ty ++ [32] ++ sg.data.toList ++ [32]).toArray⟩) w := fun w => add_l _ [32] (by simp at hl2 ⊢; omega) w
  have a4 : ∀ w, (Op.stringOp .add ⟨(ty ++ [32] ++ sg.data.toList ++ [32]).toArray⟩ ⟨tz.toArray⟩).run Tryz.prog w = .ok (.string ⟨(ty ++ [32] ++ sg.data.toList ++ [32] ++ tz).toArray⟩) w := fun w => add_l _ tz (by simp at hl2 ⊢; omega) w
  unfold RpPost
  generalize (ByteArray.mk (ty ++ [32] ++ sg.data.toList ++ [32] ++ tz).toArray) = X4 at a4 ⊢
  generalize (ByteArray.mk (ty ++ [32] ++ sg.data.toList ++ [32]).toArray) = X3 at a3 a4
  generalize (ByteArray.mk (ty ++ [32] ++ sg.data.toList).toArray) = X2 at a2 a3
  generalize (ByteArray.mk (ty ++ [32]).toArray) = X1 at a1 a2
  generalize (ByteArray.mk ty.toArray) = Y at HY a1
  generalize (ByteArray.mk tz.toArray) = Z at HZ a4
  have KB : ∀ W' : World, Below w.heap.size w W' → W'.heap[w.heap.size]? = some (.cells #[.int .i64 (op : Nat), .int .i64 n, .string nm, .string fd, .slice (some ⟨b, o, none⟩) len c] 25) →
      W'.cell? ⟨w.heap.size, 0, none⟩ = some (.int .i64 (op : Nat)) ∧ W'.cell? ⟨w.heap.size, 4, none⟩ = some (.slice (some ⟨b, o, none⟩) len c) ∧ W'.cell? ⟨b, o, none⟩ = some (.int .i64 op1) ∧ W'.cell? ⟨b, o + 1, none⟩ = some (.int .i64 n1) ∧ W'.cell? ⟨b, o + 2, none⟩ = some (.string nm1) ∧ W'.cell? ⟨b, o + 3, none⟩ = some (.string fd1) ∧ W'.cell? ⟨b, o + 4, none⟩ = some (.slice la1 ln1 lc1) ∧ W'.cell? ⟨b, o + 5, none⟩ = some (.int .i64 op2) ∧ W'.cell? ⟨b, o + 5 + 1, none⟩ = some (.int .i64 n2) ∧ W'.cell? ⟨b, o + 5 + 2, none⟩ = some (.string nm2) ∧ W'.cell? ⟨b, o + 5 + 3, none⟩ = some (.string fd2) ∧ W'.cell? ⟨b, o + 5 + 4, none⟩ = some (.slice la2 ln2 lc2) := fun W' bb e =>
    have B0 := hW.trans (bb.mono hW.size)
    ⟨box_cells e 0, box_cells e 4, (B0.cell (p := ⟨b, o, none⟩) hb).trans c0, (B0.cell (p := ⟨b, o + 1, none⟩) hb).trans c1, (B0.cell (p := ⟨b, o + 2, none⟩) hb).trans c2, (B0.cell (p := ⟨b, o + 3, none⟩) hb).trans c3, (B0.cell (p := ⟨b, o + 4, none⟩) hb).trans c4,
     (B0.cell (p := ⟨b, o + 5, none⟩) hb).trans e0, (B0.cell (p := ⟨b, o + 5 + 1, none⟩) hb).trans e1, (B0.cell (p := ⟨b, o + 5 + 2, none⟩) hb).trans e2, (B0.cell (p := ⟨b, o + 5 + 3, none⟩) hb).trans e3, (B0.cell (p := ⟨b, o + 5 + 4, none⟩) hb).trans e4⟩
  have HKB := Lib.hid KB
  have HBW := Lib.hid (fun (W' : World) (bb : Below w.heap.size w W') => HB0.out.trans (bb.mono HB0.out.size))
  have d1 : ((op : Int) == 1) = false := by simp; omega
  have d2 : ((op : Int) == 2) = false := by simp; omega
  have d3 : ((op : Int) == 3) = false := by simp; omega
  have d4 : ((op : Int) == 4) = false := by simp; omega
  have d5 : ((op : Int) == 5) = false := by simp; omega
  have d6 : ((op : Int) == 6) = false := by simp; omega
  have d7 : ((op : Int) == 7) = false := by simp; omega
  have d8 : ((op : Int) == 8) = false := by simp; omega
  have d9 : ((op : Int) == 9) = false := by simp; omega
  have d25 : ((op : Int) == 25) = false := by simp; omega
  clear hfy hfz hsy hsz h1y h2y h1z h2z h10 h24 hlv hlf hrt hA hy hz hv hv' hl hl2 hbt hst c0 c1 c2 c3 c4 e0 e1 e2 e3 e4 hW hln h0l KB hb'
  go_enter Tryz.func15, Tryz.ntmps15
  go_wp2_with fail
  generalize w.alloc _ = W0 at R0 K0 ⊢
  refine (HLv.out _).mono ?_
  rintro e w1 ⟨rfl, b1⟩
  have R1 := Lib.hid (R0.out.trans (b1.mono R0.out.size))
  have K1 := Lib.hid ((b1.block _ (heap_lt K0.out)).trans K0.out)
  clear b1 R0 K0 HLv
  go_wp2_with fail
  have RD := Lib.hid (below_drew0 R1.out)
  have HK0 := Lib.hid (HKB.out w1.drew RD.out K1.out)
  go_region_held3 (fun W' => W'.cell? ⟨w.heap.size, 0, none⟩ = some (.int .i64 (op : Nat)) ∧ W'.cell? ⟨w.heap.size, 4, none⟩ = some (.slice (some ⟨b, o, none⟩) len c) ∧ W'.cell? ⟨b, o, none⟩ = some (.int .i64 op1) ∧ W'.cell? ⟨b, o + 1, none⟩ = some (.int .i64 n1) ∧ W'.cell? ⟨b, o + 2, none⟩ = some (.string nm1) ∧ W'.cell? ⟨b, o + 3, none⟩ = some (.string fd1) ∧ W'.cell? ⟨b, o + 4, none⟩ = some (.slice la1 ln1 lc1) ∧ W'.cell? ⟨b, o + 5, none⟩ = some (.int .i64 op2) ∧ W'.cell? ⟨b, o + 5 + 1, none⟩ = some (.int .i64 n2) ∧ W'.cell? ⟨b, o + 5 + 2, none⟩ = some (.string nm2) ∧ W'.cell? ⟨b, o + 5 + 3, none⟩ = some (.string fd2) ∧ W'.cell? ⟨b, o + 5 + 4, none⟩ = some (.slice la2 ln2 lc2))
    (first | with_reducible exact HK0.out | with_reducible exact HK2.out | with_reducible exact HK3.out | with_reducible exact HK4.out | with_reducible assumption)
    (first
      | (go_at_call 34; refine (HSg.out _).mono ?_; rintro e3 w3 ⟨rfl, b3⟩; have R3 := Lib.hid (R2'.out.trans (b3.mono R2'.out.size)); have K3 := Lib.hid ((b3.block _ (heap_lt K2.out)).trans K2.out); have HK3 := Lib.hid (HKB.out _ R3.out K3.out); clear b3)
      | (go_at_call 32; refine (HZ.out _ (HBW.out _ R3.out)).mono ?_; rintro e4 w4 ⟨rfl, b4⟩; have R4 := Lib.hid (R3.out.trans (b4.mono R3.out.size)); have K4 := Lib.hid ((b4.block _ (heap_lt K3.out)).trans K3.out); have HK4 := Lib.hid (HKB.out _ R4.out K4.out); clear b4)
      | (go_at_call 32; refine (HY.out _ (HBW.out _ RD.out)).mono ?_; rintro e2 w2 ⟨rfl, b2⟩; have R2' := Lib.hid (RD.out.trans (b2.mono RD.out.size)); have K2 := Lib.hid ((b2.block _ (heap_lt K1.out)).trans K1.out); have HK2 := Lib.hid (HKB.out _ R2'.out K2.out); clear b2))
  all_goals
    go_wp2_with fail
    go_ret
    exact ⟨rfl, R4.out⟩
set_option maxRecDepth 100000 in
set_option maxHeartbeats 8000000 in
theorem rp_two2 {w0 : World} {t : List D → List UInt8} {y z : List D} (hfy : RfFn w0 t y) (hfz : RfFn w0 t z) (hsy : ShE y) (hsz : ShE z) (h1y : 1 ≤ opX y) (h2y : opX y ≤ 24) (h1z : 1 ≤ opX z) (h2z : opX z ≤ 24) {op : Nat} (h10 : 10 ≤ op) (h24 : op ≤ 24) (hlv : (sgnP (op : Int)).lv = 2) (hlf : (sgnP (op : Int)).lf = 2) (hrt : (sgnP (op : Int)).rt = 3) {n : Int} {nm fd : ByteArray} {a : Option Addr} {len c : Nat} {l : List (List D)} (hA : At w0 (.slice a len c) (.row l)) (hy : l[0]? = some y) (hz : l[1]? = some z) (w : World) (hW : Below w0.heap.size w0 w) (hl : (btwP (op : Int) t y z).length ≤ 100000000) :
    Calls Tryz.prog 15 (rpA (op : Nat) n nm fd a len c) w (RpPost (btwP (op : Int) t y z) w) := by
  have hln := hA.len_eq.1
  have h0l : 1 < l.length := (List.getElem?_eq_some_iff.1 hz).1
  obtain ⟨b, o, op1, n1, nm1, fd1, la1, ln1, lc1, rfl, hb, hv, c0, c1, c2, c3, c4⟩ := hA.elemE hy hsy
  obtain ⟨b', o', op2, n2, nm2, fd2, la2, ln2, lc2, hab, hb', hv', e0, e1, e2, e3, e4⟩ := hA.elemE hz hsz
  injection hab with hab
  injection hab with hab1 hab2
  subst hab1 hab2
  rw [show o + 0 * 5 = o by omega] at c0 c1 c2 c3 c4
  rw [show o + 1 * 5 = o + 5 by omega] at e0 e1 e2 e3 e4
  have R0 := Lib.hid ((Below.refl w.heap.size w).alloc (Nat.le_refl _) (.cells #[.int .i64 (op : Nat), .int .i64 n, .string nm, .string fd, .slice (some ⟨b, o, none⟩) len c] 25))
  have K0 := Lib.hid (heap_new w (.cells #[.int .i64 (op : Nat), .int .i64 n, .string nm, .string fd, .slice (some ⟨b, o, none⟩) len c] 25))
  have hlen0 : (0 : Int) < (len : Int) := by omega
  have hlen1 : (1 : Int) < (len : Int) := by omega
  have hlen2 : 1 < len := by omega
  have hlen3 : 0 < len := by omega
  have HB0 := Lib.hid hW
  have hbt : btwP (op : Int) t y z = optP 2 t y ++ [32] ++ (sgnP (op : Int)).t.data.toList ++ [32] ++ optP 3 t z := by unfold btwP; rw [hlf, hrt]; simp
  have hst := sgn_size (op : Int)
  have hl2 : (optP 2 t y).length + (sgnP (op : Int)).t.data.toList.length + (optP 3 t z).length ≤ 99999998 := by rw [hbt] at hl; simp at hl ⊢; omega
  have HLv := Lib.hid (fun (U : World) => rlevelOf_any op (by omega) U)
  rw [lev_sgn op (by omega) h24, hlv] at HLv
  have HSg := Lib.hid (fun (U : World) => rSign_any op h10 h24 U)
  have HY := Lib.hid (fun (U : World) (b : Below w0.heap.size w0 U) => rat_any hfy hsy h1y h2y hv 2 U b (by omega))
  have HZ := Lib.hid (fun (U : World) (b : Below w0.heap.size w0 U) => rat_any hfz hsz h1z h2z hv' 3 U b (by omega))
  rw [hbt]
  generalize optP 2 t y = ty at HY hl2 ⊢
  generalize optP 3 t z = tz at HZ hl2 ⊢
  generalize (sgnP (op : Int)).t = sg at HSg hl2 ⊢
  have a1 : ∀ w, (Op.stringOp .add ⟨ty.toArray⟩ ⟨#[32]⟩).run Tryz.prog w = .ok (.string ⟨(ty ++ [32]).toArray⟩) w := fun w => add_l ty [32] (by simp at hl2 ⊢; omega) w
  have a2 : ∀ w, (Op.stringOp .add ⟨(ty ++ [32]).toArray⟩ sg).run Tryz.prog w = .ok (.string ⟨(ty ++ [32] ++ sg.data.toList).toArray⟩) w := fun w => by
    have := add_l (ty ++ [32]) sg.data.toList (by simp at hl2 ⊢; omega) w
    rwa [ba_bal] at this
  have a3 : ∀ w, (Op.stringOp .add ⟨(ty ++ [32] ++ sg.data.toList).toArray⟩ ⟨#[32]⟩).run Tryz.prog w = .ok (.string ⟨(ty ++ [32] ++ sg.data.toList ++ [32]).toArray⟩) w := fun w => add_l _ [32] (by simp at hl2 ⊢; omega) w
  have a4 : ∀ w, (Op.stringOp .add ⟨(ty ++ [32] ++ sg.data.toList ++ [32]).toArray⟩ ⟨tz.toArray⟩).run Tryz.prog w = .ok (.string ⟨(ty ++ [32] ++ sg.data.toList ++ [32] ++ tz).toArray⟩) w := fun w => add_l _ tz (by simp at hl2 ⊢; omega) w
  unfold RpPost
  generalize (ByteArray.mk (ty ++ [32] ++ sg.data.toList ++ [32] ++ tz).toArray) = X4 at a4 ⊢
  generalize (ByteArray.mk (ty ++ [32] ++ sg.data.toList ++ [32]).toArray) = X3 at a3 a4
  generalize (ByteArray.mk (ty ++ [32] ++ sg.data.toList).toArray) = X2 at a2 a3
  generalize (ByteArray.mk (ty ++ [32]).toArray) = X1 at a1 a2
  generalize (ByteArray.mk ty.toArray) = Y at HY a1
  generalize (ByteArray.mk tz.toArray) = Z at HZ a4
  have KB : ∀ W' : World, Below w.heap.size w W' → W'.heap[w.heap.size]? = some (.cells #[.int .i64 (op : Nat), .int .i64 n, .string nm, .string fd, .slice (some ⟨b, o, none⟩) len c] 25) →
      W'.cell? ⟨w.heap.size, 0, none⟩ = some (.int .i64 (op : Nat)) ∧ W'.cell? ⟨w.heap.size, 4, none⟩ = some (.slice (some ⟨b, o, none⟩) len c) ∧ W'.cell? ⟨b, o, none⟩ = some (.int .i64 op1) ∧ W'.cell? ⟨b, o + 1, none⟩ = some (.int .i64 n1) ∧ W'.cell? ⟨b, o + 2, none⟩ = some (.string nm1) ∧ W'.cell? ⟨b, o + 3, none⟩ = some (.string fd1) ∧ W'.cell? ⟨b, o + 4, none⟩ = some (.slice la1 ln1 lc1) ∧ W'.cell? ⟨b, o + 5, none⟩ = some (.int .i64 op2) ∧ W'.cell? ⟨b, o + 5 + 1, none⟩ = some (.int .i64 n2) ∧ W'.cell? ⟨b, o + 5 + 2, none⟩ = some (.string nm2) ∧ W'.cell? ⟨b, o + 5 + 3, none⟩ = some (.string fd2) ∧ W'.cell? ⟨b, o + 5 + 4, none⟩ = some (.slice la2 ln2 lc2) := fun W' bb e =>
    have B0 := hW.trans (bb.mono hW.size)
    ⟨box_cells e 0, box_cells e 4, (B0.cell (p := ⟨b, o, none⟩) hb).trans c0, (B0.cell (p := ⟨b, o + 1, none⟩) hb).trans c1, (B0.cell (p := ⟨b, o + 2, none⟩) hb).trans c2, (B0.cell (p := ⟨b, o + 3, none⟩) hb).trans c3, (B0.cell (p := ⟨b, o + 4, none⟩) hb).trans c4,
     (B0.cell (p := ⟨b, o + 5, none⟩) hb).trans e0, (B0.cell (p := ⟨b, o + 5 + 1, none⟩) hb).trans e1, (B0.cell (p := ⟨b, o + 5 + 2, none⟩) hb).trans e2, (B0.cell (p := ⟨b, o + 5 + 3, none⟩) hb).trans e3, (B0.cell (p := ⟨b, o + 5 + 4, none⟩) hb).trans e4⟩
  have HKB := Lib.hid KB
  have HBW := Lib.hid (fun (W' : World) (bb : Below w.heap.size w W') => HB0.out.trans (bb.mono HB0.out.size))
  have d1 : ((op : Int) == 1) = false := by simp; omega
  have d2 : ((op : Int) == 2) = false := by simp; omega
  have d3 : ((op : Int) == 3) = false := by simp; omega
  have d4 : ((op : Int) == 4) = false := by simp; omega
  have d5 : ((op : Int) == 5) = false := by simp; omega
  have d6 : ((op : Int) == 6) = false := by simp; omega
  have d7 : ((op : Int) == 7) = false := by simp; omega
  have d8 : ((op : Int) == 8) = false := by simp; omega
  have d9 : ((op : Int) == 9) = false := by simp; omega
  have d25 : ((op : Int) == 25) = false := by simp; omega
  clear hfy hfz hsy hsz h1y h2y h1z h2z h10 h24 hlv hlf hrt hA hy hz hv hv' hl hl2 hbt hst c0 c1 c2 c3 c4 e0 e1 e2 e3 e4 hW hln h0l KB hb'
  go_enter Tryz.func15, Tryz.ntmps15
  go_wp2_with fail
  generalize w.alloc _ = W0 at R0 K0 ⊢
  refine (HLv.out _).mono ?_
  rintro e w1 ⟨rfl, b1⟩
  have R1 := Lib.hid (R0.out.trans (b1.mono R0.out.size))
  have K1 := Lib.hid ((b1.block _ (heap_lt K0.out)).trans K0.out)
  clear b1 R0 K0 HLv
  go_wp2_with fail
  have RD := Lib.hid (below_drew0 R1.out)
  have HK0 := Lib.hid (HKB.out w1.drew RD.out K1.out)
  go_region_held3 (fun W' => W'.cell? ⟨w.heap.size, 0, none⟩ = some (.int .i64 (op : Nat)) ∧ W'.cell? ⟨w.heap.size, 4, none⟩ = some (.slice (some ⟨b, o, none⟩) len c) ∧ W'.cell? ⟨b, o, none⟩ = some (.int .i64 op1) ∧ W'.cell? ⟨b, o + 1, none⟩ = some (.int .i64 n1) ∧ W'.cell? ⟨b, o + 2, none⟩ = some (.string nm1) ∧ W'.cell? ⟨b, o + 3, none⟩ = some (.string fd1) ∧ W'.cell? ⟨b, o + 4, none⟩ = some (.slice la1 ln1 lc1) ∧ W'.cell? ⟨b, o + 5, none⟩ = some (.int .i64 op2) ∧ W'.cell? ⟨b, o + 5 + 1, none⟩ = some (.int .i64 n2) ∧ W'.cell? ⟨b, o + 5 + 2, none⟩ = some (.string nm2) ∧ W'.cell? ⟨b, o + 5 + 3, none⟩ = some (.string fd2) ∧ W'.cell? ⟨b, o + 5 + 4, none⟩ = some (.slice la2 ln2 lc2))
    (first | with_reducible exact HK0.out | with_reducible exact HK2.out | with_reducible exact HK3.out | with_reducible exact HK4.out | with_reducible assumption)
    (first
      | (go_at_call 34; refine (HSg.out _).mono ?_; rintro e3 w3 ⟨rfl, b3⟩; have R3 := Lib.hid (R2'.out.trans (b3.mono R2'.out.size)); have K3 := Lib.hid ((b3.block _ (heap_lt K2.out)).trans K2.out); have HK3 := Lib.hid (HKB.out _ R3.out K3.out); clear b3)
      | (go_at_call 32; refine (HZ.out _ (HBW.out _ R3.out)).mono ?_; rintro e4 w4 ⟨rfl, b4⟩; have R4 := Lib.hid (R3.out.trans (b4.mono R3.out.size)); have K4 := Lib.hid ((b4.block _ (heap_lt K3.out)).trans K3.out); have HK4 := Lib.hid (HKB.out _ R4.out K4.out); clear b4)
      | (go_at_call 32; refine (HY.out _ (HBW.out _ RD.out)).mono ?_; rintro e2 w2 ⟨rfl, b2⟩; have R2' := Lib.hid (RD.out.trans (b2.mono RD.out.size)); have K2 := Lib.hid ((b2.block _ (heap_lt K1.out)).trans K1.out); have HK2 := Lib.hid (HKB.out _ R2'.out K2.out); clear b2))
  all_goals
    go_wp2_with fail
    go_ret
    exact ⟨rfl, R4.out⟩
set_option maxRecDepth 100000 in
set_option maxHeartbeats 8000000 in
theorem rp_two3 {w0 : World} {t : List D → List UInt8} {y z : List D} (hfy : RfFn w0 t y) (hfz : RfFn w0 t z) (hsy : ShE y) (hsz : ShE z) (h1y : 1 ≤ opX y) (h2y : opX y ≤ 24) (h1z : 1 ≤ opX z) (h2z : opX z ≤ 24) {op : Nat} (h10 : 10 ≤ op) (h24 : op ≤ 24) (hlv : (sgnP (op : Int)).lv = 3) (hlf : (sgnP (op : Int)).lf = 3) (hrt : (sgnP (op : Int)).rt = 4) {n : Int} {nm fd : ByteArray} {a : Option Addr} {len c : Nat} {l : List (List D)} (hA : At w0 (.slice a len c) (.row l)) (hy : l[0]? = some y) (hz : l[1]? = some z) (w : World) (hW : Below w0.heap.size w0 w) (hl : (btwP (op : Int) t y z).length ≤ 100000000) :
    Calls Tryz.prog 15 (rpA (op : Nat) n nm fd a len c) w (RpPost (btwP (op : Int) t y z) w) := by
  have hln := hA.len_eq.1
  have h0l : 1 < l.length := (List.getElem?_eq_some_iff.1 hz).1
  obtain ⟨b, o, op1, n1, nm1, fd1, la1, ln1, lc1, rfl, hb, hv, c0, c1, c2, c3, c4⟩ := hA.elemE hy hsy
  obtain ⟨b', o', op2, n2, nm2, fd2, la2, ln2, lc2, hab, hb', hv', e0, e1, e2, e3, e4⟩ := hA.elemE hz hsz
  injection hab with hab
  injection hab with hab1 hab2
  subst hab1 hab2
  rw [show o + 0 * 5 = o by omega] at c0 c1 c2 c3 c4
  rw [show o + 1 * 5 = o + 5 by omega] at e0 e1 e2 e3 e4
  have R0 := Lib.hid ((Below.refl w.heap.size w).alloc (Nat.le_refl _) (.cells #[.int .i64 (op : Nat), .int .i64 n, .string nm, .string fd, .slice (some ⟨b, o, none⟩) len c] 25))
  have K0 := Lib.hid (heap_new w (.cells #[.int .i64 (op : Nat), .int .i64 n, .string nm, .string fd, .slice (some ⟨b, o, none⟩) len c] 25))
  have hlen0 : (0 : Int) < (len : Int) := by omega
  have hlen1 : (1 : Int) < (len : Int) := by omega
  have hlen2 : 1 < len := by omega
  have hlen3 : 0 < len := by omega
  have HB0 := Lib.hid hW
  have hbt : btwP (op : Int) t y z = optP 3 t y ++ [32] ++ (sgnP (op : Int)).t.data.toList ++ [32] ++ optP 4 t z := by unfold btwP; rw [hlf, hrt]; simp
  have hst := sgn_size (op : Int)
  have hl2 : (optP 3 t y).length + (sgnP (op : Int)).t.data.toList.length + (optP 4 t z).length ≤ 99999998 := by rw [hbt] at hl; simp at hl ⊢; omega
  have HLv := Lib.hid (fun (U : World) => rlevelOf_any op (by omega) U)
  rw [lev_sgn op (by omega) h24, hlv] at HLv
  have HSg := Lib.hid (fun (U : World) => rSign_any op h10 h24 U)
  have HY := Lib.hid (fun (U : World) (b : Below w0.heap.size w0 U) => rat_any hfy hsy h1y h2y hv 3 U b (by omega))
  have HZ := Lib.hid (fun (U : World) (b : Below w0.heap.size w0 U) => rat_any hfz hsz h1z h2z hv' 4 U b (by omega))
  rw [hbt]
  generalize optP 3 t y = ty at HY hl2 ⊢
  generalize optP 4 t z = tz at HZ hl2 ⊢
  generalize (sgnP (op : Int)).t = sg at HSg hl2 ⊢
  have a1 : ∀ w, (Op.stringOp .add ⟨ty.toArray⟩ ⟨#[32]⟩).run Tryz.prog w = .ok (.string ⟨(ty ++ [32]).toArray⟩) w := fun w => add_l ty [32] (by simp at hl2 ⊢; omega) w
  have a2 : ∀ w, (Op.stringOp .add ⟨(ty ++ [32]).toArray⟩ sg).run Tryz.prog w = .ok (.string ⟨(ty ++ [32] ++ sg.data.toList).toArray⟩) w := fun w => by
    have := add_l (ty ++ [32]) sg.data.toList (by simp at hl2 ⊢; omega) w
    rwa [ba_bal] at this
  have a3 : ∀ w, (Op.stringOp .add ⟨(ty ++ [32] ++ sg.data.toList).toArray⟩ ⟨#[32]⟩).run Tryz.prog w = .ok (.string ⟨(ty ++ [32] ++ sg.data.toList ++ [32]).toArray⟩) w := fun w => add_l _ [32] (by simp at hl2 ⊢; omega) w
  have a4 : ∀ w, (Op.stringOp .add ⟨(ty ++ [32] ++ sg.data.toList ++ [32]).toArray⟩ ⟨tz.toArray⟩).run Tryz.prog w = .ok (.string ⟨(ty ++ [32] ++ sg.data.toList ++ [32] ++ tz).toArray⟩) w := fun w => add_l _ tz (by simp at hl2 ⊢; omega) w
  unfold RpPost
  generalize (ByteArray.mk (ty ++ [32] ++ sg.data.toList ++ [32] ++ tz).toArray) = X4 at a4 ⊢
  generalize (ByteArray.mk (ty ++ [32] ++ sg.data.toList ++ [32]).toArray) = X3 at a3 a4
  generalize (ByteArray.mk (ty ++ [32] ++ sg.data.toList).toArray) = X2 at a2 a3
  generalize (ByteArray.mk (ty ++ [32]).toArray) = X1 at a1 a2
  generalize (ByteArray.mk ty.toArray) = Y at HY a1
  generalize (ByteArray.mk tz.toArray) = Z at HZ a4
  have KB : ∀ W' : World, Below w.heap.size w W' → W'.heap[w.heap.size]? = some (.cells #[.int .i64 (op : Nat), .int .i64 n, .string nm, .string fd, .slice (some ⟨b, o, none⟩) len c] 25) →
      W'.cell? ⟨w.heap.size, 0, none⟩ = some (.int .i64 (op : Nat)) ∧ W'.cell? ⟨w.heap.size, 4, none⟩ = some (.slice (some ⟨b, o, none⟩) len c) ∧ W'.cell? ⟨b, o, none⟩ = some (.int .i64 op1) ∧ W'.cell? ⟨b, o + 1, none⟩ = some (.int .i64 n1) ∧ W'.cell? ⟨b, o + 2, none⟩ = some (.string nm1) ∧ W'.cell? ⟨b, o + 3, none⟩ = some (.string fd1) ∧ W'.cell? ⟨b, o + 4, none⟩ = some (.slice la1 ln1 lc1) ∧ W'.cell? ⟨b, o + 5, none⟩ = some (.int .i64 op2) ∧ W'.cell? ⟨b, o + 5 + 1, none⟩ = some (.int .i64 n2) ∧ W'.cell? ⟨b, o + 5 + 2, none⟩ = some (.string nm2) ∧ W'.cell? ⟨b, o + 5 + 3, none⟩ = some (.string fd2) ∧ W'.cell? ⟨b, o + 5 + 4, none⟩ = some (.slice la2 ln2 lc2) := fun W' bb e =>
    have B0 := hW.trans (bb.mono hW.size)
    ⟨box_cells e 0, box_cells e 4, (B0.cell (p := ⟨b, o, none⟩) hb).trans c0, (B0.cell (p := ⟨b, o + 1, none⟩) hb).trans c1, (B0.cell (p := ⟨b, o + 2, none⟩) hb).trans c2, (B0.cell (p := ⟨b, o + 3, none⟩) hb).trans c3, (B0.cell (p := ⟨b, o + 4, none⟩) hb).trans c4,
     (B0.cell (p := ⟨b, o + 5, none⟩) hb).trans e0, (B0.cell (p := ⟨b, o + 5 + 1, none⟩) hb).trans e1, (B0.cell (p := ⟨b, o + 5 + 2, none⟩) hb).trans e2, (B0.cell (p := ⟨b, o + 5 + 3, none⟩) hb).trans e3, (B0.cell (p := ⟨b, o + 5 + 4, none⟩) hb).trans e4⟩
  have HKB := Lib.hid KB
  have HBW := Lib.hid (fun (W' : World) (bb : Below w.heap.size w W') => HB0.out.trans (bb.mono HB0.out.size))
  have d1 : ((op : Int) == 1) = false := by simp; omega
  have d2 : ((op : Int) == 2) = false := by simp; omega
  have d3 : ((op : Int) == 3) = false := by simp; omega
  have d4 : ((op : Int) == 4) = false := by simp; omega
  have d5 : ((op : Int) == 5) = false := by simp; omega
  have d6 : ((op : Int) == 6) = false := by simp; omega
  have d7 : ((op : Int) == 7) = false := by simp; omega
  have d8 : ((op : Int) == 8) = false := by simp; omega
  have d9 : ((op : Int) == 9) = false := by simp; omega
  have d25 : ((op : Int) == 25) = false := by simp; omega
  clear hfy hfz hsy hsz h1y h2y h1z h2z h10 h24 hlv hlf hrt hA hy hz hv hv' hl hl2 hbt hst c0 c1 c2 c3 c4 e0 e1 e2 e3 e4 hW hln h0l KB hb'
  go_enter Tryz.func15, Tryz.ntmps15
  go_wp2_with fail
  generalize w.alloc _ = W0 at R0 K0 ⊢
  refine (HLv.out _).mono ?_
  rintro e w1 ⟨rfl, b1⟩
  have R1 := Lib.hid (R0.out.trans (b1.mono R0.out.size))
  have K1 := Lib.hid ((b1.block _ (heap_lt K0.out)).trans K0.out)
  clear b1 R0 K0 HLv
  go_wp2_with fail
  have RD := Lib.hid (below_drew0 R1.out)
  have HK0 := Lib.hid (HKB.out w1.drew RD.out K1.out)
  go_region_held3 (fun W' => W'.cell? ⟨w.heap.size, 0, none⟩ = some (.int .i64 (op : Nat)) ∧ W'.cell? ⟨w.heap.size, 4, none⟩ = some (.slice (some ⟨b, o, none⟩) len c) ∧ W'.cell? ⟨b, o, none⟩ = some (.int .i64 op1) ∧ W'.cell? ⟨b, o + 1, none⟩ = some (.int .i64 n1) ∧ W'.cell? ⟨b, o + 2, none⟩ = some (.string nm1) ∧ W'.cell? ⟨b, o + 3, none⟩ = some (.string fd1) ∧ W'.cell? ⟨b, o + 4, none⟩ = some (.slice la1 ln1 lc1) ∧ W'.cell? ⟨b, o + 5, none⟩ = some (.int .i64 op2) ∧ W'.cell? ⟨b, o + 5 + 1, none⟩ = some (.int .i64 n2) ∧ W'.cell? ⟨b, o + 5 + 2, none⟩ = some (.string nm2) ∧ W'.cell? ⟨b, o + 5 + 3, none⟩ = some (.string fd2) ∧ W'.cell? ⟨b, o + 5 + 4, none⟩ = some (.slice la2 ln2 lc2))
    (first | with_reducible exact HK0.out | with_reducible exact HK2.out | with_reducible exact HK3.out | with_reducible exact HK4.out | with_reducible assumption)
    (first
      | (go_at_call 34; refine (HSg.out _).mono ?_; rintro e3 w3 ⟨rfl, b3⟩; have R3 := Lib.hid (R2'.out.trans (b3.mono R2'.out.size)); have K3 := Lib.hid ((b3.block _ (heap_lt K2.out)).trans K2.out); have HK3 := Lib.hid (HKB.out _ R3.out K3.out); clear b3)
      | (go_at_call 32; refine (HZ.out _ (HBW.out _ R3.out)).mono ?_; rintro e4 w4 ⟨rfl, b4⟩; have R4 := Lib.hid (R3.out.trans (b4.mono R3.out.size)); have K4 := Lib.hid ((b4.block _ (heap_lt K3.out)).trans K3.out); have HK4 := Lib.hid (HKB.out _ R4.out K4.out); clear b4)
      | (go_at_call 32; refine (HY.out _ (HBW.out _ RD.out)).mono ?_; rintro e2 w2 ⟨rfl, b2⟩; have R2' := Lib.hid (RD.out.trans (b2.mono RD.out.size)); have K2 := Lib.hid ((b2.block _ (heap_lt K1.out)).trans K1.out); have HK2 := Lib.hid (HKB.out _ R2'.out K2.out); clear b2))
  all_goals
    go_wp2_with fail
    go_ret
    exact ⟨rfl, R4.out⟩
end Go.Proofs.YtpcldpnaljheoaaGreatDoor
