/-
  expr.Print and exprpas.Print, walked, of any expression.
-/
import Derived.Test.YtpcldpnaljheoaaGreatDoorPq9
import Derived.Deep.RegionWith
namespace Go.Proofs.YtpcldpnaljheoaaGreatDoor
open Go.RowKit Go.Deep

set_option maxRecDepth 100000 in
set_option maxHeartbeats 4000000 in
theorem exPrint_of {w : World} (hG : Gt w) {op n : Int} {nm fd : ByteArray} {a : Option Addr} {len c : Nat} {x : List D} (hv : AllAt w [.int .i64 op, .int .i64 n, .string nm, .string fd, .slice a len c] x) (hs : ShE x) (hc : codeOf (chkE 0 x) = 0) {t : List D → List UInt8} (hp : ∀ w1 q, Below w.heap.size w w1 → Gt w1 → PrFn w1 q t x) (hl : (t x).length ≤ 100000000) :
    Calls Tryz.prog 26 #[.int .i64 0, exV op n nm fd a len c, .agg #[.func (.func 27) #[] #[], .func (.func 28) #[] #[]]] w fun e w' => e = .returned (.tuple #[.string ⟨(t x).toArray⟩, .int .i64 0]) ∧ Below w.heap.size w w' := by
  have Z1 := (Below.refl w.heap.size w).alloc (Nat.le_refl _) (.cells #[.int .i64 op, .int .i64 n, .string nm, .string fd, .slice a len c] 25)
  have Z2 := Z1.alloc Z1.size (.cells #[.func (.func 27) #[] #[], .func (.func 28) #[] #[]] 65)
  have k1 := heap_new w (.cells #[.int .i64 op, .int .i64 n, .string nm, .string fd, .slice a len c] 25)
  have k2 := heap_new (w.alloc (.cells #[.int .i64 op, .int .i64 n, .string nm, .string fd, .slice a len c] 25)) (.cells #[.func (.func 27) #[] #[], .func (.func 28) #[] #[]] 65)
  have e1 : (w.alloc (.cells #[.int .i64 op, .int .i64 n, .string nm, .string fd, .slice a len c] 25)).heap.size = w.heap.size + 1 := by simp
  have N2 := (Below.refl _ (w.alloc (.cells #[.int .i64 op, .int .i64 n, .string nm, .string fd, .slice a len c] 25))).alloc (Nat.le_refl _) (.cells #[.func (.func 27) #[] #[], .func (.func 28) #[] #[]] 65)
  rw [e1] at k2 N2
  have K1 := Lib.hid ((N2.block _ (by omega)).trans k1)
  have K2 := Lib.hid k2
  have HZ := Lib.hid Z2
  have HC := Lib.hid (checkExpr_any w 0 x _ hs hv _ Z2)
  rw [hc] at HC
  have HV := Lib.hid (fun (U : World) (b : Below w.heap.size w U) => (hv.sub (sub_low (fun _ => False) b fun _ h => h.elim)).sub (mk_sub _ _))
  have HG := Lib.hid hG
  have HP := Lib.hid hp
  have HL := Lib.hid hl
  clear Z1 Z2 k1 k2 e1 N2 hG hv hs hc hp hl
  go_enter Tryz.func26, Tryz.ntmps26
  go_wp2_with fail
  generalize (w.alloc (.cells #[.int .i64 op, .int .i64 n, .string nm, .string fd, .slice a len c] 25)).alloc (.cells #[.func (.func 27) #[] #[], .func (.func 28) #[] #[]] 65) = W0 at K1 K2 HZ HC ⊢
  refine HC.out.mono ?_
  rintro e w1 ⟨rfl, b1⟩
  have B1 := Lib.hid (HZ.out.trans (b1.mono HZ.out.size))
  have K11 := Lib.hid ((b1.block _ (heap_lt K1.out)).trans K1.out)
  have K12 := Lib.hid ((b1.block _ (heap_lt K2.out)).trans K2.out)
  have g1 := box_cells K11.out
  have g2 := box_cells K12.out
  have l1 := heap_lt K11.out
  have l2 := heap_lt K12.out
  clear b1 HC HZ K1 K2
  go_wp2_with fail
  have KB1 := Lib.hid ((((Below.refl _ _).alloc (Nat.le_refl _) (.cells #[.pointer none, .nilFunc, .nilFunc] 99)).block _ l1).trans K11.out)
  have KB2 := Lib.hid ((((Below.refl _ _).alloc (Nat.le_refl _) (.cells #[.pointer none, .nilFunc, .nilFunc] 99)).block _ l2).trans K12.out)
  have hsf := run_store_func
  go_region_with (first
    | (go_at_call 50; refine (newP _).mono ?_; rintro e5 w5 ⟨rfl, hw5⟩; have K5 : w5.heap[w1.heap.size]? = some (.cells #[.pointer none, .nilFunc, .nilFunc] 99) := new_keeps hw5 (by { simp }) (heap_new w1 _); have g5 := box_cells K5; have f5 : ∀ o, w5.frozen? ⟨w1.heap.size, o, none⟩ = false := fun o => by { simp [World.frozen?, K5] }; have KK := Lib.hid K5; have K51 := Lib.hid (new_keeps hw5 (by { simp; omega }) KB1.out); have K52 := Lib.hid (new_keeps hw5 (by { simp; omega }) KB2.out); have g52 := box_cells K52.out; have l5 := heap_lt KK.out; have l52 := heap_lt K52.out; have N5 := Lib.hid hw5; clear K5 hw5)
    | (go_at_call 50; refine (newP _).mono ?_; rintro e5 w5 ⟨rfl, hw5⟩; have K51 := Lib.hid (new_keeps hw5 (show w.heap.size < w1.heap.size from l1) K11.out); have K52 := Lib.hid (new_keeps hw5 (show w.heap.size + 1 < w1.heap.size from l2) K12.out); have g52 := box_cells K52.out; have l52 := heap_lt K52.out; have N5 := Lib.hid hw5; clear hw5))
  all_goals
    have HG1 := Lib.hid (HG.out.below B1.out)
    have HV1 := Lib.hid (HV.out w1 B1.out)
    have hl0 : ([] : List UInt8).length + (t x).length ≤ 100000000 := by have := HL.out; simpa using this
    first
      | (have BX := Lib.hid (heap_new w5 (.cells #[.pointer (some ⟨w1.heap.size, 0, none⟩), .func (.func 27) #[] #[], .func (.func 28) #[] #[]] 99))
         have NB5 := Lib.hid (new_below N5.out (below_drew0 (Below.refl w1.heap.size w1)))
         have n6 := (Below.refl w5.heap.size w5).alloc (Nat.le_refl _) (.cells #[.pointer (some ⟨w1.heap.size, 0, none⟩), .func (.func 27) #[] #[], .func (.func 28) #[] #[]] 99)
         have SH := Lib.hid ((n6.block w1.heap.size (heap_lt (new_heap N5.out (q := w1.heap.size) rfl))).trans (new_heap N5.out (q := w1.heap.size) rfl))
         have P6 := Lib.hid (show PrI w1 w1.heap.size [] (w5.alloc (.cells #[.pointer (some ⟨w1.heap.size, 0, none⟩), .func (.func 27) #[] #[], .func (.func 28) #[] #[]] 99)) from ⟨(sp_of_heap SH.out).1, fun k hk => Nat.le_of_eq ((sp_of_heap SH.out).2 k hk).symm, NB5.out.trans (n6.mono NB5.out.size), HG1.out⟩)
         have hw5 := heap_lt (new_heap N5.out (q := w1.heap.size) rfl)
         have NB := Lib.hid (show ¬ S.Mine (w5.alloc (.cells #[.pointer (some ⟨w1.heap.size, 0, none⟩), .func (.func 27) #[] #[], .func (.func 28) #[] #[]] 99)) w1.heap.size w5.heap.size from fun m => by have := (sp_of_heap SH.out).2 _ m; omega)
         have K61 := Lib.hid ((n6.block _ (heap_lt K51.out)).trans K51.out)
         generalize (w5.alloc (.cells #[.pointer (some ⟨w1.heap.size, 0, none⟩), .func (.func 27) #[] #[], .func (.func 28) #[] #[]] 99)) = W6 at BX SH P6 NB K61 ⊢
         generalize w5.heap.size = b6 at BX NB ⊢
         clear n6 hw5)
      | (have SH5 := new_heap N5.out (q := w1.heap.size + 1) (by simp)
         have SH := Lib.hid ((set3_ne w5 w1.heap.size (w1.heap.size + 1) (by omega) (.pointer (some ⟨w1.heap.size + 1, 0, none⟩)) (.func (.func 27) #[] #[]) (.func (.func 28) #[] #[])).trans SH5)
         have BX := Lib.hid (heap_setC (o := 2) (heap_setC (o := 1) (heap_setC (o := 0) KK.out (.pointer (some ⟨w1.heap.size + 1, 0, none⟩))) (.func (.func 27) #[] #[])) (.func (.func 28) #[] #[]))
         have NB5 := Lib.hid (new_below N5.out (below_drew0 ((Below.refl w1.heap.size w1).alloc (Nat.le_refl _) _)))
         have P6 := Lib.hid (show PrI w1 (w1.heap.size + 1) [] (((w5.setCell ⟨w1.heap.size, 0, none⟩ (.pointer (some ⟨w1.heap.size + 1, 0, none⟩))).setCell ⟨w1.heap.size, 1, none⟩ (.func (.func 27) #[] #[])).setCell ⟨w1.heap.size, 2, none⟩ (.func (.func 28) #[] #[])) from ⟨(sp_of_heap SH.out).1, fun k hk => by have := (sp_of_heap SH.out).2 k hk; omega, (((NB5.out.setCell (p := ⟨w1.heap.size, 0, none⟩) (Nat.le_refl _) _).setCell (p := ⟨w1.heap.size, 1, none⟩) (Nat.le_refl _) _).setCell (p := ⟨w1.heap.size, 2, none⟩) (Nat.le_refl _) _), HG1.out⟩)
         have NB := Lib.hid (show ¬ S.Mine (((w5.setCell ⟨w1.heap.size, 0, none⟩ (.pointer (some ⟨w1.heap.size + 1, 0, none⟩))).setCell ⟨w1.heap.size, 1, none⟩ (.func (.func 27) #[] #[])).setCell ⟨w1.heap.size, 2, none⟩ (.func (.func 28) #[] #[])) (w1.heap.size + 1) w1.heap.size from fun m => by have := (sp_of_heap SH.out).2 _ m; omega)
         have K61 := Lib.hid ((set3_ne w5 w1.heap.size w.heap.size (by omega) (.pointer (some ⟨w1.heap.size + 1, 0, none⟩)) (.func (.func 27) #[] #[]) (.func (.func 28) #[] #[])).trans K51.out)
         generalize (((w5.setCell ⟨w1.heap.size, 0, none⟩ (.pointer (some ⟨w1.heap.size + 1, 0, none⟩))).setCell ⟨w1.heap.size, 1, none⟩ (.func (.func 27) #[] #[])).setCell ⟨w1.heap.size, 2, none⟩ (.func (.func 28) #[] #[])) = W6 at BX SH P6 NB K61 ⊢
         clear SH5)
    have gb := box_cells BX.out
    have ge := box_cells K61.out
    clear g1 g2
    go_wp2_with fail
    refine (HP.out w1 _ B1.out HG1.out _ HV1.out _ _ P6.out hl0).mono ?_
    rintro e w7 ⟨rfl, p7, d7⟩
    have P7 := Lib.hid p7
    have BX7 := Lib.hid (box_next BX.out NB.out d7)
    have gb7 := box_cells BX7.out.1
    have HB7 := Lib.hid (B1.out.trans (p7.lo.mono B1.out.size))
    obtain ⟨room7, s7, _⟩ := p7.sp.ex
    have HS7 := Lib.hid (S.string_any s7)
    clear p7 d7 s7
    go_wp2_with fail
    refine HS7.out.mono ?_
    rintro e w8 ⟨rfl, rfl⟩
    go_wp2_with fail
    exact bodyPost_ret (v := .tuple #[.string ⟨(t x).toArray⟩, .int .i64 0]) (by simp [results, Tryz.results26, go_sem]) rfl ⟨rfl, HB7.out⟩
set_option maxRecDepth 100000 in
set_option maxHeartbeats 1000000 in
theorem Print_of {w : World} (hG : Gt w) {op n : Int} {nm fd : ByteArray} {a : Option Addr} {len c : Nat} {x : List D} (hv : AllAt w [.int .i64 op, .int .i64 n, .string nm, .string fd, .slice a len c] x) (hs : ShE x) (hc : codeOf (chkE 0 x) = 0) {t : List D → List UInt8} (hp : ∀ w1 q, Below w.heap.size w w1 → Gt w1 → PrFn w1 q t x) (hl : (t x).length ≤ 100000000) :
    Calls Tryz.prog 13 #[exV op n nm fd a len c] w fun e w' => e = .returned (.tuple #[.string ⟨(t x).toArray⟩, .int .i64 0]) ∧ Below w.heap.size w w' := by
  have Z1 := (Below.refl w.heap.size w).alloc (Nat.le_refl _) (.cells #[.int .i64 op, .int .i64 n, .string nm, .string fd, .slice a len c] 25)
  have HP := Lib.hid (exPrint_of (hG.below Z1) ((hv.sub (sub_low (fun _ => False) Z1 fun _ h => h.elim)).sub (mk_sub _ _)) hs hc (fun w1 q b G => hp w1 q (Z1.trans (b.mono Z1.size)) G) hl)
  have K1 := Lib.hid (heap_new w (.cells #[.int .i64 op, .int .i64 n, .string nm, .string fd, .slice a len c] 25))
  have HZ := Lib.hid Z1
  generalize t x = tx at HP ⊢
  clear Z1 hG hv hs hc hp hl
  go_enter Tryz.func13, Tryz.ntmps13
  go_wp2_with fail
  generalize w.alloc (.cells #[.int .i64 op, .int .i64 n, .string nm, .string fd, .slice a len c] 25) = W0 at HP K1 HZ ⊢
  refine HP.out.mono ?_
  rintro e w1 ⟨rfl, b1⟩
  have B1 := Lib.hid (HZ.out.trans (b1.mono HZ.out.size))
  clear b1
  go_wp2_with fail
  exact bodyPost_ret (v := .tuple #[.string ⟨tx.toArray⟩, .int .i64 0]) (by simp [results, Tryz.results13, go_sem]) rfl ⟨rfl, B1.out⟩
end Go.Proofs.YtpcldpnaljheoaaGreatDoor
