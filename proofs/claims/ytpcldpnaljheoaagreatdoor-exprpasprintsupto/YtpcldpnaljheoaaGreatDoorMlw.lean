/-
  ExprPasPrints, walked.
-/
import Derived.Test.YtpcldpnaljheoaaGreatDoorMln
import Derived.Test.YtpcldpnaljheoaaGreatDoorMfx
import Derived.Test.YtpcldpnaljheoaaGreatDoorPno
import Derived.Test.YtpcldpnaljheoaaGreatDoorQz8
namespace Go.Proofs.YtpcldpnaljheoaaGreatDoor
open Go.RowKit Go.Deep

set_option maxRecDepth 100000 in
set_option maxHeartbeats 4000000 in
theorem prints_any (w : World) (hG : Gt w) (hT : Tb w) (x : List D) (hx : ShE x) (hb : mRow x ≤ 2000000) (vs : List Value) (hv : AllAt w vs x) :
    Calls Tryz.prog 4 #[.agg ⟨vs⟩] w fun e w' => e = .returned (.bool true) ∧ Below w.heap.size w w' := by
  have HR := Lib.hid (fun (W : World) (hW : Below w.heap.size w W) => refExpr_z w x vs hx hb hv W hW)
  have HV := Lib.hid (fun (W : World) (hW : Below w.heap.size w W) => (hv.sub (sub_low (fun _ => False) hW fun _ h => h.elim)).sub (mk_sub _ _))
  obtain ⟨op, n, nm, fd, kl, kla, klc, hxe, rfl, _⟩ := hv.openE hx
  have R0 := Lib.hid ((Below.refl w.heap.size w).alloc (Nat.le_refl _) (.cells #[.int .i64 op, .int .i64 n, .string nm, .string fd, .slice kla kl.length klc] 25))
  have KP := Lib.hid (heap_new w (.cells #[.int .i64 op, .int .i64 n, .string nm, .string fd, .slice kla kl.length klc] 25))
  have AW := Lib.hid (fun (U : World) (b : Below w.heap.size w U) => awake_any U (hG.below b))
  cases hr : chkE 0 x with
  | false =>
    have HP := Lib.hid (Print_no (HV.out _ R0.out) hx (by rw [hr]; rfl))
    rw [hr] at HR
    clear hv hx hxe hb hG hT hr HV
    go_enter Tryz.func4, Tryz.ntmps4
    go_wp2_with fail
    generalize w.alloc _ = W0 at R0 KP HP ⊢
    refine HP.out.mono ?_
    rintro e w1 ⟨rfl, b1⟩
    have R1 := Lib.hid (R0.out.trans (b1.mono R0.out.size))
    have c1 := box_cells ((b1.block _ (heap_lt KP.out)).trans KP.out)
    clear b1 HP
    go_wp2_with fail
    refine (HR.out _ R1.out).mono ?_
    rintro e w2 ⟨rfl, b2⟩
    have R2' := Lib.hid (R1.out.trans (b2.mono R1.out.size))
    clear b2 c1
    go_wp2_with fail
    refine (AW.out _ R2'.out).mono ?_
    rintro e w3 ⟨rfl, b3⟩
    have R3 := Lib.hid (R2'.out.trans (b3.mono R2'.out.size))
    clear b3
    go_wp2_with fail
    go_ret
    exact ⟨rfl, R3.out⟩
  | true =>
    have hok : okE 0 48 x = true := by unfold chkE at hr; rw [Bool.and_eq_true] at hr; exact hr.2
    have hlen := prT_len 48 x hok hx
    have HP := Lib.hid (Print_of (hG.below R0.out) (HV.out _ R0.out) hx (by rw [hr]; rfl) (t := prT 48) (fun w1 q b G => prT_any 48 x hok hx w1 q (hT.below (R0.out.trans (b.mono R0.out.size)))) (by omega))
    have HQ := Lib.hid (fun (W : World) (hW : Below w.heap.size w W) => rprT_any 48 x hok hx w _ hv W hW (by omega))
    rw [hr] at HR
    generalize (ByteArray.mk (prT 48 x).toArray) = S at HP HQ
    clear hv hx hxe hb hG hT hr HV hok hlen
    go_enter Tryz.func4, Tryz.ntmps4
    go_wp2_with fail
    generalize w.alloc _ = W0 at R0 KP HP ⊢
    refine HP.out.mono ?_
    rintro e w1 ⟨rfl, b1⟩
    have R1 := Lib.hid (R0.out.trans (b1.mono R0.out.size))
    have K1 := Lib.hid ((b1.block _ (heap_lt KP.out)).trans KP.out)
    have c1 := box_cells K1.out
    clear b1 HP
    go_wp2_with fail
    refine (HR.out _ R1.out).mono ?_
    rintro e w2 ⟨rfl, b2⟩
    have R2' := Lib.hid (R1.out.trans (b2.mono R1.out.size))
    have c2 := box_cells ((b2.block _ (heap_lt K1.out)).trans K1.out)
    clear b2 c1
    go_wp2_with fail
    refine (HQ.out _ R2'.out).mono ?_
    rintro e w3 ⟨rfl, b3⟩
    have R3 := Lib.hid (R2'.out.trans (b3.mono R2'.out.size))
    clear b3 c2
    go_wp2_with fail
    refine (AW.out _ R3.out).mono ?_
    rintro e w4 ⟨rfl, b4⟩
    have R4 := Lib.hid (R3.out.trans (b4.mono R3.out.size))
    clear b4
    go_wp2_with fail
    go_ret
    exact ⟨rfl, R4.out⟩
end Go.Proofs.YtpcldpnaljheoaaGreatDoor
