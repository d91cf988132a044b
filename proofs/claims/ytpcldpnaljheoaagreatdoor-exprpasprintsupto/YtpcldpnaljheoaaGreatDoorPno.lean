/-
  expr.Print and exprpas.Print, walked, of what can't be printed.
-/
import Derived.Test.YtpcldpnaljheoaaGreatDoorPp9
namespace Go.Proofs.YtpcldpnaljheoaaGreatDoor
open Go.RowKit Go.Deep

set_option maxRecDepth 100000 in
set_option maxHeartbeats 2000000 in
theorem exPrint_no {w : World} {op n : Int} {nm fd : ByteArray} {a : Option Addr} {len c : Nat} {x : List D} (hv : AllAt w [.int .i64 op, .int .i64 n, .string nm, .string fd, .slice a len c] x) (hs : ShE x) (hc : codeOf (chkE 0 x) = 1) :
    Calls Tryz.prog 26 #[.int .i64 0, exV op n nm fd a len c, .agg #[.func (.func 27) #[] #[], .func (.func 28) #[] #[]]] w fun e w' => e = .returned (.tuple #[.string ⟨#[]⟩, .int .i64 1]) ∧ Below w.heap.size w w' := by
  have Z1 := (Below.refl w.heap.size w).alloc (Nat.le_refl _) (.cells #[.int .i64 op, .int .i64 n, .string nm, .string fd, .slice a len c] 25)
  have Z2 := Z1.alloc Z1.size (.cells #[.func (.func 27) #[] #[], .func (.func 28) #[] #[]] 65)
  have HZ := Lib.hid Z2
  have HC := Lib.hid (checkExpr_any w 0 x _ hs hv _ Z2)
  rw [hc] at HC
  clear Z1 Z2 hv hs hc
  go_enter Tryz.func26, Tryz.ntmps26
  go_wp2_with fail
  generalize (w.alloc _).alloc _ = W0 at HZ HC ⊢
  refine HC.out.mono ?_
  rintro e w1 ⟨rfl, b1⟩
  have B1 := Lib.hid (HZ.out.trans (b1.mono HZ.out.size))
  clear b1 HC HZ
  go_wp2_with fail
  exact bodyPost_ret (v := .tuple #[.string ⟨#[]⟩, .int .i64 1]) (by simp [results, Tryz.results26, go_sem]) rfl ⟨rfl, B1.out⟩
set_option maxRecDepth 100000 in
set_option maxHeartbeats 1000000 in
theorem Print_no {w : World} {op n : Int} {nm fd : ByteArray} {a : Option Addr} {len c : Nat} {x : List D} (hv : AllAt w [.int .i64 op, .int .i64 n, .string nm, .string fd, .slice a len c] x) (hs : ShE x) (hc : codeOf (chkE 0 x) = 1) :
    Calls Tryz.prog 13 #[exV op n nm fd a len c] w fun e w' => e = .returned (.tuple #[.string ⟨#[]⟩, .int .i64 1]) ∧ Below w.heap.size w w' := by
  have Z1 := (Below.refl w.heap.size w).alloc (Nat.le_refl _) (.cells #[.int .i64 op, .int .i64 n, .string nm, .string fd, .slice a len c] 25)
  have HP := Lib.hid (exPrint_no ((hv.sub (sub_low (fun _ => False) Z1 fun _ h => h.elim)).sub (mk_sub _ _)) hs hc)
  have HZ := Lib.hid Z1
  clear Z1 hv hs hc
  go_enter Tryz.func13, Tryz.ntmps13
  go_wp2_with fail
  generalize w.alloc _ = W0 at HP HZ ⊢
  refine HP.out.mono ?_
  rintro e w1 ⟨rfl, b1⟩
  have B1 := Lib.hid (HZ.out.trans (b1.mono HZ.out.size))
  clear b1
  go_wp2_with fail
  exact bodyPost_ret (v := .tuple #[.string ⟨#[]⟩, .int .i64 1]) (by simp [results, Tryz.results13, go_sem]) rfl ⟨rfl, B1.out⟩
end Go.Proofs.YtpcldpnaljheoaaGreatDoor
