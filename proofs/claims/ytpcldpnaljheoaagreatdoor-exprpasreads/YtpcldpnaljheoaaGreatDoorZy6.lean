/-
  Texts of this proof, put together.
-/
import Derived.Test.YtpcldpnaljheoaaGreatDoorZz2
import Derived.Test.YtpcldpnaljheoaaGreatDoorZz5
import Derived.Deep.RegionWith
import Derived.Test.YtpcldpnaljheoaaGreatDoorCards
import Derived.Test.YtpcldpnaljheoaaGreatDoorTie
import Derived.WalkKit
import Derived.ProofKit
import Derived.OpenShut
import Derived.ShutString
import Derived.ChangeOld
import Derived.Below
import Derived.Lib.LaidTab
import Derived.Deep.DeepHandedRow
import Derived.Deep.MidRow
import Derived.Stop.LaidErr
import Derived.Lay
import Derived.Test.YtpcldpnaljheoaaGreatDoorZz4
import Derived.Test.YtpcldpnaljheoaaGreatDoorZz1
import Derived.Laws.StructEq
import Derived.Shelf.SlicesE.Kit
import Derived.StillTailTactics
import Derived.Lib.QuietBelow
section
namespace Go.Proofs.YtpcldpnaljheoaaGreatDoor
open Go.RowKit Go.Deep Go.Maps

theorem ShE.len5 {x : List D} (h : ShE x) : x.length = 5 := by cases h; rfl
def CaS (w : World) (d : Int) (ar : Nat) (op n : Int) (nm fd : ByteArray) (la : Option Addr) (l : List (List D)) (lc : Nat) (W : World) : Prop := W.cell? ⟨w.heap.size, 0, none⟩ = some (.int .i64 d) ∧ W.cell? ⟨w.heap.size, 1, none⟩ = some (.int .i64 ar) ∧ W.cell? ⟨w.heap.size + 1, 0, none⟩ = some (.int .i64 op) ∧ W.cell? ⟨w.heap.size + 1, 1, none⟩ = some (.int .i64 n) ∧ W.cell? ⟨w.heap.size + 1, 2, none⟩ = some (.string nm) ∧ W.cell? ⟨w.heap.size + 1, 3, none⟩ = some (.string fd) ∧ W.cell? ⟨w.heap.size + 1, 4, none⟩ = some (.slice la l.length lc) ∧ Since w W
theorem CaS.step {w : World} {d : Int} {ar : Nat} {op n : Int} {nm fd : ByteArray} {la : Option Addr} {l : List (List D)} {lc : Nat} {W W' : World} (h : CaS w d ar op n nm fd la l lc W) (b : Below W.heap.size W W') : CaS w d ar op n nm fd la l lc W' := by
  obtain ⟨h1, h2, h3, h4, h5, h6, h7, h8⟩ := h
  exact ⟨cell_stays h1 b, cell_stays h2 b, cell_stays h3 b, cell_stays h4 b, cell_stays h5 b, cell_stays h6 b, cell_stays h7 b, h8.step b⟩
end Go.Proofs.YtpcldpnaljheoaaGreatDoor
end
section
namespace Go.Proofs.YtpcldpnaljheoaaGreatDoor
open Go.RowKit Go.Deep Go.Maps

set_option maxRecDepth 100000 in
set_option maxHeartbeats 2000000 in
theorem expr_deep (d op n : Int) (nm fd : ByteArray) (kla : Option Addr) (len klc : Nat) (w : World) :
    Calls Tryz.prog 91 #[.agg #[.int .i64 d, .int .i64 48], .agg #[.int .i64 op, .int .i64 n, .string nm, .string fd, .slice kla len klc]] w fun e w' => e = .returned (.bool false) ∧ Below w.heap.size w w' := by
  have R0 := Lib.hid ((((Below.refl w.heap.size w).alloc (Nat.le_refl _) (.cells #[.int .i64 d, .int .i64 48] 140)).alloc (by simp) (.cells #[.int .i64 op, .int .i64 n, .string nm, .string fd, .slice kla len klc] 25)).alloc (by simp; omega) (.cells #[.int .i64 d, .int .i64 48] 140))
  go_enter Tryz.func91, Tryz.ntmps91
  go_wp2_with fail
  refine (tooDeep_any d 48 _).mono ?_
  rintro e w1 ⟨rfl, rfl⟩
  rw [show decide ((48 : Int) ≤ 48) = true from rfl]
  go_wp2_with fail
  go_ret
  exact ⟨rfl, R0.out⟩
/-- No call stands in it. -/
def nocall : Nat → List D → Bool
  | 0, _ => true
  | k + 1, [.int op, .int _, .str _, .str _, .row l] => !(op == 7) && l.all (nocall k)
  | _ + 1, _ => true
theorem cexpr_any (w0 : World) (d : Int) : ∀ (k ar : Nat), ar + k = 48 → ∀ (x : List D) (vs : List Value), nocall k x = true → ShE x → AllAt w0 vs x → ∀ W, Below w0.heap.size w0 W →
    Calls Tryz.prog 91 #[.agg #[.int .i64 d, .int .i64 ar], .agg ⟨vs⟩] W fun e W' => e = .returned (.bool (okE d k x)) ∧ Below W.heap.size W W'
  | 0, ar, hk, x, vs, _, hx, hv, W, hW => by
    obtain ⟨op, n, nm, fd, kl, kla, klc, rfl, rfl, _⟩ := hv.openE hx
    obtain rfl : ar = 48 := by omega
    exact expr_deep d op n nm fd kla kl.length klc W
  | k + 1, ar, hk, x, vs, hn, hx, hv, W, hW => by
    obtain ⟨op, n, nm, fd, kl, kla, klc, rfl, rfl, _, _, hnm, hfd, akl, skl⟩ := hv.openE hx
    unfold nocall at hn
    rw [Bool.and_eq_true] at hn
    have hf : OkFn w0 91 (.agg #[.int .i64 d, .int .i64 ((ar + 1 : Nat) : Int)]) kl (okE d k) := fun y hy us hu U hU => cexpr_any w0 d k (ar + 1) (by omega) y us (List.all_eq_true.1 hn.2 y hy) (skl y hy) hu U hU
    have hop : (op == 7) = false := by simpa using hn.1
    rw [show okE d (k + 1) [.int op, .int n, .str nm, .str fd, .row kl] = formE d op n nm fd kl (okE d k) by simp [okE, hop]]
    exact expr_form w0 d ar k (by omega) op n nm fd kla kl klc hop hnm hfd akl skl hf W hW
end Go.Proofs.YtpcldpnaljheoaaGreatDoor
end
section
namespace Go.Proofs.YtpcldpnaljheoaaGreatDoor
open Go.RowKit Go.Deep Go.Maps

def codeOf (b : Bool) : Int := if b then 0 else 1
def chkE (d : Int) (x : List D) : Bool := knows d && okE d 48 x
set_option maxRecDepth 100000 in
set_option maxHeartbeats 2000000 in
theorem checkExpr_any (w0 : World) (d : Int) (x : List D) (vs : List Value) (hn : nocall 48 x = true) (hx : ShE x) (hv : AllAt w0 vs x) (w : World) (hW : Below w0.heap.size w0 w) :
    Calls Tryz.prog 49 #[.int .i64 d, .agg ⟨vs⟩] w fun e w' => e = .returned (.int .i64 (codeOf (chkE d x))) ∧ Below w.heap.size w w' := by
  have HE := Lib.hid (fun (W : World) (hW : Below w0.heap.size w0 W) => cexpr_any w0 d 48 0 rfl x vs hn hx hv W hW)
  obtain ⟨op, n, nm, fd, kl, kla, klc, hxe, rfl, _⟩ := hv.openE hx
  have HW := Lib.hid hW
  have HX := Lib.hid hxe
  clear hW hv hx hxe hn
  have R0 := Lib.hid (((Below.refl w.heap.size w).alloc (Nat.le_refl _) (.cells #[.int .i64 op, .int .i64 n, .string nm, .string fd, .slice kla kl.length klc] 25)).alloc (by simp) (.cells #[.int .i64 d, .int .i64 0] 140))
  have KQ := Lib.hid (box_first w (.cells #[.int .i64 op, .int .i64 n, .string nm, .string fd, .slice kla kl.length klc] 25) (.cells #[.int .i64 d, .int .i64 0] 140))
  have KP := Lib.hid (box_second w (.cells #[.int .i64 op, .int .i64 n, .string nm, .string fd, .slice kla kl.length klc] 25) (.cells #[.int .i64 d, .int .i64 0] 140))
  go_enter Tryz.func49, Tryz.ntmps49
  go_wp2_with fail
  refine (knows_any d 0 _).mono ?_
  rintro e w1 ⟨rfl, hw1⟩
  have b1 := (Below.refl _ ((w.alloc (.cells #[.int .i64 op, .int .i64 n, .string nm, .string fd, .slice kla kl.length klc] 25)).alloc (.cells #[.int .i64 d, .int .i64 0] 140))).alloc (Nat.le_refl _) (.cells #[.int .i64 d, .int .i64 0] 140)
  rw [← hw1] at b1
  clear hw1
  have R1 := Lib.hid (R0.out.trans (b1.mono R0.out.size))
  have cP1 := box_cells ((b1.block _ (heap_lt KP.out)).trans KP.out)
  have cQ1 := box_cells ((b1.block _ (heap_lt KQ.out)).trans KQ.out)
  clear b1
  cases hkn : knows d with
  | false =>
    have HO := Lib.hid (show chkE d x = false by unfold chkE; rw [hkn]; rfl)
    go_wp2_with fail
    refine (told_no _).mono ?_
    rintro e w2 ⟨rfl, rfl⟩
    go_wp2_with fail
    go_ret
    exact ⟨by rw [HO.out]; rfl, R1.out⟩
  | true =>
    have HO := Lib.hid (show chkE d x = okE d 48 x by unfold chkE; rw [hkn]; rfl)
    go_wp2_with fail
    refine (HE.out _ (HW.out.trans (R1.out.mono HW.out.size))).mono ?_
    rintro e w2 ⟨rfl, b2⟩
    have R2 := Lib.hid (R1.out.trans (b2.mono R1.out.size))
    clear b2 cP1 cQ1
    cases hr : okE d 48 x with
    | false =>
      go_wp2_with fail
      refine (told_no _).mono ?_
      rintro e w2 ⟨rfl, rfl⟩
      go_wp2_with fail
      go_ret
      exact ⟨by rw [HO.out, hr]; rfl, R2.out⟩
    | true =>
      go_wp2_with fail
      refine (told_yes _).mono ?_
      rintro e w2 ⟨rfl, rfl⟩
      go_wp2_with fail
      go_ret
      exact ⟨by rw [HO.out, hr]; rfl, R2.out⟩
end Go.Proofs.YtpcldpnaljheoaaGreatDoor
end
section
namespace Go.Proofs.YtpcldpnaljheoaaGreatDoor
open Go.RowKit Go.Deep

theorem run_store_func (g : Nat) (a : Addr) (w : World) (m : Mode) : (store a (.func (.func g) #[] #[]) m).run Tryz.prog w = stored Tryz.prog w a (.func (.func g) #[] #[]) m := run_store _ w a _ m rfl
def NewP (U w' : World) : Prop := w' = U.alloc (.cells #[.slice none 0 0, .int .i64 (9223372036854775807 : Nat), .int .i64 0, .bool false] 146)
theorem newP (U : World) : Calls Tryz.prog 50 #[.int .i64 9223372036854775807] U fun e w' => e = .returned (.pointer (some ⟨U.heap.size, 0, none⟩)) ∧ NewP U w' := S.new_any 9223372036854775807 9223372036854775807 (by omega) U
theorem new_keeps {U w' : World} (h : NewP U w') {b : Nat} (hb : b < U.heap.size) {o : Obj} (ho : U.heap[b]? = some o) : w'.heap[b]? = some o := by
  rw [show w' = _ from h]
  exact (((Below.refl _ _).alloc (Nat.le_refl _) _).block _ hb).trans ho
theorem sp_of_heap {W : World} {q : Nat} (h : W.heap[q]? = some (.cells #[.slice none 0 0, .int .i64 (9223372036854775807 : Nat), .int .i64 0, .bool false] 146)) : SP q [] W ∧ ∀ k, S.Mine W q k → k = q :=
  ⟨⟨⟨9223372036854775807, ⟨_, h, World.ownsRow_nil _ _ _ _, fun h => by cases h⟩, rfl⟩, Nat.zero_le _⟩, fun k hk => by
    rcases (S.mine_of h k).1 hk with g | g
    · exact g
    · cases g⟩
theorem new_heap {U w' : World} (h : NewP U w') {q : Nat} (hq : U.heap.size = q) : w'.heap[q]? = some (.cells #[.slice none 0 0, .int .i64 (9223372036854775807 : Nat), .int .i64 0, .bool false] 146) := by
  subst hq
  rw [show w' = _ from h]
  exact heap_new _ _
theorem new_below {U w' w1 : World} (h : NewP U w') (hb : Below w1.heap.size w1 U) : Below w1.heap.size w1 w' := by
  rw [show w' = _ from h]
  exact hb.alloc hb.size _
theorem set3_ne (W : World) (b k : Nat) (hk : k ≠ b) (v0 v1 v2 : Value) : (((W.setCell ⟨b, 0, none⟩ v0).setCell ⟨b, 1, none⟩ v1).setCell ⟨b, 2, none⟩ v2).heap[k]? = W.heap[k]? := by
  rw [Below.heap_setCell _ _ _ _ hk, Below.heap_setCell _ _ _ _ hk, Below.heap_setCell _ _ _ _ hk]
set_option maxRecDepth 100000 in
set_option maxHeartbeats 4000000 in
theorem exPrint_ok {w : World} (hG : Gt w) {op n : Int} {nm fd : ByteArray} {a : Option Addr} {len c : Nat} {x : List D} (hv : AllAt w [.int .i64 op, .int .i64 n, .string nm, .string fd, .slice a len c] x) (hs : ShE x) (hn : nocall 48 x = true) (hc : codeOf (chkE 0 x) = 0) {t : List D → List UInt8} (hp : ∀ w0 q, Gt w0 → PrFn w0 q t x) (hl : (t x).length ≤ 100000000) :
    Calls Tryz.prog 26 #[.int .i64 0, exV op n nm fd a len c, .agg #[.func (.func 27) #[] #[], .func (.func 28) #[] #[]]] w fun e w' => e = .returned (.tuple #[.string ⟨(t x).toArray⟩, .int .i64 0]) ∧ Below w.heap.size w w' := by
  have Z1 := (Below.refl w.heap.size w).alloc (Nat.le_refl _) (.cells #[.int .i64 op, .int .i64 n, .string nm, .string fd, .slice a len c] 25)
  have Z2 := Z1.alloc Z1.size (.cells #[.func (.func 27) #[] #[], .func (.func 28) #[] #[]] 65)
  have k1 := heap_new w (.cells #[.int .i64 op, .int .i64 n, .string nm, .string fd, .slice a len c] 25)
  have k2 := heap_new (w.alloc (.cells #[.int .i64 op, .int .i64 n, .string nm, .string fd, .slice a len c] 25)) (.cells #[.func (.func 27) #[] #[], .func (.func 28) #[] #[]] 65)
  have e1 : (w.alloc (.cells #[.int .i64 op, .int .i64 n, .string nm, .string fd, .slice a len c] 25)).heap.size = w.heap.size + 1 := by simp
  have N2 := (Below.refl _ (w.alloc (.cells #[.int .i64 op, .int .i64 n, .string nm, .string fd, .slice a len c] 25))).alloc (Nat.le_refl _) (.cells #[.func (.func 27) #[] #[], .func (.func 28) #[] #[]] 65)
  rw [e1] at k2 N2
  have K1 := Lib.hid ((N2.block _ (by omega)).trans k1)
  have K2 := Lib.hid k2
  have HZ := Lib.hid Z2
  have HC := Lib.hid (checkExpr_any w 0 x _ hn hs hv _ Z2)
  rw [hc] at HC
  have HV := Lib.hid (fun (U : World) (b : Below w.heap.size w U) => (hv.sub (sub_low (fun _ => False) b fun _ h => h.elim)).sub (mk_sub _ _))
  have HG := Lib.hid hG
  have HP := Lib.hid hp
  have HL := Lib.hid hl
  clear Z1 Z2 k1 k2 e1 N2 hG hv hs hn hc hp hl
  go_enter Tryz.func26, Tryz.ntmps26
  go_wp2_with fail
  generalize (w.alloc (.cells #[.int .i64 op, .int .i64 n, .string nm, .string fd, .slice a len c] 25)).alloc (.cells #[.func (.func 27) #[] #[], .func (.func 28) #[] #[]] 65) = W0 at K1 K2 HZ HC ⊢
  refine HC.out.mono ?_
  rintro e w1 ⟨rfl, b1⟩
  have B1 := Lib.hid (HZ.out.trans (b1.mono HZ.out.size))
  have K11 := Lib.hid ((b1.block _ (heap_lt K1.out)).trans K1.out)
  have K12 := Lib.hid ((b1.block _ (heap_lt K2.out)).trans K2.out)
  have g1 := box_cells K11.out
  have g2 := box_cells K12.out
  have l1 := heap_lt K11.out
  have l2 := heap_lt K12.out
  clear b1 HC HZ K1 K2
  go_wp2_with fail
  have KB1 := Lib.hid ((((Below.refl _ _).alloc (Nat.le_refl _) (.cells #[.pointer none, .nilFunc, .nilFunc] 99)).block _ l1).trans K11.out)
  have KB2 := Lib.hid ((((Below.refl _ _).alloc (Nat.le_refl _) (.cells #[.pointer none, .nilFunc, .nilFunc] 99)).block _ l2).trans K12.out)
  have hsf := run_store_func
  go_region_with (first
    | (go_at_call 50; refine (newP _).mono ?_; rintro e5 w5 ⟨rfl, hw5⟩; have K5 : w5.heap[w1.heap.size]? = some (.cells #[.pointer none, .nilFunc, .nilFunc] 99) := new_keeps hw5 (by { simp }) (heap_new w1 _); have g5 := box_cells K5; have f5 : ∀ o, w5.frozen? ⟨w1.heap.size, o, none⟩ = false := fun o => by { simp [World.frozen?, K5] }; have KK := Lib.hid K5; have K51 := Lib.hid (new_keeps hw5 (by { simp; omega }) KB1.out); have K52 := Lib.hid (new_keeps hw5 (by { simp; omega }) KB2.out); have g52 := box_cells K52.out; have l5 := heap_lt KK.out; have l52 := heap_lt K52.out; have N5 := Lib.hid hw5; clear K5 hw5)
    | (go_at_call 50; refine (newP _).mono ?_; rintro e5 w5 ⟨rfl, hw5⟩; have K51 := Lib.hid (new_keeps hw5 (show w.heap.size < w1.heap.size from l1) K11.out); have K52 := Lib.hid (new_keeps hw5 (show w.heap.size + 1 < w1.heap.size from l2) K12.out); have g52 := box_cells K52.out; have l52 := heap_lt K52.out; have N5 := Lib.hid hw5; clear hw5))
  all_goals
    have HG1 := Lib.hid (HG.out.below B1.out)
    have HV1 := Lib.hid (HV.out w1 B1.out)
    have hl0 : ([] : List UInt8).length + (t x).length ≤ 100000000 := by have := HL.out; simpa using this
    first
      | (have BX := Lib.hid (heap_new w5 (.cells #[.pointer (some ⟨w1.heap.size, 0, none⟩), .func (.func 27) #[] #[], .func (.func 28) #[] #[]] 99))
         have NB5 := Lib.hid (new_below N5.out (below_drew0 (Below.refl w1.heap.size w1)))
         have n6 := (Below.refl w5.heap.size w5).alloc (Nat.le_refl _) (.cells #[.pointer (some ⟨w1.heap.size, 0, none⟩), .func (.func 27) #[] #[], .func (.func 28) #[] #[]] 99)
         have SH := Lib.hid ((n6.block w1.heap.size (heap_lt (new_heap N5.out (q := w1.heap.size) rfl))).trans (new_heap N5.out (q := w1.heap.size) rfl))
         have P6 := Lib.hid (show PrI w1 w1.heap.size [] (w5.alloc (.cells #[.pointer (some ⟨w1.heap.size, 0, none⟩), .func (.func 27) #[] #[], .func (.func 28) #[] #[]] 99)) from ⟨(sp_of_heap SH.out).1, fun k hk => Nat.le_of_eq ((sp_of_heap SH.out).2 k hk).symm, NB5.out.trans (n6.mono NB5.out.size), HG1.out⟩)
         have hw5 := heap_lt (new_heap N5.out (q := w1.heap.size) rfl)
         have NB := Lib.hid (show ¬ S.Mine (w5.alloc (.cells #[.pointer (some ⟨w1.heap.size, 0, none⟩), .func (.func 27) #[] #[], .func (.func 28) #[] #[]] 99)) w1.heap.size w5.heap.size from fun m => by have := (sp_of_heap SH.out).2 _ m; omega)
         have K61 := Lib.hid ((n6.block _ (heap_lt K51.out)).trans K51.out)
         generalize (w5.alloc (.cells #[.pointer (some ⟨w1.heap.size, 0, none⟩), .func (.func 27) #[] #[], .func (.func 28) #[] #[]] 99)) = W6 at BX SH P6 NB K61 ⊢
         generalize w5.heap.size = b6 at BX NB ⊢
         clear n6 hw5)
      | (have SH5 := new_heap N5.out (q := w1.heap.size + 1) (by simp)
         have SH := Lib.hid ((set3_ne w5 w1.heap.size (w1.heap.size + 1) (by omega) (.pointer (some ⟨w1.heap.size + 1, 0, none⟩)) (.func (.func 27) #[] #[]) (.func (.func 28) #[] #[])).trans SH5)
         have BX := Lib.hid (heap_setC (o := 2) (heap_setC (o := 1) (heap_setC (o := 0) KK.out (.pointer (some ⟨w1.heap.size + 1, 0, none⟩))) (.func (.func 27) #[] #[])) (.func (.func 28) #[] #[]))
         have NB5 := Lib.hid (new_below N5.out (below_drew0 ((Below.refl w1.heap.size w1).alloc (Nat.le_refl _) _)))
         have P6 := Lib.hid (show PrI w1 (w1.heap.size + 1) [] (((w5.setCell ⟨w1.heap.size, 0, none⟩ (.pointer (some ⟨w1.heap.size + 1, 0, none⟩))).setCell ⟨w1.heap.size, 1, none⟩ (.func (.func 27) #[] #[])).setCell ⟨w1.heap.size, 2, none⟩ (.func (.func 28) #[] #[])) from ⟨(sp_of_heap SH.out).1, fun k hk => by have := (sp_of_heap SH.out).2 k hk; omega, (((NB5.out.setCell (p := ⟨w1.heap.size, 0, none⟩) (Nat.le_refl _) _).setCell (p := ⟨w1.heap.size, 1, none⟩) (Nat.le_refl _) _).setCell (p := ⟨w1.heap.size, 2, none⟩) (Nat.le_refl _) _), HG1.out⟩)
         have NB := Lib.hid (show ¬ S.Mine (((w5.setCell ⟨w1.heap.size, 0, none⟩ (.pointer (some ⟨w1.heap.size + 1, 0, none⟩))).setCell ⟨w1.heap.size, 1, none⟩ (.func (.func 27) #[] #[])).setCell ⟨w1.heap.size, 2, none⟩ (.func (.func 28) #[] #[])) (w1.heap.size + 1) w1.heap.size from fun m => by have := (sp_of_heap SH.out).2 _ m; omega)
         have K61 := Lib.hid ((set3_ne w5 w1.heap.size w.heap.size (by omega) (.pointer (some ⟨w1.heap.size + 1, 0, none⟩)) (.func (.func 27) #[] #[]) (.func (.func 28) #[] #[])).trans K51.out)
         generalize (((w5.setCell ⟨w1.heap.size, 0, none⟩ (.pointer (some ⟨w1.heap.size + 1, 0, none⟩))).setCell ⟨w1.heap.size, 1, none⟩ (.func (.func 27) #[] #[])).setCell ⟨w1.heap.size, 2, none⟩ (.func (.func 28) #[] #[])) = W6 at BX SH P6 NB K61 ⊢
         clear SH5)
    have gb := box_cells BX.out
    have ge := box_cells K61.out
    clear g1 g2
    go_wp2_with fail
    refine (HP.out w1 _ HG1.out _ HV1.out _ _ P6.out hl0).mono ?_
    rintro e w7 ⟨rfl, p7, d7⟩
    have P7 := Lib.hid p7
    have BX7 := Lib.hid (box_next BX.out NB.out d7)
    have gb7 := box_cells BX7.out.1
    have HB7 := Lib.hid (B1.out.trans (p7.lo.mono B1.out.size))
    obtain ⟨room7, s7, _⟩ := p7.sp.ex
    have HS7 := Lib.hid (S.string_any s7)
    clear p7 d7 s7
    go_wp2_with fail
    refine HS7.out.mono ?_
    rintro e w8 ⟨rfl, rfl⟩
    go_wp2_with fail
    exact bodyPost_ret (v := .tuple #[.string ⟨(t x).toArray⟩, .int .i64 0]) (by simp [results, Tryz.results26, go_sem]) rfl ⟨rfl, HB7.out⟩
set_option maxRecDepth 100000 in
set_option maxHeartbeats 1000000 in
theorem Print_ok {w : World} (hG : Gt w) {op n : Int} {nm fd : ByteArray} {a : Option Addr} {len c : Nat} {x : List D} (hv : AllAt w [.int .i64 op, .int .i64 n, .string nm, .string fd, .slice a len c] x) (hs : ShE x) (hn : nocall 48 x = true) (hc : codeOf (chkE 0 x) = 0) {t : List D → List UInt8} (hp : ∀ w0 q, Gt w0 → PrFn w0 q t x) (hl : (t x).length ≤ 100000000) :
    Calls Tryz.prog 13 #[exV op n nm fd a len c] w fun e w' => e = .returned (.tuple #[.string ⟨(t x).toArray⟩, .int .i64 0]) ∧ Below w.heap.size w w' := by
  have Z1 := (Below.refl w.heap.size w).alloc (Nat.le_refl _) (.cells #[.int .i64 op, .int .i64 n, .string nm, .string fd, .slice a len c] 25)
  have HP := Lib.hid (exPrint_ok (hG.below Z1) ((hv.sub (sub_low (fun _ => False) Z1 fun _ h => h.elim)).sub (mk_sub _ _)) hs hn hc hp hl)
  have K1 := Lib.hid (heap_new w (.cells #[.int .i64 op, .int .i64 n, .string nm, .string fd, .slice a len c] 25))
  have HZ := Lib.hid Z1
  generalize t x = tx at HP ⊢
  clear Z1 hG hv hs hn hc hp hl
  go_enter Tryz.func13, Tryz.ntmps13
  go_wp2_with fail
  generalize w.alloc (.cells #[.int .i64 op, .int .i64 n, .string nm, .string fd, .slice a len c] 25) = W0 at HP K1 HZ ⊢
  refine HP.out.mono ?_
  rintro e w1 ⟨rfl, b1⟩
  have B1 := Lib.hid (HZ.out.trans (b1.mono HZ.out.size))
  clear b1
  go_wp2_with fail
  exact bodyPost_ret (v := .tuple #[.string ⟨tx.toArray⟩, .int .i64 0]) (by simp [results, Tryz.results13, go_sem]) rfl ⟨rfl, B1.out⟩
end Go.Proofs.YtpcldpnaljheoaaGreatDoor
end
section
namespace Go.Proofs.YtpcldpnaljheoaaGreatDoor
open Go.RowKit Go.Deep

def prP : Nat → List D → List UInt8
  | 0, _ => []
  | k + 1, [.int op, .int _, .str nm, .str _, .row l] =>
    if op = 4 then nm.data.toList
    else match l with
      | [y] => if op = 8 ∨ op = 9 then ahdP op (prP k) y else []
      | [y, z] => if 10 ≤ op ∧ op ≤ 24 then btwP op (prP k) y z else []
      | _ => []
  | _ + 1, _ => []
inductive OkR : Nat → List D → Prop
  | var (k : Nat) (n : Int) (nm fd : ByteArray) (l : List (List D)) : nm.size ≤ maxLen → OkR (k + 1) [.int 4, .int n, .str nm, .str fd, .row l]
  | ahd (k : Nat) (op n : Int) (nm fd : ByteArray) (y : List D) : (op = 8 ∨ op = 9) → OkR k y → OkR (k + 1) [.int op, .int n, .str nm, .str fd, .row [y]]
  | btw (k : Nat) (op n : Int) (nm fd : ByteArray) (y z : List D) : (10 ≤ op ∧ op ≤ 24) → OkR k y → OkR k z → OkR (k + 1) [.int op, .int n, .str nm, .str fd, .row [y, z]]
theorem okR_op {k : Nat} {x : List D} (h : OkR k x) : opX x ≤ 24 := by
  cases h with
  | var k n nm fd l _ => show (4 : Int) ≤ 24; omega
  | ahd k op n nm fd y h _ => show op ≤ 24; omega
  | btw k op n nm fd y z h _ _ => exact h.2
theorem sgn_size (op : Int) : (sgnP op).t.size ≤ 100 := by
  have h : ∀ k, k < 15 → ((signsP[k]?).getD ⟨#[]⟩).size ≤ 100 := by decide
  unfold sgnP
  split
  · decide
  · split
    · decide
    · split
      · rename_i h3
        have := h (op - 10).toNat (by omega)
        unfold tabS
        split
        · exact this
        · split <;> exact this
      · decide
theorem pr_any {k : Nat} {x : List D} (hx : OkR k x) : ShE x → ∀ w0 q, PrFn w0 q (prP k) x := by
  induction hx with
  | var k n nm fd l hn =>
    intro hs w0 q vs hv acc W h hl
    obtain ⟨op', n', nm', fd', kl, kla, klc, e, rfl, _⟩ := hv.openE hs
    injection e with e1 e; injection e with e2 e; injection e with e3 e; injection e with e4 e
    injection e1 with e1; injection e3 with e3
    subst e1 e3
    exact pr_var hn h hl
  | ahd k op n nm fd y hop hy ih =>
    intro hs w0 q vs hv acc W h hl
    obtain ⟨op', n', nm', fd', kl, kla, klc, e, rfl, _, _, _, _, hA, hks⟩ := hv.openE hs
    injection e with e1 e; injection e with e2 e; injection e with e3 e; injection e with e4 e; injection e with e5 e
    injection e1 with e1; injection e5 with e5
    subst e1 e5
    have hpe : prP (k + 1) [.int op, .int n, .str nm, .str fd, .row [y]] = ahdP op (prP k) y := by
      unfold prP
      rw [if_neg (by omega)]
      dsimp only
      rw [if_pos hop]
    rw [hpe] at hl ⊢
    have hsy := hks y (List.mem_singleton.2 rfl)
    refine pr_ahead hop h fun U p => ?_
    exact ahead_any (ih hsy w0 q) hsy (okR_op hy) (by omega) hA rfl p hl (sgn_size op)
  | btw k op n nm fd y z hop hy hz ih ih' =>
    intro hs w0 q vs hv acc W h hl
    obtain ⟨op', n', nm', fd', kl, kla, klc, e, rfl, _, _, _, _, hA, hks⟩ := hv.openE hs
    injection e with e1 e; injection e with e2 e; injection e with e3 e; injection e with e4 e; injection e with e5 e
    injection e1 with e1; injection e5 with e5
    subst e1 e5
    have hpe : prP (k + 1) [.int op, .int n, .str nm, .str fd, .row [y, z]] = btwP op (prP k) y z := by
      unfold prP
      rw [if_neg (by omega)]
      dsimp only
      rw [if_pos hop]
    rw [hpe] at hl ⊢
    have hsy := hks y (by simp)
    have hsz := hks z (by simp)
    refine pr_between hop h fun U p => ?_
    exact between_any (ih hsy w0 q) (ih' hsz w0 q) hsy hsz (okR_op hy) (okR_op hz) hop.2 hA rfl rfl p hl (sgn_size op)
def bA : ByteArray := ⟨#[97]⟩
def bB : ByteArray := ⟨#[98]⟩
def bC : ByteArray := ⟨#[99]⟩
def xA : List D := mkE 4 0 bA noB []
def xB : List D := mkE 4 0 bB noB []
def xC' : List D := mkE 4 0 bC noB []
def xNegA : List D := mkE 8 0 noB noB [xA]
def xMul : List D := mkE 10 0 noB noB [xNegA, xB]
theorem okMul : OkR 3 xMul := .btw 2 10 0 noB noB xNegA xB (by omega) (.ahd 1 8 0 noB noB xA (.inl rfl) (.var 0 0 bA noB [] (by decide))) (.var 1 0 bB noB [] (by decide))
theorem prMul : prP 3 xMul = [40, 45, 97, 41, 32, 42, 32, 98] := by kernel_rfl
theorem chkMul : codeOf (chkE 0 xMul) = 0 := by kernel_rfl
def s0 : ByteArray := ⟨#[45, 97, 32, 42, 32, 98, 32, 43, 32, 99]⟩
theorem lex0 : (X.P.lexAll s0).code = 0 := by kernel_rfl
theorem parD0 : (parD (tksOf s0) 0).c = 0 := by kernel_rfl
theorem end0 : (endS s0).f = 0 := by kernel_rfl
theorem red0 : redX s0 = mkE 15 0 noB noB [mkE 8 0 noB noB [mkE 10 0 noB noB [xA, xB]], xC'] := by kernel_rfl
theorem redD0 : (redD s0).c = 0 := by
  unfold redD
  rw [if_neg (by rw [lex0]; decide), if_neg (by rw [parD0]; decide)]
  exact end0
end Go.Proofs.YtpcldpnaljheoaaGreatDoor
end
section
namespace Go.Proofs.YtpcldpnaljheoaaGreatDoor
open Go.RowKit Go.Deep

theorem row2_w {W : World} {b : Nat} {x y : List D} {vs us : List Value} {t : TypeId} {f : Nat × Nat} (hb : W.heap[b]? = some (.cells ⟨vs ++ us⟩ t f)) (hl : vs.length = us.length) (hx : AllAt W vs x) (hy : AllAt W us y) : At W (.slice (some ⟨b, 0, none⟩) 2 2) (.row [x, y]) :=
  (row2_at (P := fun _ => False) hb id hl (hx.sub (sub_low _ (Below.refl _ _) fun _ h => h.elim)) (hy.sub (sub_low _ (Below.refl _ _) fun _ h => h.elim))).sub (mk_sub _ W)
theorem shE_leaf (o n : Int) (a b : ByteArray) : ShE (mkE o n a b []) := .mk _ _ _ _ _ (by simp)
theorem shMul : ShE xMul := .mk _ _ _ _ _ fun z hz => by
  simp only [List.mem_cons, List.mem_nil_iff, or_false] at hz
  rcases hz with rfl | rfl
  · exact .mk _ _ _ _ _ fun z hz => by rw [List.mem_singleton.1 hz]; exact shE_leaf _ _ _ _
  · exact shE_leaf _ _ _ _
abbrev oA : Obj := .cells #[.int .i64 4, .int .i64 0, .string ⟨#[97]⟩, .string ⟨#[]⟩, .slice none 0 0] 25
abbrev oB (p : Nat) : Obj := .cells #[.int .i64 8, .int .i64 0, .string ⟨#[]⟩, .string ⟨#[]⟩, .slice (some ⟨p, 0, none⟩) 1 1, .int .i64 4, .int .i64 0, .string ⟨#[98]⟩, .string ⟨#[]⟩, .slice none 0 0] 25
theorem mul_at (W : World) : AllAt ((W.alloc oA).alloc (oB W.heap.size)) [.int .i64 10, .int .i64 0, .string ⟨#[]⟩, .string ⟨#[]⟩, .slice (some ⟨W.heap.size + 1, 0, none⟩) 2 2] xMul := by
  have k2 := heap_new (W.alloc oA) (oB W.heap.size)
  have e1 : (W.alloc oA).heap.size = W.heap.size + 1 := by simp
  rw [e1] at k2
  have k1 := (((Below.refl _ (W.alloc oA)).alloc (Nat.le_refl _) (oB W.heap.size)).block W.heap.size (by simp)).trans (heap_new W oA)
  generalize (W.alloc oA).alloc (oB W.heap.size) = U at k1 k2 ⊢
  have a1 := row1_w (x := xA) k1 (ExAt.leaf U (by omega) (by omega) (by omega) (by omega) (by decide) (by decide)).1
  have a2 := (ExAt.over (W := U) (op := 8) (n := 0) (nm := noB) (fd := noB) a1 (fun z hz => by rw [List.mem_singleton.1 hz]; exact shE_leaf _ _ _ _) (by omega) (by omega) (by omega) (by omega) (by decide) (by decide)).1
  have a3 := (ExAt.leaf U (op := 4) (n := 0) (nm := bB) (fd := noB) (by omega) (by omega) (by omega) (by omega) (by decide) (by decide)).1
  have a4 := row2_w (vs := [.int .i64 8, .int .i64 0, .string ⟨#[]⟩, .string ⟨#[]⟩, .slice (some ⟨W.heap.size, 0, none⟩) 1 1]) (us := [.int .i64 4, .int .i64 0, .string ⟨#[98]⟩, .string ⟨#[]⟩, .slice none 0 0]) (x := xNegA) (y := xB) k2 rfl a2 a3
  exact (ExAt.over (W := U) (op := 10) (n := 0) (nm := noB) (fd := noB) a4 (fun z hz => by cases shMul with | mk _ _ _ _ _ h => exact h z hz) (by omega) (by omega) (by omega) (by omega) (by decide) (by decide)).1
/-- What the text of the example is read as, in memory. -/
theorem ex0_at {w : World} {op n : Int} {nm fd : ByteArray} {a : Option Addr} {len c : Nat} (h : AllAt w [.int .i64 op, .int .i64 n, .string nm, .string fd, .slice a len c] (redX s0)) :
    ∃ b o la lc b2 o2, op = 15 ∧ n = 0 ∧ nm = noB ∧ fd = noB ∧ a = some ⟨b, o, none⟩ ∧ len = 2 ∧ b < w.heap.size ∧ w.cell? ⟨b, o, none⟩ = some (.int .i64 8) ∧ w.cell? ⟨b, o + 4, none⟩ = some (.slice la 1 lc) ∧ la = some ⟨b2, o2, none⟩ ∧ b2 < w.heap.size ∧ w.cell? ⟨b2, o2, none⟩ = some (.int .i64 10) := by
  rw [red0] at h
  have hsh : ShE (mkE 10 0 noB noB [xA, xB]) := .mk _ _ _ _ _ fun z hz => by
    simp only [List.mem_cons, List.mem_nil_iff, or_false] at hz
    rcases hz with rfl | rfl <;> exact shE_leaf _ _ _ _
  have hsn : ShE (mkE 8 0 noB noB [mkE 10 0 noB noB [xA, xB]]) := .mk _ _ _ _ _ fun z hz => by rw [List.mem_singleton.1 hz]; exact hsh
  obtain ⟨h0, h1, h2, h3, h4, _⟩ := h
  obtain ⟨e0, _⟩ := h0.int_inv
  injection e0 with _ e0
  obtain ⟨e1, _⟩ := h1.int_inv
  injection e1 with _ e1
  obtain ⟨e2, _⟩ := h2.str_inv
  injection e2 with e2
  obtain ⟨e3, _⟩ := h3.str_inv
  injection e3 with e3
  have hl := h4.len_eq.1
  obtain ⟨b, o, op1, n1, nm1, fd1, la1, ln1, lc1, rfl, hb, hv, c0, _, _, _, c4⟩ := h4.elemE (j := 0) rfl hsn
  obtain ⟨g0, _, _, _, g4, _⟩ := hv
  obtain ⟨f0, _⟩ := g0.int_inv
  injection f0 with _ f0
  have hl2 := g4.len_eq.1
  obtain ⟨b2, o2, op2, n2, nm2, fd2, la2, ln2, lc2, rfl, hb2, hv2, u0, _⟩ := g4.elemE (j := 0) rfl hsh
  obtain ⟨k0, _⟩ := hv2
  obtain ⟨r0, _⟩ := k0.int_inv
  injection r0 with _ r0
  rw [show o + 0 * 5 = o by omega] at c0 c4
  rw [show o2 + 0 * 5 = o2 by omega] at u0
  rw [f0] at c0
  rw [r0] at u0
  have hl2' : ln1 = 1 := by simpa using hl2.symm
  rw [hl2'] at c4
  exact ⟨b, o, _, lc1, b2, o2, e0, e1, e2, e3, rfl, by simpa using hl.symm, hb, c0, c4, rfl, hb2, u0⟩
set_option maxRecDepth 100000 in
set_option maxHeartbeats 4000000 in
theorem awake_any (w : World) (hG : Gt w) : Calls Tryz.prog 9 #[] w fun e w' => e = .returned (.bool true) ∧ Below w.heap.size w w' := by
  have HR := Lib.hid (Read_any s0 w hG)
  unfold ReadPost s0 at HR
  have HG := Lib.hid hG
  clear hG
  go_enter Tryz.func9, Tryz.ntmps9
  go_wp2_with fail
  refine HR.out.mono ?_
  rintro e w1 ⟨b1, h1⟩
  have hrd : (redD s0).c = 0 := redD0
  rcases h1 with ⟨h1, _⟩ | ⟨_, op, n, nm, fd, a, len, c, rfl, h2, h3⟩
  · exact absurd hrd h1
  · obtain ⟨b, o, la, lc, b2, o2, rfl, rfl, rfl, rfl, rfl, rfl, hb, c0, c4, rfl, hb2, c1⟩ := ex0_at (h2.sub (mk_sub _ _))
    have B1 := Lib.hid b1
    have HC := Lib.hid (And.intro c0 (And.intro c4 c1))
    have HB := Lib.hid (And.intro hb hb2)
    clear h2 h3 b1 hrd HR c0 c4 c1 hb hb2
    unfold dgV noB
    have Z1 := (Below.refl w1.heap.size w1).alloc (Nat.le_refl _) (.cells #[.int .i64 15, .int .i64 0, .string ⟨#[]⟩, .string ⟨#[]⟩, .slice (some ⟨b, o, none⟩) 2 c] 25)
    have Z2 := Z1.alloc Z1.size (.cells #[.int .i64 0, .int .i64 0, .int .i64 0, .int .i64 0] 30)
    have hz : ((w1.alloc (.cells #[.int .i64 15, .int .i64 0, .string ⟨#[]⟩, .string ⟨#[]⟩, .slice (some ⟨b, o, none⟩) 2 c] 25)).alloc (.cells #[.int .i64 0, .int .i64 0, .int .i64 0, .int .i64 0] 30)).heap.size = w1.heap.size + 1 + 1 := by simp
    have Z3 := Z2.alloc Z2.size oA
    have Z4 := Z3.alloc Z3.size (oB (w1.heap.size + 1 + 1))
    have HA := mul_at ((w1.alloc (.cells #[.int .i64 15, .int .i64 0, .string ⟨#[]⟩, .string ⟨#[]⟩, .slice (some ⟨b, o, none⟩) 2 c] 25)).alloc (.cells #[.int .i64 0, .int .i64 0, .int .i64 0, .int .i64 0] 30))
    rw [hz] at HA
    have m4 := ((Below.refl _ ((w1.alloc (.cells #[.int .i64 15, .int .i64 0, .string ⟨#[]⟩, .string ⟨#[]⟩, .slice (some ⟨b, o, none⟩) 2 c] 25)).alloc (.cells #[.int .i64 0, .int .i64 0, .int .i64 0, .int .i64 0] 30))).alloc (Nat.le_refl _) oA).alloc (by simp) (oB (w1.heap.size + 1 + 1))
    rw [hz] at m4
    have hE := (((Below.refl _ (w1.alloc (.cells #[.int .i64 15, .int .i64 0, .string ⟨#[]⟩, .string ⟨#[]⟩, .slice (some ⟨b, o, none⟩) 2 c] 25))).alloc (Nat.le_refl _) (.cells #[.int .i64 0, .int .i64 0, .int .i64 0, .int .i64 0] 30)).block w1.heap.size (by simp)).trans (heap_new w1 (.cells #[.int .i64 15, .int .i64 0, .string ⟨#[]⟩, .string ⟨#[]⟩, .slice (some ⟨b, o, none⟩) 2 c] 25))
    have hD := heap_new (w1.alloc (.cells #[.int .i64 15, .int .i64 0, .string ⟨#[]⟩, .string ⟨#[]⟩, .slice (some ⟨b, o, none⟩) 2 c] 25)) (.cells #[.int .i64 0, .int .i64 0, .int .i64 0, .int .i64 0] 30)
    rw [show (w1.alloc (.cells #[.int .i64 15, .int .i64 0, .string ⟨#[]⟩, .string ⟨#[]⟩, .slice (some ⟨b, o, none⟩) 2 c] 25)).heap.size = w1.heap.size + 1 by simp] at hD
    have K1 := Lib.hid ((m4.block w1.heap.size (by omega)).trans hE)
    have K2 := Lib.hid ((m4.block (w1.heap.size + 1) (by omega)).trans hD)
    have B4 := Lib.hid Z4
    have HP := Print_ok (HG.out.below (B1.out.trans (Z4.mono B1.out.size))) HA shMul (by kernel_rfl) chkMul (fun w0 q _ => pr_any okMul shMul w0 q) (by rw [prMul]; decide)
    rw [prMul] at HP
    have HPR := Lib.hid HP
    clear Z1 Z2 hz Z3 Z4 HA m4 hE hD HP HG
    go_wp2_with fail
    generalize ((((w1.alloc (.cells #[.int .i64 15, .int .i64 0, .string ⟨#[]⟩, .string ⟨#[]⟩, .slice (some ⟨b, o, none⟩) 2 c] 25)).alloc (.cells #[.int .i64 0, .int .i64 0, .int .i64 0, .int .i64 0] 30)).alloc oA).alloc (oB (w1.heap.size + 1 + 1))) = W4 at HPR K1 K2 B4 ⊢
    refine HPR.out.mono ?_
    rintro e w2 ⟨rfl, bb⟩
    have B5 := Lib.hid (B4.out.trans (bb.mono B4.out.size))
    have K11 := Lib.hid ((bb.block _ (heap_lt K1.out)).trans K1.out)
    have K12 := Lib.hid ((bb.block _ (heap_lt K2.out)).trans K2.out)
    have g1 := box_cells K11.out
    have g2 := box_cells K12.out
    have u0 : w2.cell? ⟨b, o, none⟩ = some (.int .i64 8) := (B5.out.cell (p := ⟨b, o, none⟩) HB.out.1).trans HC.out.1
    have u4 : w2.cell? ⟨b, o + 4, none⟩ = some (.slice (some ⟨b2, o2, none⟩) 1 lc) := (B5.out.cell (p := ⟨b, o + 4, none⟩) HB.out.1).trans HC.out.2.1
    have u1 : w2.cell? ⟨b2, o2, none⟩ = some (.int .i64 10) := (B5.out.cell (p := ⟨b2, o2, none⟩) HB.out.2).trans HC.out.2.2
    have HF := Lib.hid (B1.out.trans (B5.out.mono B1.out.size))
    clear bb K1 K2 B4 HPR HC HB B1 B5
    go_wp2_with fail
    go_ret
    exact ⟨rfl, HF.out⟩
end Go.Proofs.YtpcldpnaljheoaaGreatDoor
end
section
namespace Go.Proofs.YtpcldpnaljheoaaGreatDoor
open Go.ChangeShapes Go.WideShapes Go.ChangeAt Go.RowKit

theorem own : ownKnob Tryz.prog.godebug = none := by kernel_rfl
theorem laidOut : laidOutB Tryz.prog = true := by kernel_rfl
def tabs : List (String × DataW Unit) := [("math/bits.deBruijn32tab", Rows.laid_math_bits_deBruijn32tab), ("math/bits.deBruijn64tab", Rows.laid_math_bits_deBruijn64tab), ("internal/strconv.uint64pow10", Rows.laid_internal_strconv_uint64pow10), ("unicode/utf8.acceptRanges", Rows.laid_unicode_utf8_acceptRanges), ("pantograph/expr.truths", Rows.laid_pantograph_expr_truths), ("pantograph/exprpas.signs", Rows.laid_pantograph_exprpas_signs), ("unicode.CaseRanges", Rows.laid_unicode_CaseRanges), ("unicode/utf8.first", Rows.laid_unicode_utf8_first)]
noncomputable def laidWorld (os : Os) : World := World.laidAll Tryz.prog os tabs
theorem laid_fits (os : Os) : (World.holding Tryz.prog os ⟨#[], #[], []⟩).layFits Tryz.prog tabs [] = true := by kernel_rfl
theorem laid_ifaces (os : Os) : (World.holding Tryz.prog os ⟨#[], #[], []⟩).layIfaces Tryz.prog tabs (World.laidAll Tryz.prog os tabs) = true := by kernel_rfl
theorem laid_all (os : Os) (args : Array Value) : laidMet Tryz.prog tabs ((laidWorld os).forCall (fun _ _ => 0) ⟨#[], args, []⟩).memory := laidMet_laidAll args (laid_fits os) (laid_ifaces os)
theorem shaped (os : Os) (args : Array Value) : ((laidWorld os).forCall (fun _ _ => 0) ⟨#[], args, []⟩).Shaped Tryz.prog := World.shaped_of_ZipB (by kernel_rfl) (by kernel_rfl)
/-- There is an input that fits. -/
theorem fits {H : Type} {enc : TypeId × Value → H} {os : Os} {f : FuncId} {fn : Func} {sp : OpenSpec} {conds : List PathCond} {apart : Bool} (args : Array Value)
    (hok : Input.okWideB Tryz.prog ((laidWorld os).forCall (fun _ _ => 0) ⟨#[], args, []⟩) f ⟨#[], args, []⟩ = true)
    (hrow : sp.preRow enc Tryz.prog fn conds apart tabs ((laidWorld os).forCall (fun _ _ => 0) ⟨#[], args, []⟩).memory args) :
    ∃ (w : World) (tape : Tape) (i : Input), w.os = os ∧ (w.forCall tape i).Shaped Tryz.prog ∧ i.vars = [] ∧ Input.okWide Tryz.prog (w.forCall tape i) .any w.heap.size f i ∧
      sp.preRow enc Tryz.prog fn conds apart tabs (w.forCall tape i).memory i.args ∧ ({ modest := false } : Assume).holds Tryz.prog (lone (Frame.enter Tryz.prog f i.args .normal) [] (w.forCall tape i)) :=
  ⟨laidWorld os, fun _ _ => 0, ⟨#[], args, []⟩, World.laidAll_os _ _ _, shaped os args, (Input.okWide_of_okWideB (base := 0) hok).1, (Input.okWide_of_okWideB hok).2, hrow, by
    simp [Assume.holds]⟩
def strData {H : Type} (xs : List (List UInt8)) : DataW H := .agg (xs.map fun s => .lit (.string s))
/-- An array of texts that reads as a table holds the table's texts. -/
theorem cells_of_strs {H : Type} {enc : TypeId × Value → H} {P : Program} {w : World} {base : Nat} {sp : Nat → Bool} {held : Bool} {fuel : Nat} {t e : TypeId} {n : Nat} {cs : List Value} {xs : List (List UInt8)} {p : List MemPlace}
    (ht : P.underlying t = some (.array n e)) (he : P.underlying e = some .string) (hce : P.cellsOf e = 1) (hct : P.cellsOf t = n)
    (h : DataW.trod enc P w base sp held fuel t cs = some (strData xs, p)) : cs = xs.map fun s => Value.string ⟨s.toArray⟩ := by
  cases fuel with
  | zero => simp [DataW.trod] at h
  | succ fuel =>
    simp only [DataW.trod, ht, hce, hct, Nat.mul_one] at h
    split at h
    · rename_i hl
      obtain ⟨ys, hm, hx⟩ := Option.map_eq_some_iff.1 h
      have hxs : ys.map (·.1) = xs.map fun s => (DataW.lit (.string s) : DataW H) := by
        have := congrArg Prod.fst hx
        simpa [strData] using this
      have hxl : ys.length = n := by simpa using Lib.mapM_length hm
      have hzl : xs.length = n := by
        have := congrArg List.length hxs
        simp at this
        omega
      apply List.ext_getElem?
      intro i
      by_cases hi : i < n
      · obtain ⟨b, hb, hf⟩ := Lib.mapM_at hm i i (by simp [hi])
        obtain ⟨s, hc, rfl, _⟩ := DataW.trod_string he hf
        have h1 : cs[i]? = some (.string s) := by
          have := congrArg (·[0]?) hc
          simpa [List.getElem?_take, List.getElem?_drop] using this
        have h2 : (ys.map (·.1))[i]? = some (DataW.lit (.string s.data.toList) : DataW H) := by simp [hb]
        rw [hxs] at h2
        simp only [List.getElem?_map, Option.map_eq_some_iff, DataW.lit.injEq, Lit.string.injEq] at h2
        obtain ⟨z', hz', e⟩ := h2
        rw [h1, List.getElem?_map, hz', e]
        rfl
      · rw [List.getElem?_eq_none (by omega), List.getElem?_eq_none (by simp; omega)]
    · cases h
theorem strs_of_head {P : Program} {W : World} {name : String} {xs : List (List UInt8)} {rest : List (String × DataW Unit)} {g : Nat} {t e : TypeId} {n : Nat}
    (hg : P.globalNamed name = some g) (hty : (P.globals[g]?).map (·.type) = some t) (ht : P.underlying t = some (.array n e)) (he : P.underlying e = some .string) (hce : P.cellsOf e = 1) (hct : P.cellsOf t = n)
    (h : laidMet P ((name, strData xs) :: rest) W) (i : Nat) (x : List UInt8) (hx : xs[i]? = some x) : W.cell? ⟨g, i, none⟩ = some (.string ⟨x.toArray⟩) := by
  obtain ⟨ps, ⟨g', t', cs, fuel, p, q, hg', ht', hvar, hd, _, _⟩, _⟩ := h
  obtain rfl := Option.some.inj (hg.symm.trans hg')
  obtain rfl := Option.some.inj (hty.symm.trans ht')
  have := World.var?_cell hg hvar i
  rw [this, ← Array.getElem?_toList, cells_of_strs ht he hce hct hd]
  simp [hx]
theorem gSig : Tryz.prog.globalNamed "pantograph/exprpas.signs" = some 0 := by kernel_rfl
theorem gSigT : (Tryz.prog.globals[0]?).map (·.type) = some 104 := by kernel_rfl
theorem gTru : Tryz.prog.globalNamed "pantograph/expr.truths" = some 1 := by kernel_rfl
theorem gTruT : (Tryz.prog.globals[1]?).map (·.type) = some 148 := by kernel_rfl
theorem gD64 : Tryz.prog.globalNamed "math/bits.deBruijn64tab" = some 8 := by kernel_rfl
theorem cellsSig : Tryz.prog.cellsOf 104 = 25 := by kernel_rfl
theorem cellsTru : Tryz.prog.cellsOf 148 = 2 := by kernel_rfl
theorem cells9 : Tryz.prog.cellsOf 9 = 1 := by kernel_rfl
theorem gt_of {W : World} (h : laidMet Tryz.prog tabs W) : Gt W := by
  have h4 := h.tail.tail.tail.tail
  have h5 := h4.tail
  have hs := strs_of_head (xs := [[], [], [], [], [], [], [], [], [], [], [42], [100, 105, 118], [109, 111, 100], [97, 110, 100], [97, 110, 100, 32, 116, 104, 101, 110], [43], [45], [111, 114], [111, 114, 32, 101, 108, 115, 101], [61], [60, 62], [60], [60, 61], [62], [62, 61]]) gSig gSigT Tryz.underlying104 Tryz.underlying9 cells9 cellsSig h5
  have ht := strs_of_head (xs := [[102, 97, 108, 115, 101], [116, 114, 117, 101]]) gTru gTruT Tryz.underlying148 Tryz.underlying9 cells9 cellsTru h4
  refine ⟨?_, fun k x hx => ?_, ht 0 _ rfl, ht 1 _ rfl⟩
  · obtain ⟨ps, ⟨g', t', cs, fuel, p, q, hg', ht', hvar, hd, _, _⟩, _⟩ := h.tail
    obtain rfl := Option.some.inj (gD64.symm.trans hg')
    rcases Nat.lt_or_ge 8 W.heap.size with g | g
    · exact g
    · simp only [World.var?, gD64, Option.bind_some] at hvar
      rw [Array.getElem?_eq_none g] at hvar
      cases hvar
  · have hk : k < 15 := (List.getElem?_eq_some_iff.1 hx).1
    refine hs (10 + k) x.data.toList ?_
    have : ∀ j, j < 15 → ([[], [], [], [], [], [], [], [], [], [], [42], [100, 105, 118], [109, 111, 100], [97, 110, 100], [97, 110, 100, 32, 116, 104, 101, 110], [43], [45], [111, 114], [111, 114, 32, 101, 108, 115, 101], [61], [60, 62], [60], [60, 61], [62], [62, 61]] : List (List UInt8))[10 + j]? = (signsP[j]?).map (·.data.toList) := by decide
    rw [this k hk, hx]
    rfl
end Go.Proofs.YtpcldpnaljheoaaGreatDoor
end
