/-
  Texts of this proof, put together.
-/
import Derived.Test.YtpcldpnaljheoaaGreatDoorZz4
import Derived.Test.YtpcldpnaljheoaaGreatDoorZz5
import Derived.StillTailTactics
import Derived.Deep.RegionWith
import Derived.WalkKit
import Derived.ProofKit
import Derived.OpenShut
import Derived.ShutString
import Derived.ChangeOld
import Derived.Below
import Derived.Lib.LaidTab
import Derived.Deep.DeepHandedRow
import Derived.Deep.MidRow
import Derived.Stop.LaidErr
import Derived.Lay
import Derived.Laws.StructEq
import Derived.Shelf.SlicesE.Kit
import Derived.Lib.QuietBelow
section
namespace Go.Proofs.YtpcldpnaljheoaaGreatDoor
open Go.RowKit Go.Deep Go.Sort
def RowsEq (w0 : World) (F : Nat) (l l' : List (List D)) : Prop := ∀ (a a' : Option Addr) (len len' cap cap' : Nat), At w0 (.slice a len cap) (.row l) → At w0 (.slice a' len' cap') (.row l') → ∀ W, Below w0.heap.size w0 W → Calls Tryz.prog F #[.slice a len cap, .slice a' len' cap'] W (EqPost l l' W)
end Go.Proofs.YtpcldpnaljheoaaGreatDoor
end
section
namespace Go.Proofs.YtpcldpnaljheoaaGreatDoor
open Go.RowKit Go.Deep Go.Sort
set_option maxRecDepth 100000 in
set_option maxHeartbeats 2000000 in
theorem refExpr_step (w0 : World) (x y : List D) (hx : ShE x) (hy : ShE y) (vs ws : List Value) (hv : AllAt w0 vs x) (hw : AllAt w0 ws y) (fkl : ∀ l l', D.row l ∈ x → D.row l' ∈ y → (∀ z ∈ l, ShE z) → (∀ z ∈ l', ShE z) → RowsEq w0 25 l l')
    (W : World) (hW : Below w0.heap.size w0 W) : Calls Tryz.prog 12 #[.agg ⟨vs⟩, .agg ⟨ws⟩] W (EqPost x y W) := by
  obtain ⟨op, n, nm, fd, kl, kla, klc, rfl, rfl, -, -, -, -, akl, skl⟩ := hv.openE hx
  obtain ⟨op', n', nm', fd', kl', kla', klc', rfl, rfl, -, -, -, -, akl', skl'⟩ := hw.openE hy
  have Pkl := Lib.hid (fkl kl kl' (by simp) (by simp) skl skl')
  have Akl := Lib.hid akl
  have Akl' := Lib.hid akl'
  clear hx hy hv hw akl akl' skl skl' fkl
  have HW := Lib.hid hW
  clear hW
  cases hop : op == op' with
  | false =>
    have GH := Lib.hid (show op ≠ op' from (by simpa using hop))
    go_enter Tryz.func12, Tryz.ntmps12
    go_wp2_with fail
    go_ret
    exact ⟨by rw [same_no (α := List D) (x := [.int op, .int n, .str nm, .str fd, .row kl]) (y := [.int op', .int n', .str nm', .str fd', .row kl']) (fun z => GH.out (D.int.inj (congrArg (fun z : List D => nth z 0) z)))]; rfl, ((Below.refl _ _).alloc (Nat.le_refl _) _).alloc (by simp) _⟩
  | true =>
    have Qop := Lib.hid (show op = op' from (by simpa using hop))
    cases hn : n == n' with
    | false =>
      have GH := Lib.hid (show n ≠ n' from (by simpa using hn))
      go_enter Tryz.func12, Tryz.ntmps12
      go_wp2_with fail
      go_ret
      exact ⟨by rw [same_no (α := List D) (x := [.int op, .int n, .str nm, .str fd, .row kl]) (y := [.int op', .int n', .str nm', .str fd', .row kl']) (fun z => GH.out (D.int.inj (congrArg (fun z : List D => nth z 1) z)))]; rfl, ((Below.refl _ _).alloc (Nat.le_refl _) _).alloc (by simp) _⟩
    | true =>
      have Qn := Lib.hid (show n = n' from (by simpa using hn))
      cases hnm : nm.toList == nm'.toList with
      | false =>
        have GH := Lib.hid (show nm ≠ nm' from (fun z => by subst z; simp at hnm))
        go_enter Tryz.func12, Tryz.ntmps12
        go_wp2_with fail
        go_ret
        exact ⟨by rw [same_no (α := List D) (x := [.int op, .int n, .str nm, .str fd, .row kl]) (y := [.int op', .int n', .str nm', .str fd', .row kl']) (fun z => GH.out (D.str.inj (congrArg (fun z : List D => nth z 2) z)))]; rfl, ((Below.refl _ _).alloc (Nat.le_refl _) _).alloc (by simp) _⟩
      | true =>
        have Qnm := Lib.hid (show nm = nm' from ((ba_eq_iff _ _).1 hnm))
        cases hfd : fd.toList == fd'.toList with
        | false =>
          have GH := Lib.hid (show fd ≠ fd' from (fun z => by subst z; simp at hfd))
          go_enter Tryz.func12, Tryz.ntmps12
          go_wp2_with fail
          go_ret
          exact ⟨by rw [same_no (α := List D) (x := [.int op, .int n, .str nm, .str fd, .row kl]) (y := [.int op', .int n', .str nm', .str fd', .row kl']) (fun z => GH.out (D.str.inj (congrArg (fun z : List D => nth z 3) z)))]; rfl, ((Below.refl _ _).alloc (Nat.le_refl _) _).alloc (by simp) _⟩
        | true =>
          have Qfd := Lib.hid (show fd = fd' from ((ba_eq_iff _ _).1 hfd))
          go_enter Tryz.func12, Tryz.ntmps12
          go_wp2_with fail
          have R0 := Lib.hid (((Below.refl W.heap.size W).alloc (Nat.le_refl _) (.cells #[.int .i64 op, .int .i64 n, .string nm, .string fd, .slice kla kl.length klc] 25)).alloc (by simp) (.cells #[.int .i64 op', .int .i64 n', .string nm', .string fd', .slice kla' kl'.length klc'] 25))
          have KA0 := Lib.hid (box_first W (.cells #[.int .i64 op, .int .i64 n, .string nm, .string fd, .slice kla kl.length klc] 25) (.cells #[.int .i64 op', .int .i64 n', .string nm', .string fd', .slice kla' kl'.length klc'] 25))
          have KB0 := Lib.hid (box_second W (.cells #[.int .i64 op, .int .i64 n, .string nm, .string fd, .slice kla kl.length klc] 25) (.cells #[.int .i64 op', .int .i64 n', .string nm', .string fd', .slice kla' kl'.length klc'] 25))
          have Z1 := HW.out.trans (R0.out.mono HW.out.size)
          refine (Pkl.out _ _ _ _ _ _ Akl.out Akl'.out _ Z1).mono ?_
          rintro e w1 ⟨rfl, b1⟩
          have R1 := Lib.hid (R0.out.trans (b1.mono R0.out.size))
          have KA1 := Lib.hid ((b1.block _ (heap_lt KA0.out)).trans KA0.out)
          have KB1 := Lib.hid ((b1.block _ (heap_lt KB0.out)).trans KB0.out)
          have cA1 := box_cells KA1.out
          have cB1 := box_cells KB1.out
          clear b1 Z1
          cases hkl : same kl kl' with
          | false =>
            have GH := Lib.hid (same_neq hkl)
            clear hkl
            go_wp2_with fail
            go_ret
            exact ⟨by rw [same_no (α := List D) (x := [.int op, .int n, .str nm, .str fd, .row kl]) (y := [.int op', .int n', .str nm', .str fd', .row kl']) (fun z => GH.out (D.row.inj (congrArg (fun z : List D => nth z 4) z)))]; rfl, R1.out⟩
          | true =>
            have Qkl := Lib.hid ((same_iff _ _).1 hkl)
            clear hkl
            have E := Lib.hid (show same (α := List D) [.int op, .int n, .str nm, .str fd, .row kl] [.int op', .int n', .str nm', .str fd', .row kl'] = true by
              obtain rfl := Qop.out
              obtain rfl := Qn.out
              obtain rfl := Qnm.out
              obtain rfl := Qfd.out
              obtain rfl := Qkl.out
              exact same_refl _)
            go_wp2_with fail
            go_ret
            exact ⟨by rw [E.out]; rfl, R1.out⟩
set_option maxRecDepth 100000 in
set_option maxHeartbeats 4000000 in
theorem refExprs_step (w0 : World) (l l' : List (List D)) (hs : ∀ x ∈ l, ShE x) (hs' : ∀ x ∈ l', ShE x) (hf : EqFn w0 12 l l') : RowsEq w0 25 l l' := by
  intro a a' len len' cap cap' hA hA' W hW
  have HF := Lib.hid hf
  have HA := Lib.hid hA
  have HA' := Lib.hid hA'
  have HS := Lib.hid hs
  have HS' := Lib.hid hs'
  have HW := Lib.hid hW
  have hle := hA.len_le
  have hle' := hA'.len_le
  have HL := Lib.hid hA.len_eq.1
  have HL' := Lib.hid hA'.len_eq.1
  clear hA hA' hs hs' hW hf
  by_cases hn : len = len'
  · subst hn
    go_enter Tryz.func25, Tryz.ntmps25
    go_wp2_with fail
    go_loopw [5] (fun i wr => ∃ k : Nat, k ≤ len ∧ i = .int .i64 k ∧ l.take k = l'.take k ∧ Below W.heap.size W wr) (fun i _ => len - (intOf i).toNat)
    case atStart => exact ⟨0, Nat.zero_le _, rfl, rfl, Below.refl _ _⟩
    case round =>
      obtain ⟨k, hk, rfl, ht, hb⟩ := hrel
      have HT := Lib.hid ht
      have HB := Lib.hid hb
      clear ht hb
      by_cases hlt : k < len
      · obtain ⟨b, o, vs, ds, rfl, hbl, hx, hv, hc⟩ := HA.out.elem hlt
        obtain ⟨b', o', vs', ds', rfl, hbl', hx', hv', hc'⟩ := HA'.out.elem hlt
        have B0 := HW.out.trans (HB.out.mono HW.out.size)
        have hbw : b < wr.heap.size := Nat.lt_of_lt_of_le hbl B0.size
        have hbw' : b' < wr.heap.size := Nat.lt_of_lt_of_le hbl' B0.size
        have HX := Lib.hid hx
        have HX' := Lib.hid hx'
        have SX := Lib.hid (HS.out _ (List.mem_of_getElem? hx))
        have SX' := Lib.hid (HS'.out _ (List.mem_of_getElem? hx'))
        have hfn := HF.out ds (List.mem_of_getElem? hx) ds' (List.mem_of_getElem? hx') vs vs' hv hv'
        obtain ⟨op, n, nm, fd, kl, kla, klc, hds, rfl, _⟩ := hv.openE SX.out
        obtain ⟨op', n', nm', fd', kl', kla', klc', hds', rfl, _⟩ := hv'.openE SX'.out
        have hdl : ds.length = 5 := by rw [hds]; rfl
        have hdl' : ds'.length = 5 := by rw [hds']; rfl
        rw [hdl] at hc
        rw [hdl'] at hc'
        clear hds hds' hdl hdl' hv hv'
        have c0 := cell_regrown ((B0.cell (p := ⟨b, o + k * 5, none⟩) hbl).trans (hc 0 _ rfl))
        have c1 := cell_regrown ((B0.cell (p := ⟨b, o + k * 5 + 1, none⟩) hbl).trans (hc 1 _ rfl))
        have c2 := cell_regrown ((B0.cell (p := ⟨b, o + k * 5 + 2, none⟩) hbl).trans (hc 2 _ rfl))
        have c3 := cell_regrown ((B0.cell (p := ⟨b, o + k * 5 + 3, none⟩) hbl).trans (hc 3 _ rfl))
        have c4 := cell_regrown ((B0.cell (p := ⟨b, o + k * 5 + 4, none⟩) hbl).trans (hc 4 _ rfl))
        have c0' := cell_regrown ((B0.cell (p := ⟨b', o' + k * 5, none⟩) hbl').trans (hc' 0 _ rfl))
        have c1' := cell_regrown ((B0.cell (p := ⟨b', o' + k * 5 + 1, none⟩) hbl').trans (hc' 1 _ rfl))
        have c2' := cell_regrown ((B0.cell (p := ⟨b', o' + k * 5 + 2, none⟩) hbl').trans (hc' 2 _ rfl))
        have c3' := cell_regrown ((B0.cell (p := ⟨b', o' + k * 5 + 3, none⟩) hbl').trans (hc' 3 _ rfl))
        have c4' := cell_regrown ((B0.cell (p := ⟨b', o' + k * 5 + 4, none⟩) hbl').trans (hc' 4 _ rfl))
        cases hsm : same ds ds' with
        | true =>
          have cF : ∀ d os, Calls Tryz.prog 12 #[.agg #[.int .i64 op, .int .i64 n, .string nm, .string fd, .slice kla kl.length klc], .agg #[.int .i64 op', .int .i64 n', .string nm', .string fd', .slice kla' kl'.length klc']] (grow (redrawn wr d) os) fun e w'' => e = .returned (.bool true) ∧ ∃ p : Regrown, w'' = grow (redrawn wr p.d) p.os := fun d os => by
            have := hfn _ (B0.trans ((below_regrown wr d os).mono B0.size))
            unfold EqPost at this
            rw [hsm] at this
            exact Calls.regrown_of this
          have CF := Lib.hid cF
          have HSM := Lib.hid hsm
          clear cF hfn hx hx' hc hc' B0 hsm
          go_wp2_with fail
          refine wp_region_quiet_below (by kernel_rfl) (by kernel_rfl) ?_
          repeat (first | go_big_quiet_step ((with_reducible exact CF.out _ _)) | quiet_step ((with_reducible exact CF.out _ _)))
          refine wpQuiet_nil ?_
          intro _ hw'
          obtain ⟨⟨dq, osq⟩, hw''⟩ := hw'
          subst hw''
          have HB4 := Lib.hid (HB.out.trans ((below_regrown wr dq osq).mono HB.out.size))
          go_wp2_with fail
          go_roundw
          case rel => exact ⟨k + 1, by omega, by go_num, take_same_succ HX.out ((same_iff _ _).1 HSM.out ▸ HX'.out) HT.out, HB4.out⟩
          case measure => simp [intOf]; omega
        | false =>
          have cF : ∀ d os, Calls Tryz.prog 12 #[.agg #[.int .i64 op, .int .i64 n, .string nm, .string fd, .slice kla kl.length klc], .agg #[.int .i64 op', .int .i64 n', .string nm', .string fd', .slice kla' kl'.length klc']] (grow (redrawn wr d) os) fun e w'' => e = .returned (.bool false) ∧ ∃ p : Regrown, w'' = grow (redrawn wr p.d) p.os := fun d os => by
            have := hfn _ (B0.trans ((below_regrown wr d os).mono B0.size))
            unfold EqPost at this
            rw [hsm] at this
            exact Calls.regrown_of this
          have CF := Lib.hid cF
          have HSM := Lib.hid hsm
          clear cF hfn hx hx' hc hc' B0 hsm
          go_wp2_with fail
          refine wp_region_quiet_below (by kernel_rfl) (by kernel_rfl) ?_
          repeat (first | go_big_quiet_step ((with_reducible exact CF.out _ _)) | quiet_step ((with_reducible exact CF.out _ _)))
          refine wpQuiet_nil ?_
          intro _ hw'
          obtain ⟨⟨dq, osq⟩, hw''⟩ := hw'
          subst hw''
          have HB4 := Lib.hid (HB.out.trans ((below_regrown wr dq osq).mono HB.out.size))
          go_wp2_with fail
          go_ret
          exact ⟨by rw [same_miss HX.out HX'.out HSM.out]; rfl, HB4.out⟩
      · obtain rfl : k = len := by omega
        go_wp2_with fail
        go_ret
        exact ⟨by rw [same_end (HL.out.trans HL'.out.symm) (by rw [HL.out]; exact HT.out)]; rfl, HB.out⟩
  · have hne : (len == len') = false := by simpa using hn
    have HN := Lib.hid (same_len (l := l) (l' := l') (by rw [HL.out, HL'.out]; exact hn))
    go_enter Tryz.func25, Tryz.ntmps25
    go_wp2_with fail
    go_ret
    exact ⟨by rw [HN.out]; rfl, Below.refl _ _⟩
theorem refExprs_upto (w0 : World) (n : Nat) : ∀ l l' : List (List D), SizeOf.sizeOf l ≤ n → (∀ z ∈ l, ShE z) → (∀ z ∈ l', ShE z) → RowsEq w0 25 l l' := by
  induction n with
  | zero => intro l l' h; cases l <;> simp at h <;> omega
  | succ n ih =>
    intro l l' hn hs hs'
    refine refExprs_step w0 l l' hs hs' fun x hx y hy vs ws hv hw W hW => ?_
    refine refExpr_step w0 x y (hs x hx) (hs' y hy) vs ws hv hw (fun m m' hm _ hsm hsm' => ih m m' ?_ hsm hsm') W hW
    have h1 := List.sizeOf_lt_of_mem hx
    have h2 := List.sizeOf_lt_of_mem hm
    have h3 : SizeOf.sizeOf (D.row m) = 1 + SizeOf.sizeOf m := by simp
    omega
theorem refExprs_any (w0 : World) (l l' : List (List D)) (hs : ∀ z ∈ l, ShE z) (hs' : ∀ z ∈ l', ShE z) : RowsEq w0 25 l l' := refExprs_upto w0 _ l l' (Nat.le_refl _) hs hs'
theorem refSameE_any (w0 : World) (x y : List D) (hx : ShE x) (hy : ShE y) (vs ws : List Value) (hv : AllAt w0 vs x) (hw : AllAt w0 ws y) (W : World) (hW : Below w0.heap.size w0 W) : Calls Tryz.prog 12 #[.agg ⟨vs⟩, .agg ⟨ws⟩] W (EqPost x y W) :=
  refExpr_step w0 x y hx hy vs ws hv hw (fun m m' _ _ hsm hsm' => refExprs_any w0 m m' hsm hsm') W hW
end Go.Proofs.YtpcldpnaljheoaaGreatDoor
end
section
namespace Go.Proofs.YtpcldpnaljheoaaGreatDoor.X
open Go.RowKit

def s_all (set : ByteArray) : List UInt8 := set.data.toList.take set.size
theorem inTo_mono (set : ByteArray) (k c : Nat) (h : k < set.size) (hc : (bt set k).toNat = c) : inTo set set.size c = true := by
  unfold inTo
  rw [List.any_eq_true]
  refine ⟨bt set k, ?_, by simp [hc]⟩
  have : s_all set = set.data.toList.take set.size := rfl
  rw [← this]
  unfold s_all
  rw [← bt_eq set k h]
  have hl : k < (set.data.toList.take set.size).length := by
    rw [List.length_take]
    have : set.data.toList.length = set.size := by simp
    omega
  have e : (set.data.toList.take set.size)[k] = set[k] := by
    rw [List.getElem_take]; rfl
  rw [← e]
  exact List.getElem_mem hl
set_option maxHeartbeats 400000 in
theorem has_any (set : ByteArray) (c : Nat) (w : World) (hs : set.size ≤ maxLen) :
    Calls Tryz.prog 35 #[.string set, .int .u8 (c : Int)] w fun e w' => e = .returned (.bool (inTo set set.size c)) ∧ w' = w := by
  unfold maxLen at hs
  go_enter Tryz.func35, Tryz.ntmps35
  go_wp2_with fail
  go_loop [5] (fun i => ∃ k : Nat, k ≤ set.size ∧ i = .int .i64 k ∧ inTo set k c = false) (fun i => set.size - (intOf i).toNat)
  case atStart => exact ⟨0, Nat.zero_le _, rfl, inTo_zero _ _⟩
  case round =>
    obtain ⟨k, hk, rfl, hn⟩ := hrel
    have HN := Lib.hid hn
    clear hn
    by_cases hlt : k < set.size
    · have hb := bt_eq set k hlt
      by_cases he : (bt set k).toNat = c
      · have E := Lib.hid (inTo_mono set k c hlt he)
        rw [← hb] at he
        clear hb
        have hq : ((set[k].toNat : Int) == (c : Int)) = true := by simp; omega
        clear he
        go_wp2_with fail
        go_ret
        exact ⟨by rw [E.out]; rfl, rfl⟩
      · have E := Lib.hid (show inTo set (k + 1) c = false by rw [inTo_succ set k c hlt, if_neg (fun h => he h.symm)]; exact HN.out)
        rw [← hb] at he
        clear hb
        have hq : ((set[k].toNat : Int) == (c : Int)) = false := by simp; omega
        clear he
        go_wp2_with fail
        go_round
        case rel => exact ⟨k + 1, by omega, by go_num, E.out⟩
        case measure => simp [intOf]; omega
    · obtain rfl : k = set.size := by omega
      go_wp2_with fail
      go_ret
      exact ⟨by rw [HN.out]; rfl, rfl⟩
end Go.Proofs.YtpcldpnaljheoaaGreatDoor.X
end
section
namespace Go.Proofs.YtpcldpnaljheoaaGreatDoor.X.P
open Go.RowKit Go.Sort

set_option maxHeartbeats 1000000 in
theorem step_any (s : ByteArray) (k : Nat) (w : World) (hk : k < s.size) (hs : s.size ≤ maxLen) :
    Calls Tryz.prog 36 #[.agg #[.int .i64 (k : Nat), .int .i64 (lineOf s k : Nat), .int .i64 (colOf s k : Nat)], .int .u8 ((bt s k).toNat : Int)] w fun e w' => e = .returned (.agg #[.int .i64 ((k + 1 : Nat) : Int), .int .i64 (lineOf s (k + 1) : Nat), .int .i64 (colOf s (k + 1) : Nat)]) ∧ Below w.heap.size w w' := by
  have hl := line_le s k
  have hco := col_le s k
  unfold maxLen at hs
  by_cases hn : (bt s k).toNat = 10
  · have d : (((bt s k).toNat : Int) == 10) = true := by rw [hn]; rfl
    have E1 := Lib.hid (line_nl s k hk hn)
    have E2 := Lib.hid (col_nl s k hk hn)
    clear hn
    go_enter Tryz.func36, Tryz.ntmps36
    go_wp2_with fail
    rw [E1.out, E2.out]
    exact bodyPost_ret (v := .agg #[.int .i64 ((k + 1 : Nat) : Int), .int .i64 ((lineOf s k + 1 : Nat) : Int), .int .i64 0]) (by simp [results, Tryz.results36, go_sem]) rfl ⟨rfl, ((Below.refl _ _).alloc (Nat.le_refl _) _).alloc (by simp) _⟩
  · have d : (((bt s k).toNat : Int) == 10) = false := by simp; omega
    have E1 := Lib.hid (line_no s k hk hn)
    have E2 := Lib.hid (col_no s k hk hn)
    clear hn
    go_enter Tryz.func36, Tryz.ntmps36
    go_wp2_with fail
    rw [E1.out, E2.out]
    exact bodyPost_ret (v := .agg #[.int .i64 ((k + 1 : Nat) : Int), .int .i64 (lineOf s k : Nat), .int .i64 ((colOf s k + 1 : Nat) : Int)]) (by simp [results, Tryz.results36, go_sem]) rfl ⟨rfl, ((Below.refl _ _).alloc (Nat.le_refl _) _).alloc (by simp) _⟩
/-- The state of the reference's All. -/
structure AS (w : World) (s : ByteArray) (k : Nat) (v : Value) (acc : List Tk) (wr : World) : Prop where
  pos : PosAt wr (w.heap.size + 1) s k
  own : OwnT (w.heap.size + 2) wr v acc
  dz : wr.heap[w.heap.size]? = some (.cells #[.int .i64 0, .int .i64 0, .int .i64 0, .int .i64 0] 30)
  bel : Below w.heap.size w wr
theorem AS.below {w wr w2 : World} {k : Nat} {s : ByteArray} {v : Value} {acc : List Tk} (h : AS w s k v acc wr) (b : Below wr.heap.size wr w2) : AS w s k v acc w2 :=
  ⟨⟨(b.block _ h.pos.lt).trans h.pos.blk⟩, h.own.below b, (b.block _ (heap_lt h.dz)).trans h.dz, h.bel.trans (b.mono h.bel.size)⟩
theorem AS.drew {w wr : World} {k : Nat} {s : ByteArray} {v : Value} {acc : List Tk} (h : AS w s k v acc wr) : AS w s k v acc wr.drew :=
  h.below ⟨rfl, rfl, rfl, Nat.le_refl _, fun _ _ => rfl⟩
theorem AS.move {w wr : World} {k : Nat} {s : ByteArray} {v : Value} {acc : List Tk} (h : AS w s k v acc wr) (j : Nat) : AS w s j v acc (((wr.setCell ⟨w.heap.size + 1, 0, none⟩ (.int .i64 (j : Nat))).setCell ⟨w.heap.size + 1, 1, none⟩ (.int .i64 (lineOf s j : Nat))).setCell ⟨w.heap.size + 1, 2, none⟩ (.int .i64 (colOf s j : Nat))) := by
  have ne : ∀ b, b ≠ w.heap.size + 1 → (((wr.setCell ⟨w.heap.size + 1, 0, none⟩ (.int .i64 (j : Nat))).setCell ⟨w.heap.size + 1, 1, none⟩ (.int .i64 (lineOf s j : Nat))).setCell ⟨w.heap.size + 1, 2, none⟩ (.int .i64 (colOf s j : Nat))).heap[b]? = wr.heap[b]? := fun b hb => by
    rw [Below.heap_setCell _ _ _ _ (by simp; omega), Below.heap_setCell _ _ _ _ (by simp; omega), Below.heap_setCell _ _ _ _ (by simp; omega)]
  refine ⟨⟨?_⟩, h.own.kept fun b hb => ne b (by have := (h.own.lt b hb).1; omega), (ne _ (by omega)).trans h.dz, ((h.bel.setCell (by simp) _).setCell (by simp) _).setCell (by simp) _⟩
  rw [heap_set (heap_set (heap_set h.pos.blk _) _) _]
  simp
theorem AS.app {w wr w2 : World} {k : Nat} {s : ByteArray} {v v' : Value} {acc acc' : List Tk} (h : AS w s k v acc wr) (g : wr.grownBy w2 v.ownBlock) (o : OwnT (w.heap.size + 2) w2 v' acc') : AS w s k v' acc' w2 := by
  have hne : ∀ b, b < w.heap.size + 2 → some b ≠ v.ownBlock := fun b hb e => by have := (h.own.lt b e.symm).1; omega
  refine ⟨⟨(g.block _ h.pos.lt (hne _ (by omega))).trans h.pos.blk⟩, o, (g.block _ (heap_lt h.dz) (hne _ (by omega))).trans h.dz, ?_⟩
  exact ⟨g.os.trans h.bel.os, g.tape.trans h.bel.tape, g.output.trans h.bel.output, Nat.le_trans h.bel.size g.size, fun b hb => (g.block b (Nat.lt_of_lt_of_le hb h.bel.size) (hne b (by omega))).trans (h.bel.block b hb)⟩
theorem AS.dzf {w wr : World} {k : Nat} {s : ByteArray} {v : Value} {acc : List Tk} (h : AS w s k v acc wr) : wr.cell? ⟨w.heap.size, 0, none⟩ = some (.int .i64 0) ∧ wr.cell? ⟨w.heap.size, 1, none⟩ = some (.int .i64 0) ∧ wr.cell? ⟨w.heap.size, 2, none⟩ = some (.int .i64 0) ∧ wr.cell? ⟨w.heap.size, 3, none⟩ = some (.int .i64 0) ∧ ∀ o, wr.frozen? ⟨w.heap.size, o, none⟩ = false := by
  have := h.dz
  refine ⟨?_, ?_, ?_, ?_, fun o => ?_⟩ <;> simp [World.cell?, World.frozen?, this]
/-- How much is ahead of a place. -/
def leftP (s : ByteArray) (b : Nat) (w : World) : Nat := s.size - (match w.cell? ⟨b, 0, none⟩ with | some v => (intOf v).toNat | none => 0)
theorem leftP_at {w : World} {b : Nat} {s : ByteArray} {k : Nat} (h : PosAt w b s k) : leftP s b w = s.size - k := by
  unfold leftP
  rw [h.c0]
  simp [intOf]
def setR : ByteArray := ⟨#[32, 9, 13, 10]⟩
theorem setR_is (c : UInt8) : inTo setR setR.size c.toNat = isBl c := by
  have := all8 (q := fun c => inTo setR setR.size c.toNat == isBl c) (by decide +kernel) c
  simpa using this
theorem blEnd_in (s : ByteArray) (k : Nat) (h : k < s.size) (hb : isBl (bt s k) = true) : blEnd s k = blEnd s (k + 1) := by
  unfold blEnd
  rw [drop_bt s k h, List.takeWhile_cons, if_pos hb, List.length_cons]
  omega
theorem blEnd_out (s : ByteArray) (k : Nat) (h : ¬ (k < s.size ∧ isBl (bt s k) = true)) : blEnd s k = k := by
  unfold blEnd
  by_cases hk : k < s.size
  · rw [drop_bt s k hk, List.takeWhile_cons, if_neg (fun hb => h ⟨hk, hb⟩)]; rfl
  · rw [drop_end s k hk]; rfl
end Go.Proofs.YtpcldpnaljheoaaGreatDoor.X.P
end
section
namespace Go.Proofs.YtpcldpnaljheoaaGreatDoor.X.P
open Go.RowKit Go.Sort

/-- A slice of tokens, however it came to be. -/
theorem OwnT.any {base : Nat} {w : World} {v : Value} {ts : List Tk} (h : OwnT base w v ts) : ∃ a cap, v = .slice a ts.length cap ∧ ts.length ≤ cap ∧ cap ≤ maxLen ∧ (ts ≠ [] → ∃ g, a = some ⟨g, 0, none⟩ ∧ base ≤ g ∧ g < w.heap.size ∧ ∀ i t, ts[i]? = some t → ∀ j u, (tkCells t)[j]? = some u → w.cell? ⟨g, i * 7 + j, none⟩ = some u) := by
  rcases h.slice with ⟨rfl, rfl⟩ | ⟨g, cap, rfl, h1, h2, h3, h4, h5⟩
  · exact ⟨none, 0, rfl, Nat.le_refl _, by decide, fun h => absurd rfl h⟩
  · exact ⟨_, cap, rfl, h3, h4, fun _ => ⟨g, rfl, h1, h2, h5⟩⟩
theorem below_drewN {B : Nat} {a w : World} (h : Below B a w) (n : Nat) : Below B a (w.drewN n) := ⟨h.os, h.tape, h.output, h.size, h.block⟩
end Go.Proofs.YtpcldpnaljheoaaGreatDoor.X.P
end
section
namespace Go.Proofs.YtpcldpnaljheoaaGreatDoor.X
open Go.RowKit

theorem hp_at (s : ByteArray) (k : Nat) (h : k < s.size) (n : Nat) (hn : n < 256) (xs : List UInt8) : Lib.hasPrefix (s.data.toList.drop k) (n.toUInt8 :: xs) = (((s[k].toNat : Int) == (n : Int)) && Lib.hasPrefix (s.data.toList.drop (k + 1)) xs) := by
  rw [drop_bt s k h, hp_cons, bt_eq s k h, eqb _ n hn, show (n.toUInt8 == bt s k) = (bt s k == n.toUInt8) from Bool.beq_comm ..]
theorem hp_off (s : ByteArray) (k : Nat) (h : ¬ k < s.size) (x : UInt8) (xs : List UInt8) : Lib.hasPrefix (s.data.toList.drop k) (x :: xs) = false := by
  rw [drop_end s k h]; rfl
theorem begL_0 (s : ByteArray) : begL 0 s.data.toList = Lib.hasPrefix (s.data.toList.drop 0) [123] := rfl
theorem begL_1 (s : ByteArray) : begL 1 s.data.toList = Lib.hasPrefix (s.data.toList.drop 0) [47, 42] := rfl
set_option maxHeartbeats 400000 in
theorem refBeg_0 (s : ByteArray) (w : World) :
    Calls Tryz.prog 61 #[.int .i64 0, .string s] w fun e w' => e = .returned (.bool (begL 0 s.data.toList)) ∧ w = w' := by
  rw [begL_0]
  by_cases h0 : 0 < s.size
  · rw [show Lib.hasPrefix (s.data.toList.drop 0) [123] = _ from hp_at s 0 h0 123 (by decide) [], hp_nil, Bool.and_true]
    rw [show (((123 : Nat)) : Int) = 123 from rfl]
    cases h1 : ((s[0].toNat : Int) == 123) with
    | true =>
      go_enter Tryz.func61, Tryz.ntmps61
      go_wp2_with fail
      go_ret
      exact ⟨rfl, rfl⟩
    | false =>
      go_enter Tryz.func61, Tryz.ntmps61
      go_wp2_with fail
      go_ret
      exact ⟨rfl, rfl⟩
  · rw [hp_off s 0 h0]
    go_enter Tryz.func61, Tryz.ntmps61
    go_wp2_with fail
    go_ret
    exact ⟨rfl, rfl⟩
set_option maxHeartbeats 400000 in
theorem refBeg_1 (s : ByteArray) (w : World) :
    Calls Tryz.prog 61 #[.int .i64 1, .string s] w fun e w' => e = .returned (.bool (begL 1 s.data.toList)) ∧ w = w' := by
  rw [begL_1]
  by_cases h0 : 1 < s.size
  · have h00 : 0 < s.size := by omega
    rw [show Lib.hasPrefix (s.data.toList.drop 0) [47, 42] = _ from hp_at s 0 h00 47 (by decide) [42], show Lib.hasPrefix (s.data.toList.drop (0 + 1)) [42] = _ from hp_at s 1 h0 42 (by decide) [], hp_nil, Bool.and_true]
    rw [show (((47 : Nat)) : Int) = 47 from rfl, show (((42 : Nat)) : Int) = 42 from rfl]
    cases h1 : ((s[0].toNat : Int) == 47) with
    | true =>
      cases h2 : ((s[1].toNat : Int) == 42) with
      | true =>
        go_enter Tryz.func61, Tryz.ntmps61
        go_wp2_with fail
        go_ret
        exact ⟨rfl, rfl⟩
      | false =>
        go_enter Tryz.func61, Tryz.ntmps61
        go_wp2_with fail
        go_ret
        exact ⟨rfl, rfl⟩
    | false =>
      go_enter Tryz.func61, Tryz.ntmps61
      go_wp2_with fail
      go_ret
      exact ⟨rfl, rfl⟩
  · have e : Lib.hasPrefix (s.data.toList.drop 0) [47, 42] = false := by
      by_cases h00 : 0 < s.size
      · rw [show Lib.hasPrefix (s.data.toList.drop 0) [47, 42] = _ from hp_at s 0 h00 47 (by decide) [42], hp_off s 1 h0, Bool.and_false]
      · exact hp_off s 0 h00 _ _
    rw [e]
    clear e
    go_enter Tryz.func61, Tryz.ntmps61
    go_wp2_with fail
    go_ret
    exact ⟨rfl, rfl⟩
end Go.Proofs.YtpcldpnaljheoaaGreatDoor.X
end
section
namespace Go.Proofs.YtpcldpnaljheoaaGreatDoor.X
open Go.RowKit

theorem Own.shape {w0 wr : World} {v : Value} {acc : List UInt8} (h : Own w0 v acc wr) : ∃ a c, v = .slice a acc.length c := by
  rcases h.val with ⟨rfl, rfl⟩ | ⟨g, cap, rfl⟩
  · exact ⟨none, 0, rfl⟩
  · exact ⟨some ⟨g, 0, none⟩, cap, rfl⟩
set_option maxHeartbeats 400000 in
theorem refRead_no (d : Int) (s : ByteArray) (w : World) (hd : ¬ Dia d) :
    Calls Tryz.prog 62 #[.int .i64 d, .string s] w fun e w' => e = .returned (ans ([], 0, 1)) ∧ Below w.heap.size w w' := by
  have h0 : (d != 0) = true := by unfold Dia at hd; simp; omega
  have h1 : (d != 1) = true := by unfold Dia at hd; simp; omega
  clear hd
  go_enter Tryz.func62, Tryz.ntmps62
  go_wp2_with fail
  go_ret3
  exact ⟨rfl, Below.refl _ _⟩
set_option maxRecDepth 100000 in
set_option maxHeartbeats 4000000 in
theorem refRead_yes0 (s : ByteArray) (res : List UInt8 × Nat × Nat) (w : World) (hres : rd 0 (s.data.toList.drop 1) false [] 1 = res) (hs : s.size ≤ maxLen) (hn : 1 ≤ s.size) (hb : begL 0 s.data.toList = true) :
    Calls Tryz.prog 62 #[.int .i64 0, .string s] w fun e w' => e = .returned (ans res) ∧ Below w.heap.size w w' := by
  unfold maxLen at hs
  have HB := Lib.hid hb
  have RS := Lib.hid hres
  have O := Lib.hid (Own.nil w)
  clear hb hres
  go_enter Tryz.func62, Tryz.ntmps62
  go_wp2_with fail
  refine (refBeg_0 s _).mono ?_
  rw [HB.out]
  rintro e w1 ⟨rfl, rfl⟩
  go_wp2_with fail
  go_loopw [7, 8] (fun v i wr => ∃ (k : Nat) (acc : List UInt8), i = .int .i64 k ∧ Own w v acc wr ∧ rd 0 (s.data.toList.drop k) false acc k = res ∧ acc.length ≤ 1024 ∧ k ≤ s.size) (fun _ i _ => s.size - (intOf i).toNat)
  case atStart => exact ⟨1, [], rfl, O.out, RS.out, by decide, hn⟩
  case round =>
    obtain ⟨k, acc, rfl, ho, hrd, hal, hk⟩ := hrel
    obtain ⟨va, vc, rfl⟩ := ho.shape
    have hcv := ho.conv
    have O2 := Lib.hid ho
    have RD := Lib.hid hrd
    clear ho hrd RS O
    by_cases hlt : k < s.size
    · have Q := Lib.hid (bt_eq s k hlt)
      have X : Hid (res = if clos 0 (s.data.toList.drop k) = true then (acc, k + 1, 0)
          else if (bt s k == 92) = true then rd 0 (s.data.toList.drop (k + 1)) true acc (k + 1)
          else if okB (bt s k) = false then ([], 0, 8)
          else if acc.length = 1024 then ([], 0, 3)
          else rd 0 (s.data.toList.drop (k + 1)) false (acc ++ [bt s k]) (k + 1)) := Lib.hid (by
        rw [← RD.out, drop_bt s k hlt, rd_f]; rfl)
      have hcl : clos 0 (s.data.toList.drop k) = ((s[k].toNat : Int) == 125) := by
        rw [show clos 0 (s.data.toList.drop k) = _ from hp_at s k hlt 125 (by decide) [], hp_nil, Bool.and_true]; rfl
      have HC := Lib.hid hcl
      clear hcl
      cases h1 : ((s[k].toNat : Int) == 125) with
      | true =>
        have F : Hid (res = (acc, k + 1, 0)) := Lib.hid (by rw [X.out, HC.out, h1, if_pos rfl])
        go_wp2_with fail
        go_ret3
        refine ⟨Eq.trans (ans_ok acc _ (k + 1) (by omega)) (by rw [F.out]), O2.out.bel⟩
      | false =>
        have CL : Hid (clos 0 (s.data.toList.drop k) = false) := Lib.hid (by rw [HC.out, h1])
        clear HC
        cases h92 : ((s[k].toNat : Int) == 92) with
        | true =>
          have H92 : Hid ((bt s k == 92) = true) := Lib.hid (by rw [← Q.out, ← h92]; exact (eqb _ 92 (by decide)).symm)
          by_cases hk1 : k + 1 < s.size
          · have QI := Lib.hid (bt_eq s (k + 1) hk1)
            have hie : (((k : Int) + 1) == (s.size : Int)) = false := by simp; omega
            have Z : Hid (res = if (bt s (k + 1) == 92 || bt s (k + 1) == 125) = true then (if acc.length = 1024 then ([], 0, 3) else rd 0 (s.data.toList.drop (k + 2)) false (acc ++ [bt s (k + 1)]) (k + 2)) else ([], 0, 8)) := Lib.hid (by
              rw [X.out, CL.out, if_neg (by decide), H92.out, if_pos rfl, drop_bt s (k + 1) hk1, rd_t]; rfl)
            have ea : ((s[k + 1].toNat : Int) != 92) = !(bt s (k + 1) == 92) := by unfold bne; rw [show ((s[k + 1].toNat : Int) == 92) = _ from eqb _ 92 (by decide), QI.out]; rfl
            have eb : ((s[k + 1].toNat : Int) == 125) = (bt s (k + 1) == 125) := by rw [show ((s[k + 1].toNat : Int) == 125) = _ from eqb _ 125 (by decide), QI.out]; rfl
            cases g1 : (bt s (k + 1) == 92) with
            | true =>
              have Y : Hid (res = if okB (bt s (k + 1)) = false then ([], 0, 8) else if acc.length = 1024 then ([], 0, 3) else rd 0 (s.data.toList.drop (k + 2)) false (acc ++ [bt s (k + 1)]) (k + 2)) := Lib.hid (by
                rw [Z.out, g1, if_pos (by rfl), show okB (bt s (k + 1)) = true by rw [eq_of_beq g1]; decide, if_neg (show ¬ (true = false) by decide)])
              rw [g1] at ea
              clear g1 eb
              cases hok : okB (bt s (k + 1)) with
              | false =>
                have F : Hid (res = ([], 0, 8)) := Lib.hid (by rw [Y.out, hok]; rfl)
                have OK := Lib.hid hok
                clear hok
                go_wp2_with fail
                refine (right_any _ _).mono ?_
                rw [QI.out, show okZ ((bt s (k + 1)).toNat : Int) = false from OK.out]
                rintro e w4 ⟨rfl, rfl⟩
                go_wp2_with fail
                go_ret3
                refine ⟨?_, O2.out.bel⟩
                rw [F.out]
                rfl
              | true =>
                have OK := Lib.hid hok
                clear hok
                by_cases hfull : acc.length = 1024
                · have F : Hid (res = ([], 0, 3)) := Lib.hid (by rw [Y.out, OK.out, if_neg (by decide), if_pos hfull])
                  have hf : ((acc.length : Int) == 1024) = true := by simp; omega
                  clear hfull
                  go_wp2_with fail
                  refine (right_any _ _).mono ?_
                  rw [QI.out, show okZ ((bt s (k + 1)).toNat : Int) = true from OK.out]
                  rintro e w4 ⟨rfl, rfl⟩
                  go_wp2_with fail
                  go_ret3
                  refine ⟨?_, O2.out.bel⟩
                  rw [F.out]
                  rfl
                · have F : Hid (rd 0 (s.data.toList.drop (k + 2)) false (acc ++ [bt s (k + 1)]) (k + 2) = res) := Lib.hid (by rw [Y.out, OK.out, if_neg (by decide), if_neg hfull])
                  have hf : ((acc.length : Int) == 1024) = false := by simp; omega
                  have hal2 : acc.length + 1 ≤ 1024 := by omega
                  clear hfull
                  go_wp2_with fail
                  refine (right_any _ _).mono ?_
                  rw [QI.out, show okZ ((bt s (k + 1)).toNat : Int) = true from OK.out]
                  rintro e w4 ⟨rfl, rfl⟩
                  go_wp2_with (at_builtin; refine wp_app rfl (.tmp 100) (.tmp 102) rfl #[.int .u8 ((bt s (k + 1)).toNat : Nat)] [bt s (k + 1)] 1 rfl rfl O2.out rfl rfl (by omega) (by decide) ?_)
                  intro v5 w5 o5
                  have O5 := Lib.hid o5
                  clear o5
                  go_wp2_with fail
                  go_roundw
                  case rel => exact ⟨k + 2, _, by go_num, O5.out, F.out, by simp; omega, by omega⟩
                  case measure => simp [intOf]; omega
            | false =>
              rw [g1] at ea
              cases g2 : (bt s (k + 1) == 125) with
              | true =>
                have Y : Hid (res = if okB (bt s (k + 1)) = false then ([], 0, 8) else if acc.length = 1024 then ([], 0, 3) else rd 0 (s.data.toList.drop (k + 2)) false (acc ++ [bt s (k + 1)]) (k + 2)) := Lib.hid (by
                  rw [Z.out, g1, g2, if_pos (by rfl), show okB (bt s (k + 1)) = true by rw [eq_of_beq g2]; decide, if_neg (show ¬ (true = false) by decide)])
                rw [g2] at eb
                clear g1 g2
                cases hok : okB (bt s (k + 1)) with
                | false =>
                  have F : Hid (res = ([], 0, 8)) := Lib.hid (by rw [Y.out, hok]; rfl)
                  have OK := Lib.hid hok
                  clear hok
                  go_wp2_with fail
                  refine (right_any _ _).mono ?_
                  rw [QI.out, show okZ ((bt s (k + 1)).toNat : Int) = false from OK.out]
                  rintro e w4 ⟨rfl, rfl⟩
                  go_wp2_with fail
                  go_ret3
                  refine ⟨?_, O2.out.bel⟩
                  rw [F.out]
                  rfl
                | true =>
                  have OK := Lib.hid hok
                  clear hok
                  by_cases hfull : acc.length = 1024
                  · have F : Hid (res = ([], 0, 3)) := Lib.hid (by rw [Y.out, OK.out, if_neg (by decide), if_pos hfull])
                    have hf : ((acc.length : Int) == 1024) = true := by simp; omega
                    clear hfull
                    go_wp2_with fail
                    refine (right_any _ _).mono ?_
                    rw [QI.out, show okZ ((bt s (k + 1)).toNat : Int) = true from OK.out]
                    rintro e w4 ⟨rfl, rfl⟩
                    go_wp2_with fail
                    go_ret3
                    refine ⟨?_, O2.out.bel⟩
                    rw [F.out]
                    rfl
                  · have F : Hid (rd 0 (s.data.toList.drop (k + 2)) false (acc ++ [bt s (k + 1)]) (k + 2) = res) := Lib.hid (by rw [Y.out, OK.out, if_neg (by decide), if_neg hfull])
                    have hf : ((acc.length : Int) == 1024) = false := by simp; omega
                    have hal2 : acc.length + 1 ≤ 1024 := by omega
                    clear hfull
                    go_wp2_with fail
                    refine (right_any _ _).mono ?_
                    rw [QI.out, show okZ ((bt s (k + 1)).toNat : Int) = true from OK.out]
                    rintro e w4 ⟨rfl, rfl⟩
                    go_wp2_with (at_builtin; refine wp_app rfl (.tmp 100) (.tmp 102) rfl #[.int .u8 ((bt s (k + 1)).toNat : Nat)] [bt s (k + 1)] 1 rfl rfl O2.out rfl rfl (by omega) (by decide) ?_)
                    intro v5 w5 o5
                    have O5 := Lib.hid o5
                    clear o5
                    go_wp2_with fail
                    go_roundw
                    case rel => exact ⟨k + 2, _, by go_num, O5.out, F.out, by simp; omega, by omega⟩
                    case measure => simp [intOf]; omega
              | false =>
                have F : Hid (res = ([], 0, 8)) := Lib.hid (by rw [Z.out, g1, g2, if_neg (by decide)])
                rw [g2] at eb
                clear g1 g2
                go_wp2_with fail
                go_ret3
                refine ⟨?_, O2.out.bel⟩
                rw [F.out]
                rfl
          · have F : Hid (res = ([], 0, 8)) := Lib.hid (by
              rw [X.out, CL.out, if_neg (by decide), H92.out, if_pos rfl, drop_end s (k + 1) hk1, rd_nil])
            have hie : (((k : Int) + 1) == (s.size : Int)) = true := by simp; omega
            go_wp2_with fail
            go_ret3
            refine ⟨?_, O2.out.bel⟩
            rw [F.out]
            rfl
        | false =>
          have H92 : Hid ((bt s k == 92) = false) := Lib.hid (by rw [← Q.out, ← h92]; exact (eqb _ 92 (by decide)).symm)
          have QI := Lib.hid Q.out
          have Y : Hid (res = if okB (bt s k) = false then ([], 0, 8) else if acc.length = 1024 then ([], 0, 3) else rd 0 (s.data.toList.drop (k + 1)) false (acc ++ [bt s k]) (k + 1)) := Lib.hid (by
            rw [X.out, CL.out, if_neg (show ¬ (false = true) by decide), H92.out, if_neg (show ¬ (false = true) by decide)])
          cases hok : okB (bt s (k)) with
          | false =>
            have F : Hid (res = ([], 0, 8)) := Lib.hid (by rw [Y.out, hok]; rfl)
            have OK := Lib.hid hok
            clear hok
            go_wp2_with fail
            refine (right_any _ _).mono ?_
            rw [QI.out, show okZ ((bt s (k)).toNat : Int) = false from OK.out]
            rintro e w4 ⟨rfl, rfl⟩
            go_wp2_with fail
            go_ret3
            refine ⟨?_, O2.out.bel⟩
            rw [F.out]
            rfl
          | true =>
            have OK := Lib.hid hok
            clear hok
            by_cases hfull : acc.length = 1024
            · have F : Hid (res = ([], 0, 3)) := Lib.hid (by rw [Y.out, OK.out, if_neg (by decide), if_pos hfull])
              have hf : ((acc.length : Int) == 1024) = true := by simp; omega
              clear hfull
              go_wp2_with fail
              refine (right_any _ _).mono ?_
              rw [QI.out, show okZ ((bt s (k)).toNat : Int) = true from OK.out]
              rintro e w4 ⟨rfl, rfl⟩
              go_wp2_with fail
              go_ret3
              refine ⟨?_, O2.out.bel⟩
              rw [F.out]
              rfl
            · have F : Hid (rd 0 (s.data.toList.drop (k + 1)) false (acc ++ [bt s (k)]) (k + 1) = res) := Lib.hid (by rw [Y.out, OK.out, if_neg (by decide), if_neg hfull])
              have hf : ((acc.length : Int) == 1024) = false := by simp; omega
              have hal2 : acc.length + 1 ≤ 1024 := by omega
              clear hfull
              go_wp2_with fail
              refine (right_any _ _).mono ?_
              rw [QI.out, show okZ ((bt s (k)).toNat : Int) = true from OK.out]
              rintro e w4 ⟨rfl, rfl⟩
              go_wp2_with (at_builtin; refine wp_app rfl (.tmp 100) (.tmp 102) rfl #[.int .u8 ((bt s (k)).toNat : Nat)] [bt s (k)] 1 rfl rfl O2.out rfl rfl (by omega) (by decide) ?_)
              intro v5 w5 o5
              have O5 := Lib.hid o5
              clear o5
              go_wp2_with fail
              go_roundw
              case rel => exact ⟨k + 1, _, by go_num, O5.out, F.out, by simp; omega, by omega⟩
              case measure => simp [intOf]; omega
    · have F : Hid (res = ([], 0, 8)) := Lib.hid (by rw [← RD.out, drop_end s k hlt, rd_nil])
      go_wp2_with fail
      go_ret3
      refine ⟨?_, O2.out.bel⟩
      rw [F.out]
      rfl
set_option maxRecDepth 100000 in
set_option maxHeartbeats 4000000 in
theorem refRead_yes1 (s : ByteArray) (res : List UInt8 × Nat × Nat) (w : World) (hres : rd 1 (s.data.toList.drop 2) false [] 2 = res) (hs : s.size ≤ maxLen) (hn : 2 ≤ s.size) (hb : begL 1 s.data.toList = true) :
    Calls Tryz.prog 62 #[.int .i64 1, .string s] w fun e w' => e = .returned (ans res) ∧ Below w.heap.size w w' := by
  unfold maxLen at hs
  have HB := Lib.hid hb
  have RS := Lib.hid hres
  have O := Lib.hid (Own.nil w)
  clear hb hres
  go_enter Tryz.func62, Tryz.ntmps62
  go_wp2_with fail
  refine (refBeg_1 s _).mono ?_
  rw [HB.out]
  rintro e w1 ⟨rfl, rfl⟩
  go_wp2_with fail
  go_loopw [7, 8] (fun v i wr => ∃ (k : Nat) (acc : List UInt8), i = .int .i64 k ∧ Own w v acc wr ∧ rd 1 (s.data.toList.drop k) false acc k = res ∧ acc.length ≤ 1024 ∧ k ≤ s.size) (fun _ i _ => s.size - (intOf i).toNat)
  case atStart => exact ⟨2, [], rfl, O.out, RS.out, by decide, hn⟩
  case round =>
    obtain ⟨k, acc, rfl, ho, hrd, hal, hk⟩ := hrel
    obtain ⟨va, vc, rfl⟩ := ho.shape
    have hcv := ho.conv
    have O2 := Lib.hid ho
    have RD := Lib.hid hrd
    clear ho hrd RS O
    by_cases hlt : k < s.size
    · have Q := Lib.hid (bt_eq s k hlt)
      have X : Hid (res = if clos 1 (s.data.toList.drop k) = true then (acc, k + 2, 0)
          else if (bt s k == 92) = true then rd 1 (s.data.toList.drop (k + 1)) true acc (k + 1)
          else if okB (bt s k) = false then ([], 0, 8)
          else if acc.length = 1024 then ([], 0, 3)
          else rd 1 (s.data.toList.drop (k + 1)) false (acc ++ [bt s k]) (k + 1)) := Lib.hid (by
        rw [← RD.out, drop_bt s k hlt, rd_f]; rfl)
      cases h1 : ((s[k].toNat : Int) == 42) with
      | true =>
        by_cases h2 : k + 1 < s.size
        · cases h3 : ((s[k + 1].toNat : Int) == 47) with
          | true =>
            have CL : Hid (clos 1 (s.data.toList.drop k) = true) := Lib.hid (by
              rw [show clos 1 (s.data.toList.drop k) = _ from hp_at s k hlt 42 (by decide) [47], show Lib.hasPrefix (s.data.toList.drop (k + 1)) [47] = _ from hp_at s (k + 1) h2 47 (by decide) [], hp_nil, Bool.and_true]
              rw [show (((42 : Nat)) : Int) = 42 from rfl, show (((47 : Nat)) : Int) = 47 from rfl, h1, h3]; rfl)
            have F : Hid (res = (acc, k + 2, 0)) := Lib.hid (by rw [X.out, CL.out, if_pos rfl])
            go_wp2_with fail
            go_ret3
            refine ⟨Eq.trans (ans_ok acc _ (k + 2) (by omega)) (by rw [F.out]), O2.out.bel⟩
          | false =>
            have CL : Hid (clos 1 (s.data.toList.drop k) = false) := Lib.hid (by
              rw [show clos 1 (s.data.toList.drop k) = _ from hp_at s k hlt 42 (by decide) [47], show Lib.hasPrefix (s.data.toList.drop (k + 1)) [47] = _ from hp_at s (k + 1) h2 47 (by decide) [], hp_nil, Bool.and_true]
              rw [show (((42 : Nat)) : Int) = 42 from rfl, show (((47 : Nat)) : Int) = 47 from rfl, h1, h3]; rfl)
            have h92 : ((s[k].toNat : Int) == 92) = false := by
              have := h1
              simp at this ⊢
              omega
            have H92 : Hid ((bt s k == 92) = false) := Lib.hid (by rw [← Q.out, ← h92]; exact (eqb _ 92 (by decide)).symm)
            have QI := Lib.hid Q.out
            have Y : Hid (res = if okB (bt s k) = false then ([], 0, 8) else if acc.length = 1024 then ([], 0, 3) else rd 1 (s.data.toList.drop (k + 1)) false (acc ++ [bt s k]) (k + 1)) := Lib.hid (by
              rw [X.out, CL.out, if_neg (show ¬ (false = true) by decide), H92.out, if_neg (show ¬ (false = true) by decide)])
            cases hok : okB (bt s (k)) with
            | false =>
              have F : Hid (res = ([], 0, 8)) := Lib.hid (by rw [Y.out, hok]; rfl)
              have OK := Lib.hid hok
              clear hok
              go_wp2_with fail
              refine (right_any _ _).mono ?_
              rw [QI.out, show okZ ((bt s (k)).toNat : Int) = false from OK.out]
              rintro e w4 ⟨rfl, rfl⟩
              go_wp2_with fail
              go_ret3
              refine ⟨?_, O2.out.bel⟩
              rw [F.out]
              rfl
            | true =>
              have OK := Lib.hid hok
              clear hok
              by_cases hfull : acc.length = 1024
              · have F : Hid (res = ([], 0, 3)) := Lib.hid (by rw [Y.out, OK.out, if_neg (by decide), if_pos hfull])
                have hf : ((acc.length : Int) == 1024) = true := by simp; omega
                clear hfull
                go_wp2_with fail
                refine (right_any _ _).mono ?_
                rw [QI.out, show okZ ((bt s (k)).toNat : Int) = true from OK.out]
                rintro e w4 ⟨rfl, rfl⟩
                go_wp2_with fail
                go_ret3
                refine ⟨?_, O2.out.bel⟩
                rw [F.out]
                rfl
              · have F : Hid (rd 1 (s.data.toList.drop (k + 1)) false (acc ++ [bt s (k)]) (k + 1) = res) := Lib.hid (by rw [Y.out, OK.out, if_neg (by decide), if_neg hfull])
                have hf : ((acc.length : Int) == 1024) = false := by simp; omega
                have hal2 : acc.length + 1 ≤ 1024 := by omega
                clear hfull
                go_wp2_with fail
                refine (right_any _ _).mono ?_
                rw [QI.out, show okZ ((bt s (k)).toNat : Int) = true from OK.out]
                rintro e w4 ⟨rfl, rfl⟩
                go_wp2_with (at_builtin; refine wp_app rfl (.tmp 100) (.tmp 102) rfl #[.int .u8 ((bt s (k)).toNat : Nat)] [bt s (k)] 1 rfl rfl O2.out rfl rfl (by omega) (by decide) ?_)
                intro v5 w5 o5
                have O5 := Lib.hid o5
                clear o5
                go_wp2_with fail
                go_roundw
                case rel => exact ⟨k + 1, _, by go_num, O5.out, F.out, by simp; omega, by omega⟩
                case measure => simp [intOf]; omega
        · have CL : Hid (clos 1 (s.data.toList.drop k) = false) := Lib.hid (by
            rw [show clos 1 (s.data.toList.drop k) = _ from hp_at s k hlt 42 (by decide) [47], hp_off s (k + 1) h2, Bool.and_false])
          have h92 : ((s[k].toNat : Int) == 92) = false := by
            have := h1
            simp at this ⊢
            omega
          have H92 : Hid ((bt s k == 92) = false) := Lib.hid (by rw [← Q.out, ← h92]; exact (eqb _ 92 (by decide)).symm)
          have QI := Lib.hid Q.out
          have Y : Hid (res = if okB (bt s k) = false then ([], 0, 8) else if acc.length = 1024 then ([], 0, 3) else rd 1 (s.data.toList.drop (k + 1)) false (acc ++ [bt s k]) (k + 1)) := Lib.hid (by
            rw [X.out, CL.out, if_neg (show ¬ (false = true) by decide), H92.out, if_neg (show ¬ (false = true) by decide)])
          cases hok : okB (bt s (k)) with
          | false =>
            have F : Hid (res = ([], 0, 8)) := Lib.hid (by rw [Y.out, hok]; rfl)
            have OK := Lib.hid hok
            clear hok
            go_wp2_with fail
            refine (right_any _ _).mono ?_
            rw [QI.out, show okZ ((bt s (k)).toNat : Int) = false from OK.out]
            rintro e w4 ⟨rfl, rfl⟩
            go_wp2_with fail
            go_ret3
            refine ⟨?_, O2.out.bel⟩
            rw [F.out]
            rfl
          | true =>
            have OK := Lib.hid hok
            clear hok
            by_cases hfull : acc.length = 1024
            · have F : Hid (res = ([], 0, 3)) := Lib.hid (by rw [Y.out, OK.out, if_neg (by decide), if_pos hfull])
              have hf : ((acc.length : Int) == 1024) = true := by simp; omega
              clear hfull
              go_wp2_with fail
              refine (right_any _ _).mono ?_
              rw [QI.out, show okZ ((bt s (k)).toNat : Int) = true from OK.out]
              rintro e w4 ⟨rfl, rfl⟩
              go_wp2_with fail
              go_ret3
              refine ⟨?_, O2.out.bel⟩
              rw [F.out]
              rfl
            · have F : Hid (rd 1 (s.data.toList.drop (k + 1)) false (acc ++ [bt s (k)]) (k + 1) = res) := Lib.hid (by rw [Y.out, OK.out, if_neg (by decide), if_neg hfull])
              have hf : ((acc.length : Int) == 1024) = false := by simp; omega
              have hal2 : acc.length + 1 ≤ 1024 := by omega
              clear hfull
              go_wp2_with fail
              refine (right_any _ _).mono ?_
              rw [QI.out, show okZ ((bt s (k)).toNat : Int) = true from OK.out]
              rintro e w4 ⟨rfl, rfl⟩
              go_wp2_with (at_builtin; refine wp_app rfl (.tmp 100) (.tmp 102) rfl #[.int .u8 ((bt s (k)).toNat : Nat)] [bt s (k)] 1 rfl rfl O2.out rfl rfl (by omega) (by decide) ?_)
              intro v5 w5 o5
              have O5 := Lib.hid o5
              clear o5
              go_wp2_with fail
              go_roundw
              case rel => exact ⟨k + 1, _, by go_num, O5.out, F.out, by simp; omega, by omega⟩
              case measure => simp [intOf]; omega
      | false =>
        have CL : Hid (clos 1 (s.data.toList.drop k) = false) := Lib.hid (by
          rw [show clos 1 (s.data.toList.drop k) = _ from hp_at s k hlt 42 (by decide) [47]]
          rw [show (((42 : Nat)) : Int) = 42 from rfl, h1]; rfl)
        cases h92 : ((s[k].toNat : Int) == 92) with
        | true =>
          have H92 : Hid ((bt s k == 92) = true) := Lib.hid (by rw [← Q.out, ← h92]; exact (eqb _ 92 (by decide)).symm)
          by_cases hk1 : k + 1 < s.size
          · have QI := Lib.hid (bt_eq s (k + 1) hk1)
            have hie : (((k : Int) + 1) == (s.size : Int)) = false := by simp; omega
            have Z : Hid (res = if (bt s (k + 1) == 92 || bt s (k + 1) == 42) = true then (if acc.length = 1024 then ([], 0, 3) else rd 1 (s.data.toList.drop (k + 2)) false (acc ++ [bt s (k + 1)]) (k + 2)) else ([], 0, 8)) := Lib.hid (by
              rw [X.out, CL.out, if_neg (by decide), H92.out, if_pos rfl, drop_bt s (k + 1) hk1, rd_t]; rfl)
            have ea : ((s[k + 1].toNat : Int) != 92) = !(bt s (k + 1) == 92) := by unfold bne; rw [show ((s[k + 1].toNat : Int) == 92) = _ from eqb _ 92 (by decide), QI.out]; rfl
            have eb : ((s[k + 1].toNat : Int) == 42) = (bt s (k + 1) == 42) := by rw [show ((s[k + 1].toNat : Int) == 42) = _ from eqb _ 42 (by decide), QI.out]; rfl
            cases g1 : (bt s (k + 1) == 92) with
            | true =>
              have Y : Hid (res = if okB (bt s (k + 1)) = false then ([], 0, 8) else if acc.length = 1024 then ([], 0, 3) else rd 1 (s.data.toList.drop (k + 2)) false (acc ++ [bt s (k + 1)]) (k + 2)) := Lib.hid (by
                rw [Z.out, g1, if_pos (by rfl), show okB (bt s (k + 1)) = true by rw [eq_of_beq g1]; decide, if_neg (show ¬ (true = false) by decide)])
              rw [g1] at ea
              clear g1 eb
              cases hok : okB (bt s (k + 1)) with
              | false =>
                have F : Hid (res = ([], 0, 8)) := Lib.hid (by rw [Y.out, hok]; rfl)
                have OK := Lib.hid hok
                clear hok
                go_wp2_with fail
                refine (right_any _ _).mono ?_
                rw [QI.out, show okZ ((bt s (k + 1)).toNat : Int) = false from OK.out]
                rintro e w4 ⟨rfl, rfl⟩
                go_wp2_with fail
                go_ret3
                refine ⟨?_, O2.out.bel⟩
                rw [F.out]
                rfl
              | true =>
                have OK := Lib.hid hok
                clear hok
                by_cases hfull : acc.length = 1024
                · have F : Hid (res = ([], 0, 3)) := Lib.hid (by rw [Y.out, OK.out, if_neg (by decide), if_pos hfull])
                  have hf : ((acc.length : Int) == 1024) = true := by simp; omega
                  clear hfull
                  go_wp2_with fail
                  refine (right_any _ _).mono ?_
                  rw [QI.out, show okZ ((bt s (k + 1)).toNat : Int) = true from OK.out]
                  rintro e w4 ⟨rfl, rfl⟩
                  go_wp2_with fail
                  go_ret3
                  refine ⟨?_, O2.out.bel⟩
                  rw [F.out]
                  rfl
                · have F : Hid (rd 1 (s.data.toList.drop (k + 2)) false (acc ++ [bt s (k + 1)]) (k + 2) = res) := Lib.hid (by rw [Y.out, OK.out, if_neg (by decide), if_neg hfull])
                  have hf : ((acc.length : Int) == 1024) = false := by simp; omega
                  have hal2 : acc.length + 1 ≤ 1024 := by omega
                  clear hfull
                  go_wp2_with fail
                  refine (right_any _ _).mono ?_
                  rw [QI.out, show okZ ((bt s (k + 1)).toNat : Int) = true from OK.out]
                  rintro e w4 ⟨rfl, rfl⟩
                  go_wp2_with (at_builtin; refine wp_app rfl (.tmp 100) (.tmp 102) rfl #[.int .u8 ((bt s (k + 1)).toNat : Nat)] [bt s (k + 1)] 1 rfl rfl O2.out rfl rfl (by omega) (by decide) ?_)
                  intro v5 w5 o5
                  have O5 := Lib.hid o5
                  clear o5
                  go_wp2_with fail
                  go_roundw
                  case rel => exact ⟨k + 2, _, by go_num, O5.out, F.out, by simp; omega, by omega⟩
                  case measure => simp [intOf]; omega
            | false =>
              rw [g1] at ea
              cases g2 : (bt s (k + 1) == 42) with
              | true =>
                have Y : Hid (res = if okB (bt s (k + 1)) = false then ([], 0, 8) else if acc.length = 1024 then ([], 0, 3) else rd 1 (s.data.toList.drop (k + 2)) false (acc ++ [bt s (k + 1)]) (k + 2)) := Lib.hid (by
                  rw [Z.out, g1, g2, if_pos (by rfl), show okB (bt s (k + 1)) = true by rw [eq_of_beq g2]; decide, if_neg (show ¬ (true = false) by decide)])
                rw [g2] at eb
                clear g1 g2
                cases hok : okB (bt s (k + 1)) with
                | false =>
                  have F : Hid (res = ([], 0, 8)) := Lib.hid (by rw [Y.out, hok]; rfl)
                  have OK := Lib.hid hok
                  clear hok
                  go_wp2_with fail
                  refine (right_any _ _).mono ?_
                  rw [QI.out, show okZ ((bt s (k + 1)).toNat : Int) = false from OK.out]
                  rintro e w4 ⟨rfl, rfl⟩
                  go_wp2_with fail
                  go_ret3
                  refine ⟨?_, O2.out.bel⟩
                  rw [F.out]
                  rfl
                | true =>
                  have OK := Lib.hid hok
                  clear hok
                  by_cases hfull : acc.length = 1024
                  · have F : Hid (res = ([], 0, 3)) := Lib.hid (by rw [Y.out, OK.out, if_neg (by decide), if_pos hfull])
                    have hf : ((acc.length : Int) == 1024) = true := by simp; omega
                    clear hfull
                    go_wp2_with fail
                    refine (right_any _ _).mono ?_
                    rw [QI.out, show okZ ((bt s (k + 1)).toNat : Int) = true from OK.out]
                    rintro e w4 ⟨rfl, rfl⟩
                    go_wp2_with fail
                    go_ret3
                    refine ⟨?_, O2.out.bel⟩
                    rw [F.out]
                    rfl
                  · have F : Hid (rd 1 (s.data.toList.drop (k + 2)) false (acc ++ [bt s (k + 1)]) (k + 2) = res) := Lib.hid (by rw [Y.out, OK.out, if_neg (by decide), if_neg hfull])
                    have hf : ((acc.length : Int) == 1024) = false := by simp; omega
                    have hal2 : acc.length + 1 ≤ 1024 := by omega
                    clear hfull
                    go_wp2_with fail
                    refine (right_any _ _).mono ?_
                    rw [QI.out, show okZ ((bt s (k + 1)).toNat : Int) = true from OK.out]
                    rintro e w4 ⟨rfl, rfl⟩
                    go_wp2_with (at_builtin; refine wp_app rfl (.tmp 100) (.tmp 102) rfl #[.int .u8 ((bt s (k + 1)).toNat : Nat)] [bt s (k + 1)] 1 rfl rfl O2.out rfl rfl (by omega) (by decide) ?_)
                    intro v5 w5 o5
                    have O5 := Lib.hid o5
                    clear o5
                    go_wp2_with fail
                    go_roundw
                    case rel => exact ⟨k + 2, _, by go_num, O5.out, F.out, by simp; omega, by omega⟩
                    case measure => simp [intOf]; omega
              | false =>
                have F : Hid (res = ([], 0, 8)) := Lib.hid (by rw [Z.out, g1, g2, if_neg (by decide)])
                rw [g2] at eb
                clear g1 g2
                go_wp2_with fail
                go_ret3
                refine ⟨?_, O2.out.bel⟩
                rw [F.out]
                rfl
          · have F : Hid (res = ([], 0, 8)) := Lib.hid (by
              rw [X.out, CL.out, if_neg (by decide), H92.out, if_pos rfl, drop_end s (k + 1) hk1, rd_nil])
            have hie : (((k : Int) + 1) == (s.size : Int)) = true := by simp; omega
            go_wp2_with fail
            go_ret3
            refine ⟨?_, O2.out.bel⟩
            rw [F.out]
            rfl
        | false =>
          have H92 : Hid ((bt s k == 92) = false) := Lib.hid (by rw [← Q.out, ← h92]; exact (eqb _ 92 (by decide)).symm)
          have QI := Lib.hid Q.out
          have Y : Hid (res = if okB (bt s k) = false then ([], 0, 8) else if acc.length = 1024 then ([], 0, 3) else rd 1 (s.data.toList.drop (k + 1)) false (acc ++ [bt s k]) (k + 1)) := Lib.hid (by
            rw [X.out, CL.out, if_neg (show ¬ (false = true) by decide), H92.out, if_neg (show ¬ (false = true) by decide)])
          cases hok : okB (bt s (k)) with
          | false =>
            have F : Hid (res = ([], 0, 8)) := Lib.hid (by rw [Y.out, hok]; rfl)
            have OK := Lib.hid hok
            clear hok
            go_wp2_with fail
            refine (right_any _ _).mono ?_
            rw [QI.out, show okZ ((bt s (k)).toNat : Int) = false from OK.out]
            rintro e w4 ⟨rfl, rfl⟩
            go_wp2_with fail
            go_ret3
            refine ⟨?_, O2.out.bel⟩
            rw [F.out]
            rfl
          | true =>
            have OK := Lib.hid hok
            clear hok
            by_cases hfull : acc.length = 1024
            · have F : Hid (res = ([], 0, 3)) := Lib.hid (by rw [Y.out, OK.out, if_neg (by decide), if_pos hfull])
              have hf : ((acc.length : Int) == 1024) = true := by simp; omega
              clear hfull
              go_wp2_with fail
              refine (right_any _ _).mono ?_
              rw [QI.out, show okZ ((bt s (k)).toNat : Int) = true from OK.out]
              rintro e w4 ⟨rfl, rfl⟩
              go_wp2_with fail
              go_ret3
              refine ⟨?_, O2.out.bel⟩
              rw [F.out]
              rfl
            · have F : Hid (rd 1 (s.data.toList.drop (k + 1)) false (acc ++ [bt s (k)]) (k + 1) = res) := Lib.hid (by rw [Y.out, OK.out, if_neg (by decide), if_neg hfull])
              have hf : ((acc.length : Int) == 1024) = false := by simp; omega
              have hal2 : acc.length + 1 ≤ 1024 := by omega
              clear hfull
              go_wp2_with fail
              refine (right_any _ _).mono ?_
              rw [QI.out, show okZ ((bt s (k)).toNat : Int) = true from OK.out]
              rintro e w4 ⟨rfl, rfl⟩
              go_wp2_with (at_builtin; refine wp_app rfl (.tmp 100) (.tmp 102) rfl #[.int .u8 ((bt s (k)).toNat : Nat)] [bt s (k)] 1 rfl rfl O2.out rfl rfl (by omega) (by decide) ?_)
              intro v5 w5 o5
              have O5 := Lib.hid o5
              clear o5
              go_wp2_with fail
              go_roundw
              case rel => exact ⟨k + 1, _, by go_num, O5.out, F.out, by simp; omega, by omega⟩
              case measure => simp [intOf]; omega
    · have F : Hid (res = ([], 0, 8)) := Lib.hid (by rw [← RD.out, drop_end s k hlt, rd_nil])
      go_wp2_with fail
      go_ret3
      refine ⟨?_, O2.out.bel⟩
      rw [F.out]
      rfl
set_option maxHeartbeats 400000 in
theorem refRead_not (d : Int) (s : ByteArray) (w : World) (hd : Dia d) (hb : begL d s.data.toList = false) :
    Calls Tryz.prog 62 #[.int .i64 d, .string s] w fun e w' => e = .returned (ans ([], 0, 8)) ∧ Below w.heap.size w w' := by
  have HB := Lib.hid hb
  clear hb
  rcases hd with rfl | rfl
  · go_enter Tryz.func62, Tryz.ntmps62
    go_wp2_with fail
    refine (refBeg_0 s _).mono ?_
    rw [HB.out]
    rintro e w1 ⟨rfl, rfl⟩
    go_wp2_with fail
    go_ret3
    exact ⟨rfl, Below.refl _ _⟩
  · go_enter Tryz.func62, Tryz.ntmps62
    go_wp2_with fail
    refine (refBeg_1 s _).mono ?_
    rw [HB.out]
    rintro e w1 ⟨rfl, rfl⟩
    go_wp2_with fail
    go_ret3
    exact ⟨rfl, Below.refl _ _⟩
theorem refRead_any (d : Int) (s : ByteArray) (w : World) (hs : s.size ≤ maxLen) :
    Calls Tryz.prog 62 #[.int .i64 d, .string s] w fun e w' => e = .returned (ans (readL d s.data.toList)) ∧ Below w.heap.size w w' := by
  unfold readL
  by_cases hd : Dia d
  · have hbl : begL d s.data.toList = begs d s.data.toList := by unfold begL; rw [hd.b]; rfl
    rw [hd.b, if_neg (by decide)]
    cases hb : begs d s.data.toList with
    | false => rw [if_pos rfl]; exact refRead_not d s w hd (by rw [hbl, hb])
    | true =>
      rw [if_neg (by decide)]
      have hz := begs_size d s hb
      rcases hd with rfl | rfl
      · exact refRead_yes0 s _ w rfl hs (by rw [show (opL 0).length = 1 from rfl] at hz; omega) (by rw [hbl, hb])
      · exact refRead_yes1 s _ w rfl hs (by rw [show (opL 1).length = 2 from rfl] at hz; omega) (by rw [hbl, hb])
  · rw [not_dia hd, if_pos rfl]
    exact refRead_no d s w hd
end Go.Proofs.YtpcldpnaljheoaaGreatDoor.X
end
section
namespace Go.Proofs.YtpcldpnaljheoaaGreatDoor.X.P
open Go.RowKit Go.Sort

theorem isDig_not (c : UInt8) (h : isDig c = false) : c.toNat < 48 ∨ 57 < c.toNat := by
  unfold isDig at h
  rw [← Bool.not_eq_true, Bool.and_eq_true, decide_eq_true_iff, decide_eq_true_iff] at h
  omega
theorem isDig_yes (c : UInt8) (h : isDig c = true) : 48 ≤ c.toNat ∧ c.toNat ≤ 57 := by
  unfold isDig at h
  simpa using h
theorem tw_from (p : UInt8 → Bool) (s : ByteArray) : ∀ n k, k + n = s.size → (∀ j, j < k → p (bt s j) = true) → (s.data.toList.takeWhile p).length = k + ((s.data.toList.drop k).takeWhile p).length := by
  intro n k hk hj
  have h := List.take_append_drop k s.data.toList
  have hall : ∀ c ∈ s.data.toList.take k, p c = true := by
    intro c hc
    obtain ⟨j, hj2⟩ := List.getElem?_of_mem hc
    have hjk : j < k := by have := (List.getElem?_eq_some_iff.1 hj2).1; rw [List.length_take] at this; omega
    rw [List.getElem?_take_of_lt hjk] at hj2
    have := hj j hjk
    unfold bt at this
    rw [List.getD_eq_getElem?_getD, hj2] at this
    exact this
  conv => lhs; rw [← h]
  rw [List.takeWhile_append_of_pos hall, List.length_append, List.length_take, len_size]
  omega
set_option maxHeartbeats 1000000 in
theorem refDigs (s : ByteArray) (w : World) (hs : s.size ≤ maxLen) :
    Calls Tryz.prog 64 #[.string s] w fun e w' => e = .returned (.int .i64 ((s.data.toList.takeWhile isDig).length : Nat)) ∧ w = w' := by
  unfold maxLen at hs
  go_enter Tryz.func64, Tryz.ntmps64
  go_wp2_with fail
  go_loop [3] (fun i => ∃ k : Nat, k ≤ s.size ∧ i = .int .i64 k ∧ ∀ j, j < k → isDig (bt s j) = true) (fun i => s.size - (intOf i).toNat)
  case atStart => exact ⟨0, Nat.zero_le _, rfl, fun j h => by omega⟩
  case round =>
    obtain ⟨k, hk, rfl, hall⟩ := hrel
    have TF := Lib.hid (tw_from isDig s (s.size - k) k (by omega) hall)
    have HA := Lib.hid hall
    clear hall
    by_cases hlt : k < s.size
    · have DB := Lib.hid (drop_bt s k hlt)
      have hbe := bt_eq s k hlt
      cases hd : isDig (bt s k) with
      | true =>
        have h1 := isDig_yes _ hd
        have d1 : decide ((48 : Int) ≤ ((bt s k).toNat : Int)) = true := by simp; omega
        have d2 : decide (((bt s k).toNat : Int) ≤ 57) = true := by simp; omega
        have HD := Lib.hid hd
        clear hd
        go_wp2_with fail
        go_round
        case rel => exact ⟨k + 1, by omega, by go_num, fun j hj => by
          rcases Nat.lt_or_ge j k with h | h
          · exact HA.out j h
          · obtain rfl : j = k := by omega
            exact HD.out⟩
        case measure => simp [intOf]; omega
      | false =>
        have hfin : (s.data.toList.takeWhile isDig).length = k := by
          rw [TF.out, DB.out, List.takeWhile_cons, hd]; rfl
        have HF := Lib.hid hfin
        clear hfin
        rcases isDig_not _ hd with h1 | h1
        · have d1 : decide ((48 : Int) ≤ ((bt s k).toNat : Int)) = false := by simp; omega
          clear hd
          go_wp2_with fail
          go_ret
          rw [HF.out]
          exact ⟨rfl, rfl⟩
        · have d1 : decide ((48 : Int) ≤ ((bt s k).toNat : Int)) = true := by simp; omega
          have d2 : decide (((bt s k).toNat : Int) ≤ 57) = false := by simp; omega
          clear hd
          go_wp2_with fail
          go_ret
          rw [HF.out]
          exact ⟨rfl, rfl⟩
    · have hfin : (s.data.toList.takeWhile isDig).length = k := by
        rw [TF.out, drop_end s k hlt]; rfl
      have HF := Lib.hid hfin
      clear hfin
      go_wp2_with fail
      go_ret
      rw [HF.out]
      exact ⟨rfl, rfl⟩
def letB (n : Nat) : Bool := (decide (97 ≤ n) && decide (n ≤ 122)) || (decide (n = 95) || (decide (48 ≤ n) && decide (n ≤ 57)))
set_option maxHeartbeats 1000000 in
theorem refLetter (n : Nat) (w : World) (hn : n ≤ 255) : Calls Tryz.prog 102 #[.int .u8 (n : Int), .bool false] w fun e w' => e = .returned (.bool (letB n)) ∧ w = w' := by
  by_cases hb : 97 ≤ n ∧ n ≤ 122
  · have e : letB n = true := by unfold letB; simp [hb.1, hb.2]
    rw [e]
    have d1 : decide ((97 : Int) ≤ (n : Int)) = true := by simp; omega
    have d2 : decide ((n : Int) ≤ 122) = true := by simp; omega
    clear hb e
    go_enter Tryz.func102, Tryz.ntmps102
    go_wp2_with fail
    go_ret
    exact ⟨rfl, rfl⟩
  · have eb : (decide (97 ≤ n) && decide (n ≤ 122)) = false := by
      rw [← Bool.not_eq_true, Bool.and_eq_true, decide_eq_true_iff, decide_eq_true_iff]; exact hb
    have el : letB n = (decide (n = 95) || (decide (48 ≤ n) && decide (n ≤ 57))) := by unfold letB; rw [eb, Bool.false_or]
    rw [el]
    have h1 : decide ((97 : Int) ≤ (n : Int)) = false ∨ (decide ((97 : Int) ≤ (n : Int)) = true ∧ decide ((n : Int) ≤ 122) = false) := by
      by_cases h1 : 97 ≤ n
      · exact .inr ⟨by simp; omega, by simp; omega⟩
      · exact .inl (by simp; omega)
    clear hb eb el
    by_cases h0 : n = 95
    · subst h0
      rw [show (decide (95 = 95) || (decide (48 ≤ 95) && decide (95 ≤ 57))) = true by decide]
      clear h1
      go_enter Tryz.func102, Tryz.ntmps102
      go_wp2_with fail
      go_ret
      exact ⟨rfl, rfl⟩
    · have d0 : ((n : Int) == 95) = false := by simp; omega
      by_cases h48 : 48 ≤ n
      · have d4 : decide ((48 : Int) ≤ (n : Int)) = true := by simp; omega
        by_cases h57 : n ≤ 57
        · have d5 : decide ((n : Int) ≤ 57) = true := by simp; omega
          rw [show (decide (n = 95) || (decide (48 ≤ n) && decide (n ≤ 57))) = true by simp [h48, h57]]
          clear h0 h48 h57
          rcases h1 with d1 | ⟨d1, d2⟩
          all_goals
            go_enter Tryz.func102, Tryz.ntmps102
            go_wp2_with fail
            go_ret
            exact ⟨rfl, rfl⟩
        · have d5 : decide ((n : Int) ≤ 57) = false := by simp; omega
          rw [show (decide (n = 95) || (decide (48 ≤ n) && decide (n ≤ 57))) = false by simp [h0, h57]]
          clear h0 h48 h57
          rcases h1 with d1 | ⟨d1, d2⟩
          all_goals
            go_enter Tryz.func102, Tryz.ntmps102
            go_wp2_with fail
            go_ret
            exact ⟨rfl, rfl⟩
      · have d4 : decide ((48 : Int) ≤ (n : Int)) = false := by simp; omega
        rw [show (decide (n = 95) || (decide (48 ≤ n) && decide (n ≤ 57))) = false by simp [h0, h48]]
        clear h0 h48
        rcases h1 with d1 | ⟨d1, d2⟩
        all_goals
          go_enter Tryz.func102, Tryz.ntmps102
          go_wp2_with fail
          go_ret
          exact ⟨rfl, rfl⟩
set_option maxHeartbeats 400000 in
set_option maxRecDepth 100000 in
theorem refSigns (w : World) : Calls Tryz.prog 67 #[.int .i64 0] w fun e w' => e = .returned (.slice (some ⟨w.heap.size, 0, none⟩) 18 18) ∧ w' = w.alloc (.cells (signsA.map Value.string).toArray 9) := by
  go_enter Tryz.func67, Tryz.ntmps67
  go_wp2_with fail
  go_ret
  exact ⟨rfl, rfl⟩
/-- What the reference finds: of what is wrong the error alone counts. -/
def FV (f : Fd) (v : Value) : Prop := ∃ (k n u : Int) (t : ByteArray), v = .agg #[.int .i64 k, .string t, .int .i64 n, .bool false, .int .i64 0, .int .i64 0, .int .i64 0, .int .i64 u, .int .i64 (f.err : Nat)] ∧ (f.err = 0 → k = (f.kind : Nat) ∧ t = ⟨f.text.toArray⟩ ∧ n = (f.n : Nat) ∧ u = (f.used : Nat))
def FPost (f : Fd) (w : World) (e : Ending) (w' : World) : Prop := ∃ v, e = .returned v ∧ FV f v ∧ Below w.heap.size w w'
theorem low_nam (x : UInt8) : letB (Lib.lowerB x).toNat = isNam x := by
  have := all8 (q := fun x => letB (Lib.lowerB x).toNat == isNam x) (by decide +kernel) x
  simpa using this
theorem low_up (x : UInt8) (h1 : 65 ≤ x.toNat) (h2 : x.toNat ≤ 90) : (Lib.lowerB x).toNat = x.toNat + 32 := by
  have := all8 (q := fun c => !(decide (65 ≤ c.toNat) && decide (c.toNat ≤ 90)) || decide ((Lib.lowerB c).toNat = c.toNat + 32)) (by decide +kernel) x
  rw [decide_eq_true h1, decide_eq_true h2] at this
  simpa using this
theorem low_no (x : UInt8) (h : ¬ (65 ≤ x.toNat ∧ x.toNat ≤ 90)) : Lib.lowerB x = x := by
  have := all8 (q := fun c => (decide (65 ≤ c.toNat) && decide (c.toNat ≤ 90)) || (Lib.lowerB c == c)) (by decide +kernel) x
  rw [show (decide (65 ≤ x.toNat) && decide (x.toNat ≤ 90)) = false by rw [← Bool.not_eq_true, Bool.and_eq_true, decide_eq_true_iff, decide_eq_true_iff]; exact h] at this
  simpa using this
end Go.Proofs.YtpcldpnaljheoaaGreatDoor.X.P
end
section
namespace Go.Proofs.YtpcldpnaljheoaaGreatDoor.X.P
open Go.RowKit Go.Sort

/-- What was found, zero, lies in the block b. -/
structure FndZ (w : World) (b : Nat) : Prop where
  blk : w.heap[b]? = some (.cells #[.int .i64 0, .string ⟨#[]⟩, .int .i64 0, .bool false, .int .i64 0, .int .i64 0, .int .i64 0, .int .i64 0, .int .i64 0] 74)
theorem FndZ.lt {w : World} {b : Nat} (h : FndZ w b) : b < w.heap.size := heap_lt h.blk
theorem FndZ.facts {w : World} {b : Nat} (h : FndZ w b) : w.cell? ⟨b, 0, none⟩ = some (.int .i64 0) ∧ w.cell? ⟨b, 1, none⟩ = some (.string ⟨#[]⟩) ∧ w.cell? ⟨b, 2, none⟩ = some (.int .i64 0) ∧ w.cell? ⟨b, 3, none⟩ = some (.bool false) ∧ w.cell? ⟨b, 4, none⟩ = some (.int .i64 0) ∧ w.cell? ⟨b, 5, none⟩ = some (.int .i64 0) ∧ w.cell? ⟨b, 6, none⟩ = some (.int .i64 0) ∧ w.cell? ⟨b, 7, none⟩ = some (.int .i64 0) ∧ w.cell? ⟨b, 8, none⟩ = some (.int .i64 0) ∧ ∀ o, w.frozen? ⟨b, o, none⟩ = false := by
  have := h.blk
  refine ⟨?_, ?_, ?_, ?_, ?_, ?_, ?_, ?_, ?_, fun o => ?_⟩ <;> simp [World.cell?, World.frozen?, this]
theorem FndZ.new (w : World) : FndZ (w.alloc (.cells #[.int .i64 0, .string ⟨#[]⟩, .int .i64 0, .bool false, .int .i64 0, .int .i64 0, .int .i64 0, .int .i64 0, .int .i64 0] 74)) w.heap.size := ⟨heap_new _ _⟩
theorem FndZ.below {w w' : World} {b : Nat} (h : FndZ w b) (ho : Below w.heap.size w w') : FndZ w' b := ⟨(ho.block b h.lt).trans h.blk⟩
def set9 (w : World) (b : Nat) (v0 v1 v2 v3 v4 v5 v6 v7 v8 : Value) : World := (set7 w b v0 v1 v2 v3 v4 v5 v6 |>.setCell ⟨b, 7, none⟩ v7).setCell ⟨b, 8, none⟩ v8
theorem set9_below {w w1 : World} {b : Nat} (hb : w.heap.size ≤ b) (ho : Below w.heap.size w w1) (v0 v1 v2 v3 v4 v5 v6 v7 v8 : Value) : Below w.heap.size w (set9 w1 b v0 v1 v2 v3 v4 v5 v6 v7 v8) :=
  ((set7_below hb ho _ _ _ _ _ _ _).setCell hb v7).setCell hb v8
theorem fv_bad (e : Nat) : FV (bad e) (.agg #[.int .i64 0, .string ⟨#[]⟩, .int .i64 0, .bool false, .int .i64 0, .int .i64 0, .int .i64 0, .int .i64 0, .int .i64 (e : Nat)]) := ⟨0, 0, 0, _, rfl, fun _ => ⟨rfl, rfl, rfl, rfl⟩⟩
theorem fv_ok (k n u : Nat) (t : List UInt8) : FV ⟨k, t, n, u, 0⟩ (.agg #[.int .i64 (k : Nat), .string ⟨t.toArray⟩, .int .i64 (n : Nat), .bool false, .int .i64 0, .int .i64 0, .int .i64 0, .int .i64 (u : Nat), .int .i64 0]) := ⟨_, _, _, _, rfl, fun _ => ⟨rfl, rfl, rfl, rfl⟩⟩
theorem all_step {s : ByteArray} {k : Nat} {p : UInt8 → Bool} (h : ∀ j, j < k → p (bt s j) = true) (hk : p (bt s k) = true) : ∀ j, j < k + 1 → p (bt s j) = true := fun j hj => by
  rcases Nat.lt_or_ge j k with g | g
  · exact h j g
  · obtain rfl : j = k := by omega
    exact hk
theorem tw_take2 (p : UInt8 → Bool) (s : ByteArray) (k : Nat) (h : (s.data.toList.takeWhile p).length = k) : s.data.toList.take k = s.data.toList.takeWhile p := by rw [← h]; exact tw_take p _
theorem own_below {w0 w w' : World} {v : Value} {acc : List UInt8} (h : Own w0 v acc w) (hb : Below w.heap.size w w') : Own w0 v acc w' :=
  ⟨⟨h.own.1, by
    rcases h.own.2 with h4 | ⟨g, cap, cur, hv, hb', hg, r⟩
    · exact .inl h4
    · exact .inr ⟨g, cap, cur, hv, hb', (hb.block g (heap_lt hg)).trans hg, r⟩⟩, h.bel.trans (hb.mono h.bel.size)⟩
set_option maxRecDepth 100000 in
set_option maxHeartbeats 4000000 in
theorem refName (s : ByteArray) (w : World) (hs : s.size ≤ 100000) : Calls Tryz.prog 63 #[.int .i64 0, .string s] w (FPost (nameL (s.data.toList.takeWhile isNam)) w) := by
  generalize hf : nameL (s.data.toList.takeWhile isNam) = f
  have HF := Lib.hid hf
  clear hf
  go_enter Tryz.func63, Tryz.ntmps63
  go_wp2_with fail
  have Z := Lib.hid (FndZ.new w)
  have B := Lib.hid (show Below w.heap.size w (w.alloc (.cells #[.int .i64 0, .string ⟨#[]⟩, .int .i64 0, .bool false, .int .i64 0, .int .i64 0, .int .i64 0, .int .i64 0, .int .i64 0] 74)) from (Below.refl _ _).alloc (Nat.le_refl _) _)
  generalize w.alloc (.cells #[.int .i64 0, .string ⟨#[]⟩, .int .i64 0, .bool false, .int .i64 0, .int .i64 0, .int .i64 0, .int .i64 0, .int .i64 0] 74) = w0 at Z B ⊢
  have O0 := Lib.hid (Own.nil w0)
  go_loopw [5, 6, 7, 8] (fun x n p lg wr => ∃ (k : Nat) (acc : List UInt8), k ≤ s.size ∧ n = .int .i64 k ∧ p = .int .i64 k ∧ lg = .bool (decide (32 < k)) ∧ Own w0 x acc wr ∧ acc = (s.data.toList.take k).map Lib.lowerB ∧ ∀ j, j < k → isNam (bt s j) = true) (fun _ n _ _ _ => s.size - (intOf n).toNat)
  case atStart => exact ⟨0, [], Nat.zero_le _, rfl, rfl, rfl, O0.out, by simp, fun j h => by omega⟩
  case round =>
    obtain ⟨k, acc, hk, rfl, rfl, rfl, ho, hacc, hall⟩ := hrel
    have O := Lib.hid ho
    have AC := Lib.hid hacc
    have hacl : acc.length ≤ 100000 := by rw [hacc, List.length_map, List.length_take, len_size]; omega
    have TF := Lib.hid (tw_from isNam s (s.size - k) k (by omega) hall)
    clear ho hacc
    by_cases hgo : k < s.size ∧ isNam (bt s k) = true
    · obtain ⟨hlt, hnam⟩ := hgo
      have hbe := bt_eq s k hlt
      have AL := Lib.hid (all_step hall hnam)
      have MS := Lib.hid (show (s.data.toList.take (k + 1)).map Lib.lowerB = (s.data.toList.take k).map Lib.lowerB ++ [Lib.lowerB (bt s k)] by rw [take_bt s k hlt, List.map_append]; rfl)
      have hlb := UInt8.toNat_lt (bt s k)
      have hLN := low_nam (bt s k)
      rw [hnam] at hLN
      clear hall hnam TF
      have hlong : (decide (32 < k) = true ∧ decide (32 < k + 1) = true) ∨ (decide (32 < k) = false ∧ decide (32 < k + 1) = false ∧ decide ((32 : Int) < (k : Int) + 1) = false) ∨ (decide (32 < k) = false ∧ decide (32 < k + 1) = true ∧ decide ((32 : Int) < (k : Int) + 1) = true) := by
        by_cases h1 : 32 < k
        · exact .inl ⟨by simp; omega, by simp; omega⟩
        · by_cases h2 : 32 < k + 1
          · exact .inr (.inr ⟨by simp; omega, by simp; omega, by simp; omega⟩)
          · exact .inr (.inl ⟨by simp; omega, by simp; omega, by simp; omega⟩)
      by_cases hup : 65 ≤ (bt s k).toNat ∧ (bt s k).toNat ≤ 90
      · have hl32 := low_up (bt s k) hup.1 hup.2
        have hcv : ((bt s k).toNat : Int) - 65 + 97 = ((Lib.lowerB (bt s k)).toNat : Int) := by omega
        have d1 : decide ((65 : Int) ≤ ((bt s k).toNat : Int)) = true := by simp; omega
        have d2 : decide (((bt s k).toNat : Int) ≤ 90) = true := by simp; omega
        have hb1 := hup.1
        have hb2 := hup.2
        have hl8 : (Lib.lowerB (bt s k)).toNat ≤ 255 := by omega
        have LN := Lib.hid hLN
        clear hup hLN hl32
        rcases hlong with ⟨e1, e2⟩ | ⟨e1, e2, e3⟩ | ⟨e1, e2, e3⟩
        all_goals
          have LB := Lib.hid (congrArg Value.bool e2.symm)
          rw [e1]
          clear e1 e2
          go_wp2_with fail
          refine (refLetter (Lib.lowerB (bt s k)).toNat _ (by omega)).mono ?_
          rw [LN.out]
          rintro e w2 ⟨rfl, rfl⟩
          have tok1 : True := trivial
          go_wp2_with (have _t := tok1; at_builtin; refine wp_app rfl (.tmp 67) (.tmp 69) rfl #[.int .u8 ((Lib.lowerB (bt s k)).toNat : Int)] [Lib.lowerB (bt s k)] 1 rfl rfl O.out rfl rfl (by omega) (by decide) ?_; intro v7 w7 o7; have O7 := Lib.hid o7; clear o7 tok1)
          go_roundw
          case rel => exact ⟨k + 1, _, by omega, by go_num, by go_num, by first | exact LB.out | rfl, O7.out, by rw [AC.out, MS.out], AL.out⟩
          case measure => simp [intOf]; omega

      · have hl := low_no (bt s k) hup
        rw [hl] at hLN MS
        have LN := Lib.hid hLN
        have d12 : decide ((65 : Int) ≤ ((bt s k).toNat : Int)) = false ∨ (decide ((65 : Int) ≤ ((bt s k).toNat : Int)) = true ∧ decide (((bt s k).toNat : Int) ≤ 90) = false) := by
          by_cases h1 : 65 ≤ (bt s k).toNat
          · exact .inr ⟨by simp; omega, by simp; omega⟩
          · exact .inl (by simp; omega)
        clear hup hLN hl
        rcases d12 with d1 | ⟨d1, d2⟩ <;> rcases hlong with ⟨e1, e2⟩ | ⟨e1, e2, e3⟩ | ⟨e1, e2, e3⟩
        all_goals
          have LB := Lib.hid (congrArg Value.bool e2.symm)
          rw [e1]
          clear e1 e2
          go_wp2_with fail
          refine (refLetter (bt s k).toNat _ (by omega)).mono ?_
          rw [LN.out]
          rintro e w2 ⟨rfl, rfl⟩
          have tok1 : True := trivial
          go_wp2_with (have _t := tok1; at_builtin; refine wp_app rfl (.tmp 67) (.tmp 69) rfl #[.int .u8 ((bt s k).toNat : Int)] [bt s k] 1 rfl rfl O.out rfl rfl (by omega) (by decide) ?_; intro v7 w7 o7; have O7 := Lib.hid o7; clear o7 tok1)
          go_roundw
          case rel => exact ⟨k + 1, _, by omega, by go_num, by go_num, by first | exact LB.out | rfl, O7.out, by rw [AC.out, MS.out], AL.out⟩
          case measure => simp [intOf]; omega

    · have hfin : (s.data.toList.takeWhile isNam).length = k := by
        rw [TF.out]
        by_cases hlt : k < s.size
        · rw [drop_bt s k hlt, List.takeWhile_cons, if_neg (fun h => hgo ⟨hlt, h⟩)]; rfl
        · rw [drop_end s k hlt]; rfl
      have HFI := Lib.hid hfin
      have HAC := Lib.hid (show acc = (s.data.toList.takeWhile isNam).map Lib.lowerB by rw [AC.out, tw_take2 isNam s k hfin])
      have Z1 := Lib.hid (Z.out.below O.out.bel)
      have B1 := Lib.hid (B.out.trans (O.out.bel.mono B.out.size))
      have hcv := O.out.conv
      have hI := fun w1 => refIs_any 0 ⟨acc.toArray⟩ w1
      clear hfin TF hall
      by_cases hlt : k < s.size
      · have hbe := bt_eq s k hlt
        have hlb := UInt8.toNat_lt (bt s k)
        have hnn : isNam (bt s k) = false := by
          cases h : isNam (bt s k) with
          | true => exact absurd ⟨hlt, h⟩ hgo
          | false => rfl
        have hup : ¬ (65 ≤ (bt s k).toNat ∧ (bt s k).toNat ≤ 90) := by
          intro h
          have h2 : isUp (bt s k) = true := by unfold isUp; rw [decide_eq_true h.1, decide_eq_true h.2]; rfl
          unfold isNam isLet at hnn
          rw [h2] at hnn
          simp at hnn
        have hLN := low_nam (bt s k)
        rw [low_no (bt s k) hup, hnn] at hLN
        have LN := Lib.hid hLN
        clear hgo hnn hLN
        by_cases h65 : 65 ≤ (bt s k).toNat
        · have d1 : decide ((65 : Int) ≤ ((bt s k).toNat : Int)) = true := by simp; omega
          have d2 : decide (((bt s k).toNat : Int) ≤ 90) = false := by simp; omega
          clear hup
          by_cases hlong : 32 < k
          · obtain rfl : f = bad 3 := by rw [← HF.out]; exact nameL_long _ (by rw [HFI.out]; exact hlong)
            rw [decide_eq_true hlong]
            obtain ⟨f0, f1, f2, f3, f4, f5, f6, f7, f8, gf⟩ := Z1.out.facts
            clear hI hcv hlong
            go_wp2_with fail
            refine (refLetter (bt s k).toNat _ (by omega)).mono ?_
            rw [LN.out]
            rintro e w2 ⟨rfl, rfl⟩
            go_wp2_with fail
            exact bodyPost_ret (v := .agg #[.int .i64 0, .string ⟨#[]⟩, .int .i64 0, .bool false, .int .i64 0, .int .i64 0, .int .i64 0, .int .i64 0, .int .i64 3]) (by simp [results, Tryz.results63, go_sem, f0, f1, f2, f3, f4, f5, f6, f7, f8]) rfl ⟨_, rfl, fv_bad 3, set9_below (Nat.le_refl _) B1.out _ _ _ _ _ _ _ _ _⟩
          · rw [decide_eq_false hlong]
            cases hi : isIn ⟨acc.toArray⟩ (wordsOf 0) with
            | true =>
              obtain rfl : f = ⟨2, acc, 0, k, 0⟩ := by
                have hlen : ¬ 32 < (s.data.toList.takeWhile isNam).length := by rw [HFI.out]; exact hlong
                have hw2 := hi
                rw [HAC.out] at hw2
                rw [← HF.out, nameL_word _ hlen hw2, ← HAC.out, HFI.out]
              rw [hi] at hI
              have HI := Lib.hid hI
              clear hI hi hlong
              go_wp2_with fail
              refine (refLetter (bt s k).toNat _ (by omega)).mono ?_
              rw [LN.out]
              rintro e w2 ⟨rfl, rfl⟩
              go_wp2_with fail
              refine (HI.out _).mono ?_
              rintro e w3 ⟨rfl, b3⟩
              have hcv3 := (own_below O.out b3).conv
              have Z3 := Lib.hid (Z1.out.below b3)
              have B3 := Lib.hid (B1.out.trans (b3.mono B1.out.size))
              obtain ⟨f0, f1, f2, f3, f4, f5, f6, f7, f8, gf⟩ := Z3.out.facts
              clear b3 hcv
              go_wp2_with fail
              exact bodyPost_ret (v := .agg #[.int .i64 2, .string ⟨acc.toArray⟩, .int .i64 0, .bool false, .int .i64 0, .int .i64 0, .int .i64 0, .int .i64 (k : Nat), .int .i64 0]) (by simp [results, Tryz.results63, go_sem, f0, f1, f2, f3, f4, f5, f6, f7, f8]) rfl ⟨_, rfl, fv_ok 2 0 k acc, set9_below (Nat.le_refl _) B3.out _ _ _ _ _ _ _ _ _⟩
            | false =>
              obtain rfl : f = ⟨1, acc, 0, k, 0⟩ := by
                have hlen : ¬ 32 < (s.data.toList.takeWhile isNam).length := by rw [HFI.out]; exact hlong
                have hw2 := hi
                rw [HAC.out] at hw2
                rw [← HF.out, nameL_name _ hlen hw2, ← HAC.out, HFI.out]
              rw [hi] at hI
              have HI := Lib.hid hI
              clear hI hi hlong
              go_wp2_with fail
              refine (refLetter (bt s k).toNat _ (by omega)).mono ?_
              rw [LN.out]
              rintro e w2 ⟨rfl, rfl⟩
              go_wp2_with fail
              refine (HI.out _).mono ?_
              rintro e w3 ⟨rfl, b3⟩
              have hcv3 := (own_below O.out b3).conv
              have Z3 := Lib.hid (Z1.out.below b3)
              have B3 := Lib.hid (B1.out.trans (b3.mono B1.out.size))
              obtain ⟨f0, f1, f2, f3, f4, f5, f6, f7, f8, gf⟩ := Z3.out.facts
              clear b3 hcv
              go_wp2_with fail
              exact bodyPost_ret (v := .agg #[.int .i64 1, .string ⟨acc.toArray⟩, .int .i64 0, .bool false, .int .i64 0, .int .i64 0, .int .i64 0, .int .i64 (k : Nat), .int .i64 0]) (by simp [results, Tryz.results63, go_sem, f0, f1, f2, f3, f4, f5, f6, f7, f8]) rfl ⟨_, rfl, fv_ok 1 0 k acc, set9_below (Nat.le_refl _) B3.out _ _ _ _ _ _ _ _ _⟩
        · have d1 : decide ((65 : Int) ≤ ((bt s k).toNat : Int)) = false := by simp; omega
          clear hup
          by_cases hlong : 32 < k
          · obtain rfl : f = bad 3 := by rw [← HF.out]; exact nameL_long _ (by rw [HFI.out]; exact hlong)
            rw [decide_eq_true hlong]
            obtain ⟨f0, f1, f2, f3, f4, f5, f6, f7, f8, gf⟩ := Z1.out.facts
            clear hI hcv hlong
            go_wp2_with fail
            refine (refLetter (bt s k).toNat _ (by omega)).mono ?_
            rw [LN.out]
            rintro e w2 ⟨rfl, rfl⟩
            go_wp2_with fail
            exact bodyPost_ret (v := .agg #[.int .i64 0, .string ⟨#[]⟩, .int .i64 0, .bool false, .int .i64 0, .int .i64 0, .int .i64 0, .int .i64 0, .int .i64 3]) (by simp [results, Tryz.results63, go_sem, f0, f1, f2, f3, f4, f5, f6, f7, f8]) rfl ⟨_, rfl, fv_bad 3, set9_below (Nat.le_refl _) B1.out _ _ _ _ _ _ _ _ _⟩
          · rw [decide_eq_false hlong]
            cases hi : isIn ⟨acc.toArray⟩ (wordsOf 0) with
            | true =>
              obtain rfl : f = ⟨2, acc, 0, k, 0⟩ := by
                have hlen : ¬ 32 < (s.data.toList.takeWhile isNam).length := by rw [HFI.out]; exact hlong
                have hw2 := hi
                rw [HAC.out] at hw2
                rw [← HF.out, nameL_word _ hlen hw2, ← HAC.out, HFI.out]
              rw [hi] at hI
              have HI := Lib.hid hI
              clear hI hi hlong
              go_wp2_with fail
              refine (refLetter (bt s k).toNat _ (by omega)).mono ?_
              rw [LN.out]
              rintro e w2 ⟨rfl, rfl⟩
              go_wp2_with fail
              refine (HI.out _).mono ?_
              rintro e w3 ⟨rfl, b3⟩
              have hcv3 := (own_below O.out b3).conv
              have Z3 := Lib.hid (Z1.out.below b3)
              have B3 := Lib.hid (B1.out.trans (b3.mono B1.out.size))
              obtain ⟨f0, f1, f2, f3, f4, f5, f6, f7, f8, gf⟩ := Z3.out.facts
              clear b3 hcv
              go_wp2_with fail
              exact bodyPost_ret (v := .agg #[.int .i64 2, .string ⟨acc.toArray⟩, .int .i64 0, .bool false, .int .i64 0, .int .i64 0, .int .i64 0, .int .i64 (k : Nat), .int .i64 0]) (by simp [results, Tryz.results63, go_sem, f0, f1, f2, f3, f4, f5, f6, f7, f8]) rfl ⟨_, rfl, fv_ok 2 0 k acc, set9_below (Nat.le_refl _) B3.out _ _ _ _ _ _ _ _ _⟩
            | false =>
              obtain rfl : f = ⟨1, acc, 0, k, 0⟩ := by
                have hlen : ¬ 32 < (s.data.toList.takeWhile isNam).length := by rw [HFI.out]; exact hlong
                have hw2 := hi
                rw [HAC.out] at hw2
                rw [← HF.out, nameL_name _ hlen hw2, ← HAC.out, HFI.out]
              rw [hi] at hI
              have HI := Lib.hid hI
              clear hI hi hlong
              go_wp2_with fail
              refine (refLetter (bt s k).toNat _ (by omega)).mono ?_
              rw [LN.out]
              rintro e w2 ⟨rfl, rfl⟩
              go_wp2_with fail
              refine (HI.out _).mono ?_
              rintro e w3 ⟨rfl, b3⟩
              have hcv3 := (own_below O.out b3).conv
              have Z3 := Lib.hid (Z1.out.below b3)
              have B3 := Lib.hid (B1.out.trans (b3.mono B1.out.size))
              obtain ⟨f0, f1, f2, f3, f4, f5, f6, f7, f8, gf⟩ := Z3.out.facts
              clear b3 hcv
              go_wp2_with fail
              exact bodyPost_ret (v := .agg #[.int .i64 1, .string ⟨acc.toArray⟩, .int .i64 0, .bool false, .int .i64 0, .int .i64 0, .int .i64 0, .int .i64 (k : Nat), .int .i64 0]) (by simp [results, Tryz.results63, go_sem, f0, f1, f2, f3, f4, f5, f6, f7, f8]) rfl ⟨_, rfl, fv_ok 1 0 k acc, set9_below (Nat.le_refl _) B3.out _ _ _ _ _ _ _ _ _⟩
      · clear hgo
        by_cases hlong : 32 < k
        · obtain rfl : f = bad 3 := by rw [← HF.out]; exact nameL_long _ (by rw [HFI.out]; exact hlong)
          rw [decide_eq_true hlong]
          obtain ⟨f0, f1, f2, f3, f4, f5, f6, f7, f8, gf⟩ := Z1.out.facts
          clear hI hcv hlong
          go_wp2_with fail
          exact bodyPost_ret (v := .agg #[.int .i64 0, .string ⟨#[]⟩, .int .i64 0, .bool false, .int .i64 0, .int .i64 0, .int .i64 0, .int .i64 0, .int .i64 3]) (by simp [results, Tryz.results63, go_sem, f0, f1, f2, f3, f4, f5, f6, f7, f8]) rfl ⟨_, rfl, fv_bad 3, set9_below (Nat.le_refl _) B1.out _ _ _ _ _ _ _ _ _⟩
        · rw [decide_eq_false hlong]
          cases hi : isIn ⟨acc.toArray⟩ (wordsOf 0) with
          | true =>
            obtain rfl : f = ⟨2, acc, 0, k, 0⟩ := by
              have hlen : ¬ 32 < (s.data.toList.takeWhile isNam).length := by rw [HFI.out]; exact hlong
              have hw2 := hi
              rw [HAC.out] at hw2
              rw [← HF.out, nameL_word _ hlen hw2, ← HAC.out, HFI.out]
            rw [hi] at hI
            have HI := Lib.hid hI
            clear hI hi hlong
            go_wp2_with fail
            refine (HI.out _).mono ?_
            rintro e w3 ⟨rfl, b3⟩
            have hcv3 := (own_below O.out b3).conv
            have Z3 := Lib.hid (Z1.out.below b3)
            have B3 := Lib.hid (B1.out.trans (b3.mono B1.out.size))
            obtain ⟨f0, f1, f2, f3, f4, f5, f6, f7, f8, gf⟩ := Z3.out.facts
            clear b3 hcv
            go_wp2_with fail
            exact bodyPost_ret (v := .agg #[.int .i64 2, .string ⟨acc.toArray⟩, .int .i64 0, .bool false, .int .i64 0, .int .i64 0, .int .i64 0, .int .i64 (k : Nat), .int .i64 0]) (by simp [results, Tryz.results63, go_sem, f0, f1, f2, f3, f4, f5, f6, f7, f8]) rfl ⟨_, rfl, fv_ok 2 0 k acc, set9_below (Nat.le_refl _) B3.out _ _ _ _ _ _ _ _ _⟩
          | false =>
            obtain rfl : f = ⟨1, acc, 0, k, 0⟩ := by
              have hlen : ¬ 32 < (s.data.toList.takeWhile isNam).length := by rw [HFI.out]; exact hlong
              have hw2 := hi
              rw [HAC.out] at hw2
              rw [← HF.out, nameL_name _ hlen hw2, ← HAC.out, HFI.out]
            rw [hi] at hI
            have HI := Lib.hid hI
            clear hI hi hlong
            go_wp2_with fail
            refine (HI.out _).mono ?_
            rintro e w3 ⟨rfl, b3⟩
            have hcv3 := (own_below O.out b3).conv
            have Z3 := Lib.hid (Z1.out.below b3)
            have B3 := Lib.hid (B1.out.trans (b3.mono B1.out.size))
            obtain ⟨f0, f1, f2, f3, f4, f5, f6, f7, f8, gf⟩ := Z3.out.facts
            clear b3 hcv
            go_wp2_with fail
            exact bodyPost_ret (v := .agg #[.int .i64 1, .string ⟨acc.toArray⟩, .int .i64 0, .bool false, .int .i64 0, .int .i64 0, .int .i64 0, .int .i64 (k : Nat), .int .i64 0]) (by simp [results, Tryz.results63, go_sem, f0, f1, f2, f3, f4, f5, f6, f7, f8]) rfl ⟨_, rfl, fv_ok 1 0 k acc, set9_below (Nat.le_refl _) B3.out _ _ _ _ _ _ _ _ _⟩
end Go.Proofs.YtpcldpnaljheoaaGreatDoor.X.P
end
section
namespace Go.Proofs.YtpcldpnaljheoaaGreatDoor.X.P
open Go.RowKit

theorem let_not (c : UInt8) (h : isLet c = true) : isBl c = false ∧ (c == 123) = false ∧ isDig c = false := by
  have := all8 (q := fun c => !isLet c || (!isBl c && !(c == 123) && !isDig c)) (by decide +kernel) c
  rw [h] at this
  simp at this
  simp [this]
end Go.Proofs.YtpcldpnaljheoaaGreatDoor.X.P
end
section
namespace Go.Proofs.YtpcldpnaljheoaaGreatDoor.X.P
open Go.RowKit

theorem val_lt (l : List UInt8) (h : ∀ c ∈ l, 48 ≤ c.toNat ∧ c.toNat ≤ 57) : valL l < 10 ^ l.length := by
  have go : ∀ (l : List UInt8) (a b : Nat), (∀ c ∈ l, 48 ≤ c.toNat ∧ c.toNat ≤ 57) → a < b → l.foldl (fun n c => n * 10 + (c.toNat - 48)) a < b * 10 ^ l.length := by
    intro l
    induction l with
    | nil => intro a b _ h; simpa using h
    | cons c r ih =>
      intro a b hc hab
      have h1 := hc c (by simp)
      have := ih (a * 10 + (c.toNat - 48)) (b * 10) (fun x hx => hc x (by simp [hx])) (by omega)
      rw [List.foldl_cons, List.length_cons, Nat.pow_succ]
      rw [Nat.mul_assoc, Nat.mul_comm 10] at this
      exact this
  have := go l 0 1 h (by omega)
  simpa [valL] using this
end Go.Proofs.YtpcldpnaljheoaaGreatDoor.X.P
end
section
namespace Go.Proofs.YtpcldpnaljheoaaGreatDoor.X.P
open Go.RowKit Go.Sort

theorem getD_bt (s : ByteArray) (i : Nat) : s.data.toList.getD i 0 = bt s i := rfl
theorem toNat_39 (c : UInt8) : (c == 39) = decide (c.toNat = 39) := by
  have := all8 (q := fun c => (c == 39) == decide (c.toNat = 39)) (by decide +kernel) c
  simpa using this
theorem quote_no {s : ByteArray} (hq : Lib.hasPrefix s.data.toList [39, 39, 39, 39] = false) (h : ¬ 32 ≤ (bt s 1).toNat ∨ ¬ (bt s 1).toNat ≤ 126 ∨ (bt s 1).toNat = 39 ∨ (bt s 2).toNat ≠ 39) : quoteL s.data.toList = bad 7 := by
  unfold quoteL
  rw [hq, if_neg (by decide), getD_bt, getD_bt, if_neg]
  unfold visB
  rw [toNat_39, toNat_39]
  simp
  omega
theorem quote_yes {s : ByteArray} (hq : Lib.hasPrefix s.data.toList [39, 39, 39, 39] = false) (h1 : 32 ≤ (bt s 1).toNat) (h2 : (bt s 1).toNat ≤ 126) (h3 : (bt s 1).toNat ≠ 39) (h4 : (bt s 2).toNat = 39) : quoteL s.data.toList = ⟨4, [], (bt s 1).toNat, 3, 0⟩ := by
  unfold quoteL
  rw [hq, if_neg (by decide), getD_bt, getD_bt, if_pos]
  unfold visB
  rw [toNat_39, toNat_39, decide_eq_true h1, decide_eq_true h2, decide_eq_false h3, decide_eq_true h4]
  rfl
theorem hp_take (l g : List UInt8) : Lib.hasPrefix l g = (l.take g.length == g) := by
  unfold Lib.hasPrefix
  rw [Bool.eq_iff_iff, List.isPrefixOf_iff_prefix, beq_iff_eq, List.prefix_iff_eq_take]
  exact ⟨fun h => h.symm, fun h => h.symm⟩
set_option maxRecDepth 100000 in
set_option maxHeartbeats 4000000 in
theorem refQuote (s : ByteArray) (w : World) (hs : s.size ≤ 100000) (h0 : 0 < s.size) (hc : (bt s 0).toNat = 39) : Calls Tryz.prog 66 #[.int .i64 0, .string s] w (FPost (quoteL s.data.toList) w) := by
  have hb0 := bt_eq s 0 h0
  have d0 : (((bt s 0).toNat : Int) == 35) = false := by rw [hc]; rfl
  clear hc
  by_cases h4 : 4 ≤ s.size
  · have z4 : decide ((4 : Int) ≤ (s.size : Int)) = true := by simp; omega
    have z4' : decide (4 ≤ s.size) = true := by simp; omega
    have hi4 : (4 : Int) ≤ (s.size : Int) := by omega
    have hE := ext_take s 0 4
    have hpt := hp_take s.data.toList [39, 39, 39, 39]
    cases hq : Lib.hasPrefix s.data.toList [39, 39, 39, 39] with
    | true =>
      rw [hq] at hpt
      have hE2 : s.extract 0 4 = ⟨#[39, 39, 39, 39]⟩ := by
        rw [show (4 : Nat) = 0 + 4 from rfl, hE, List.drop_zero]
        have : s.data.toList.take 4 = [39, 39, 39, 39] := by have := hpt.symm; simpa using this
        rw [this]
      rw [quoteL_4 hq]
      clear hq hpt hE
      go_enter Tryz.func66, Tryz.ntmps66
      go_wp2_with fail
      exact bodyPost_ret (v := .agg #[.int .i64 4, .string ⟨#[]⟩, .int .i64 39, .bool false, .int .i64 0, .int .i64 0, .int .i64 0, .int .i64 4, .int .i64 0]) (by simp [results, Tryz.results66, go_sem]) rfl ⟨_, rfl, fv_ok 4 39 4 [], (Below.refl _ _).alloc (Nat.le_refl _) _⟩
    | false =>
      rw [hq] at hpt
      have hne : s.extract 0 4 ≠ ⟨#[39, 39, 39, 39]⟩ := by
        rw [show (4 : Nat) = 0 + 4 from rfl, hE, List.drop_zero]
        intro h
        have h2 := congrArg (fun b : ByteArray => b.data.toList) h
        have h3 : s.data.toList.take 4 = [39, 39, 39, 39] := by simpa using h2
        have h4 : (s.data.toList.take 4 == [39, 39, 39, 39]) = false := hpt.symm
        rw [h3] at h4
        cases h4
      have hE3 : ((s.extract 0 4).toList == (ByteArray.mk #[39, 39, 39, 39]).toList) = false := (beq_false _ _).2 hne
      have hE4 : ((s.extract 0 4).toList == [39, 39, 39, 39]) = false := by rw [show ([39, 39, 39, 39] : List UInt8) = (ByteArray.mk #[39, 39, 39, 39]).toList by rw [ByteArray.toList_eq]]; exact hE3
      have hE5 : ¬ (s.extract 0 4).toList = [39, 39, 39, 39] := by simpa using hE4
      clear hne hpt hE
      have h3 : 3 ≤ s.size := by omega
      have z3 : decide ((3 : Int) ≤ (s.size : Int)) = true := by simp; omega
      have z3' : decide (3 ≤ s.size) = true := by simp; omega
      have hb1 := bt_eq s 1 (by omega)
      have hb2 := bt_eq s 2 (by omega)
      by_cases v1 : 32 ≤ (bt s 1).toNat
      · have e1 : decide ((32 : Int) ≤ ((bt s 1).toNat : Int)) = true := by simp; omega
        by_cases v2 : (bt s 1).toNat ≤ 126
        · have e2 : decide (((bt s 1).toNat : Int) ≤ 126) = true := by simp; omega
          by_cases v3 : (bt s 1).toNat = 39
          · have e3 : (((bt s 1).toNat : Int) != 39) = false := by rw [v3]; rfl
            rw [quote_no (s := s) hq (.inr (.inr (.inl v3)))]
            clear v1 v2 v3
            go_enter Tryz.func66, Tryz.ntmps66
            go_wp2_with fail
            exact bodyPost_ret (v := .agg #[.int .i64 0, .string ⟨#[]⟩, .int .i64 0, .bool false, .int .i64 0, .int .i64 0, .int .i64 0, .int .i64 0, .int .i64 7]) (by simp [results, Tryz.results66, go_sem]) rfl ⟨_, rfl, fv_bad 7, (Below.refl _ _).alloc (Nat.le_refl _) _⟩
          · have e3 : (((bt s 1).toNat : Int) != 39) = true := by simp; omega
            by_cases v4 : (bt s 2).toNat = 39
            · have e4 : (((bt s 2).toNat : Int) == 39) = true := by rw [v4]; rfl
              rw [quote_yes hq v1 v2 v3 v4]
              clear v3 v4
              go_enter Tryz.func66, Tryz.ntmps66
              go_wp2_with fail
              exact bodyPost_ret (v := .agg #[.int .i64 4, .string ⟨#[]⟩, .int .i64 ((bt s 1).toNat : Nat), .bool false, .int .i64 0, .int .i64 0, .int .i64 0, .int .i64 3, .int .i64 0]) (by simp [results, Tryz.results66, go_sem]) rfl ⟨_, rfl, fv_ok 4 (bt s 1).toNat 3 [], (Below.refl _ _).alloc (Nat.le_refl _) _⟩
            · have e4 : (((bt s 2).toNat : Int) == 39) = false := by simp; omega
              rw [quote_no (s := s) hq (.inr (.inr (.inr v4)))]
              clear v1 v2 v3 v4
              go_enter Tryz.func66, Tryz.ntmps66
              go_wp2_with fail
              exact bodyPost_ret (v := .agg #[.int .i64 0, .string ⟨#[]⟩, .int .i64 0, .bool false, .int .i64 0, .int .i64 0, .int .i64 0, .int .i64 0, .int .i64 7]) (by simp [results, Tryz.results66, go_sem]) rfl ⟨_, rfl, fv_bad 7, (Below.refl _ _).alloc (Nat.le_refl _) _⟩
        · have e2 : decide (((bt s 1).toNat : Int) ≤ 126) = false := by simp; omega
          rw [quote_no (s := s) hq (.inr (.inl v2))]
          clear v1 v2
          go_enter Tryz.func66, Tryz.ntmps66
          go_wp2_with fail
          exact bodyPost_ret (v := .agg #[.int .i64 0, .string ⟨#[]⟩, .int .i64 0, .bool false, .int .i64 0, .int .i64 0, .int .i64 0, .int .i64 0, .int .i64 7]) (by simp [results, Tryz.results66, go_sem]) rfl ⟨_, rfl, fv_bad 7, (Below.refl _ _).alloc (Nat.le_refl _) _⟩
      · have e1 : decide ((32 : Int) ≤ ((bt s 1).toNat : Int)) = false := by simp; omega
        rw [quote_no (s := s) hq (.inl v1)]
        clear v1
        go_enter Tryz.func66, Tryz.ntmps66
        go_wp2_with fail
        exact bodyPost_ret (v := .agg #[.int .i64 0, .string ⟨#[]⟩, .int .i64 0, .bool false, .int .i64 0, .int .i64 0, .int .i64 0, .int .i64 0, .int .i64 7]) (by simp [results, Tryz.results66, go_sem]) rfl ⟨_, rfl, fv_bad 7, (Below.refl _ _).alloc (Nat.le_refl _) _⟩
  · have z4 : decide ((4 : Int) ≤ (s.size : Int)) = false := by simp; omega
    have z4' : decide (4 ≤ s.size) = false := by simp; omega
    have hq : Lib.hasPrefix s.data.toList [39, 39, 39, 39] = false := by
      cases h : Lib.hasPrefix s.data.toList [39, 39, 39, 39] with
      | false => rfl
      | true => have := hp_len h; rw [len_size] at this; exact absurd this h4
    by_cases h3 : 3 ≤ s.size
    · have z3 : decide ((3 : Int) ≤ (s.size : Int)) = true := by simp; omega
      have z3' : decide (3 ≤ s.size) = true := by simp; omega
      have hb1 := bt_eq s 1 (by omega)
      have hb2 := bt_eq s 2 (by omega)
      by_cases v1 : 32 ≤ (bt s 1).toNat
      · have e1 : decide ((32 : Int) ≤ ((bt s 1).toNat : Int)) = true := by simp; omega
        by_cases v2 : (bt s 1).toNat ≤ 126
        · have e2 : decide (((bt s 1).toNat : Int) ≤ 126) = true := by simp; omega
          by_cases v3 : (bt s 1).toNat = 39
          · have e3 : (((bt s 1).toNat : Int) != 39) = false := by rw [v3]; rfl
            rw [quote_no (s := s) hq (.inr (.inr (.inl v3)))]
            clear v1 v2 v3
            go_enter Tryz.func66, Tryz.ntmps66
            go_wp2_with fail
            exact bodyPost_ret (v := .agg #[.int .i64 0, .string ⟨#[]⟩, .int .i64 0, .bool false, .int .i64 0, .int .i64 0, .int .i64 0, .int .i64 0, .int .i64 7]) (by simp [results, Tryz.results66, go_sem]) rfl ⟨_, rfl, fv_bad 7, (Below.refl _ _).alloc (Nat.le_refl _) _⟩
          · have e3 : (((bt s 1).toNat : Int) != 39) = true := by simp; omega
            by_cases v4 : (bt s 2).toNat = 39
            · have e4 : (((bt s 2).toNat : Int) == 39) = true := by rw [v4]; rfl
              rw [quote_yes hq v1 v2 v3 v4]
              clear v3 v4
              go_enter Tryz.func66, Tryz.ntmps66
              go_wp2_with fail
              exact bodyPost_ret (v := .agg #[.int .i64 4, .string ⟨#[]⟩, .int .i64 ((bt s 1).toNat : Nat), .bool false, .int .i64 0, .int .i64 0, .int .i64 0, .int .i64 3, .int .i64 0]) (by simp [results, Tryz.results66, go_sem]) rfl ⟨_, rfl, fv_ok 4 (bt s 1).toNat 3 [], (Below.refl _ _).alloc (Nat.le_refl _) _⟩
            · have e4 : (((bt s 2).toNat : Int) == 39) = false := by simp; omega
              rw [quote_no (s := s) hq (.inr (.inr (.inr v4)))]
              clear v1 v2 v3 v4
              go_enter Tryz.func66, Tryz.ntmps66
              go_wp2_with fail
              exact bodyPost_ret (v := .agg #[.int .i64 0, .string ⟨#[]⟩, .int .i64 0, .bool false, .int .i64 0, .int .i64 0, .int .i64 0, .int .i64 0, .int .i64 7]) (by simp [results, Tryz.results66, go_sem]) rfl ⟨_, rfl, fv_bad 7, (Below.refl _ _).alloc (Nat.le_refl _) _⟩
        · have e2 : decide (((bt s 1).toNat : Int) ≤ 126) = false := by simp; omega
          rw [quote_no (s := s) hq (.inr (.inl v2))]
          clear v1 v2
          go_enter Tryz.func66, Tryz.ntmps66
          go_wp2_with fail
          exact bodyPost_ret (v := .agg #[.int .i64 0, .string ⟨#[]⟩, .int .i64 0, .bool false, .int .i64 0, .int .i64 0, .int .i64 0, .int .i64 0, .int .i64 7]) (by simp [results, Tryz.results66, go_sem]) rfl ⟨_, rfl, fv_bad 7, (Below.refl _ _).alloc (Nat.le_refl _) _⟩
      · have e1 : decide ((32 : Int) ≤ ((bt s 1).toNat : Int)) = false := by simp; omega
        rw [quote_no (s := s) hq (.inl v1)]
        clear v1
        go_enter Tryz.func66, Tryz.ntmps66
        go_wp2_with fail
        exact bodyPost_ret (v := .agg #[.int .i64 0, .string ⟨#[]⟩, .int .i64 0, .bool false, .int .i64 0, .int .i64 0, .int .i64 0, .int .i64 0, .int .i64 7]) (by simp [results, Tryz.results66, go_sem]) rfl ⟨_, rfl, fv_bad 7, (Below.refl _ _).alloc (Nat.le_refl _) _⟩
    · have z3 : decide ((3 : Int) ≤ (s.size : Int)) = false := by simp; omega
      have z3' : decide (3 ≤ s.size) = false := by simp; omega
      rw [quote_no (s := s) hq (.inr (.inr (.inr (by rw [bt_out s 2 (by omega)]; decide))))]
      clear h3
      go_enter Tryz.func66, Tryz.ntmps66
      go_wp2_with fail
      exact bodyPost_ret (v := .agg #[.int .i64 0, .string ⟨#[]⟩, .int .i64 0, .bool false, .int .i64 0, .int .i64 0, .int .i64 0, .int .i64 0, .int .i64 7]) (by simp [results, Tryz.results66, go_sem]) rfl ⟨_, rfl, fv_bad 7, (Below.refl _ _).alloc (Nat.le_refl _) _⟩

theorem val_lt2 (l : List UInt8) (h : ∀ c ∈ l, 48 ≤ c.toNat ∧ c.toNat ≤ 57) (h3 : ¬ 3 < l.length) : valL l ≤ 1000 := by
  have hv := val_lt l h
  have : l.length = 0 ∨ l.length = 1 ∨ l.length = 2 ∨ l.length = 3 := by omega
  rcases this with e | e | e | e <;> rw [e] at hv <;> omega
set_option maxRecDepth 100000 in
set_option maxHeartbeats 4000000 in
theorem refHash (s : ByteArray) (w : World) (hs : s.size ≤ 100000) (h0 : 0 < s.size) (hc : (bt s 0).toNat = 35) : Calls Tryz.prog 66 #[.int .i64 0, .string s] w (FPost (hashL ((s.data.toList.drop 1).takeWhile isDig)) w) := by
  have hb0 := bt_eq s 0 h0
  have d0 : (((bt s 0).toNat : Int) == 35) = true := by rw [hc]; rfl
  have hD := fun w1 => refDigs (restOf s 1) w1 (by rw [restOf_size]; unfold maxLen; omega)
  rw [restOf_l, ← ext_rest] at hD
  have hz := tw_size isDig s 1
  have hlen := ba_len ((s.data.toList.drop 1).takeWhile isDig)
  have hval := valTo_all ((s.data.toList.drop 1).takeWhile isDig)
  have hall := dig_all (s.data.toList.drop 1)
  have hle : 1 + ((s.data.toList.drop 1).takeWhile isDig).length ≤ s.size := by
    have := tw_len (p := isDig) (s.data.toList.drop 1)
    rw [List.length_drop, len_size] at this
    omega
  have hX : s.extract 1 (1 + ((s.data.toList.drop 1).takeWhile isDig).length) = ⟨((s.data.toList.drop 1).takeWhile isDig).toArray⟩ := by rw [ext_take, tw_take]
  have hi1 : (1 : Int) ≤ (s.size : Int) := by omega
  have HD := Lib.hid hD
  clear hD hc
  generalize hds : (s.data.toList.drop 1).takeWhile isDig = ds at *
  clear hds
  have hil : (1 : Int) + (ds.length : Int) ≤ (s.size : Int) := by omega
  have hil0 : (1 : Int) ≤ (1 : Int) + (ds.length : Int) := by omega
  have htn : ((1 : Int) + (ds.length : Int)).toNat = 1 + ds.length := by omega
  by_cases k0 : ds.length = 0
  · rw [hash_0 k0]
    have e0 : ((ds.length : Int) == 0) = true := by rw [k0]; rfl
    clear k0 hval hX
    go_enter Tryz.func66, Tryz.ntmps66
    go_wp2_with fail
    refine (HD.out _).mono ?_
    rintro e w1 ⟨rfl, rfl⟩
    go_wp2_with fail
    exact bodyPost_ret (v := .agg #[.int .i64 0, .string ⟨#[]⟩, .int .i64 0, .bool false, .int .i64 0, .int .i64 0, .int .i64 0, .int .i64 0, .int .i64 7]) (by simp [results, Tryz.results66, go_sem]) rfl ⟨_, rfl, fv_bad 7, (Below.refl _ _).alloc (Nat.le_refl _) _⟩
  · have e0 : ((ds.length : Int) == 0) = false := by rw [beq_eq_false_iff_ne]; omega
    by_cases k3 : 3 < ds.length
    · rw [hash_3 k3]
      have e3 : decide ((3 : Int) < (ds.length : Int)) = true := by simp; omega
      clear k0 hval hX
      go_enter Tryz.func66, Tryz.ntmps66
      go_wp2_with fail
      refine (HD.out _).mono ?_
      rintro e w1 ⟨rfl, rfl⟩
      go_wp2_with fail
      exact bodyPost_ret (v := .agg #[.int .i64 0, .string ⟨#[]⟩, .int .i64 0, .bool false, .int .i64 0, .int .i64 0, .int .i64 0, .int .i64 0, .int .i64 7]) (by simp [results, Tryz.results66, go_sem]) rfl ⟨_, rfl, fv_bad 7, (Below.refl _ _).alloc (Nat.le_refl _) _⟩
    · have e3 : decide ((3 : Int) < (ds.length : Int)) = false := by simp; omega
      have hvl := val_lt2 ds hall k3
      have had := AD_of ds (by omega) hall
      have hN := fun w1 => refNumber_ok ⟨ds.toArray⟩ w1 (by unfold maxLen; omega) had (by rw [hval]; omega)
      rw [hval] at hN
      have HN := Lib.hid hN
      clear hN had hval
      by_cases k5 : 255 < valL ds
      · rw [hash_255 k5]
        have e5 : decide ((255 : Int) < ((valL ds : Nat) : Int)) = true := by simp; omega
        clear k0 k3 k5
        go_enter Tryz.func66, Tryz.ntmps66
        go_wp2_with fail
        refine (HD.out _).mono ?_
        rintro e w1 ⟨rfl, rfl⟩
        go_wp2_with fail
        refine (HN.out _).mono ?_
        rintro e w2 ⟨rfl, rfl⟩
        go_wp2_with fail
        exact bodyPost_ret (v := .agg #[.int .i64 0, .string ⟨#[]⟩, .int .i64 0, .bool false, .int .i64 0, .int .i64 0, .int .i64 0, .int .i64 0, .int .i64 7]) (by simp [results, Tryz.results66, go_sem]) rfl ⟨_, rfl, fv_bad 7, (Below.refl _ _).alloc (Nat.le_refl _) _⟩
      · rw [hash_good k0 (by omega) (by omega)]
        have e5 : decide ((255 : Int) < ((valL ds : Nat) : Int)) = false := by simp; omega
        clear k0 k3 k5
        go_enter Tryz.func66, Tryz.ntmps66
        go_wp2_with fail
        refine (HD.out _).mono ?_
        rintro e w1 ⟨rfl, rfl⟩
        go_wp2_with fail
        refine (HN.out _).mono ?_
        rintro e w2 ⟨rfl, rfl⟩
        go_wp2_with fail
        exact bodyPost_ret (v := .agg #[.int .i64 4, .string ⟨#[]⟩, .int .i64 (valL ds : Nat), .bool false, .int .i64 0, .int .i64 0, .int .i64 0, .int .i64 ((1 + ds.length : Nat) : Int), .int .i64 0]) (by simp [results, Tryz.results66, go_sem]) rfl ⟨_, rfl, fv_ok 4 (valL ds) (1 + ds.length) [], (Below.refl _ _).alloc (Nat.le_refl _) _⟩
end Go.Proofs.YtpcldpnaljheoaaGreatDoor.X.P
end
section
namespace Go.Proofs.YtpcldpnaljheoaaGreatDoor.X.P
open Go.RowKit Go.Sort

theorem notLet {c : UInt8} (h : isLet c = false) : (decide ((97 : Int) ≤ (c.toNat : Int)) = false ∨ (decide ((97 : Int) ≤ (c.toNat : Int)) = true ∧ decide ((c.toNat : Int) ≤ 122) = false)) ∧ (decide ((65 : Int) ≤ (c.toNat : Int)) = false ∨ (decide ((65 : Int) ≤ (c.toNat : Int)) = true ∧ decide ((c.toNat : Int) ≤ 90) = false)) := by
  unfold isLet isLow isUp at h
  rw [Bool.or_eq_false_iff] at h
  have h1 : ¬ (97 ≤ c.toNat ∧ c.toNat ≤ 122) := by have := h.1; rw [← Bool.not_eq_true, Bool.and_eq_true, decide_eq_true_iff, decide_eq_true_iff] at this; exact this
  have h2 : ¬ (65 ≤ c.toNat ∧ c.toNat ≤ 90) := by have := h.2; rw [← Bool.not_eq_true, Bool.and_eq_true, decide_eq_true_iff, decide_eq_true_iff] at this; exact this
  constructor
  · by_cases g : 97 ≤ c.toNat
    · exact .inr ⟨by simp; omega, by simp; omega⟩
    · exact .inl (by simp; omega)
  · by_cases g : 65 ≤ c.toNat
    · exact .inr ⟨by simp; omega, by simp; omega⟩
    · exact .inl (by simp; omega)
theorem yesLet {c : UInt8} (h : isLet c = true) : (97 ≤ c.toNat ∧ c.toNat ≤ 122) ∨ (65 ≤ c.toNat ∧ c.toNat ≤ 90) := by
  unfold isLet isLow isUp at h
  simpa using h
theorem list_bt (s : ByteArray) (h : 0 < s.size) : s.data.toList = bt s 0 :: s.data.toList.drop 1 := by have := drop_bt s 0 h; simpa using this
theorem beg_bt (s : ByteArray) (h : 0 < s.size) : begL 0 s.data.toList = (bt s 0 == 123) := by rw [list_bt s h, beg_cons]
theorem fst_note {s : ByteArray} (h : 0 < s.size) (hc : (bt s 0 == 123) = true) : tokL s.data.toList = noteL s.data.toList := by
  have e := list_bt s h
  rw [e, tokL_cons, if_pos hc]
theorem fst_let {s : ByteArray} (h : 0 < s.size) (hl : isLet (bt s 0) = true) : tokL s.data.toList = nameL (s.data.toList.takeWhile isNam) := by
  have e := list_bt s h
  obtain ⟨_, b2, b3⟩ := let_not _ hl
  rw [e, tokL_cons, b2, if_neg (by decide), b3, if_neg (by decide), if_pos hl]
theorem fst_dig {s : ByteArray} (h : 0 < s.size) (hd : isDig (bt s 0) = true) (hc : (bt s 0 == 123) = false) : tokL s.data.toList = intL (s.data.toList.takeWhile isDig) := by
  have e := list_bt s h
  rw [e, tokL_cons, hc, if_neg (by decide), if_pos hd]
theorem fst_39 {s : ByteArray} (h : 0 < s.size) (hc : bt s 0 = 39) : tokL s.data.toList = quoteL s.data.toList := by
  have e := list_bt s h
  rw [hc] at e
  rw [e, tokL_cons, if_neg (by decide), if_neg (by decide), if_neg (by decide), if_pos (by decide)]
theorem fst_35 {s : ByteArray} (h : 0 < s.size) (hc : bt s 0 = 35) : tokL s.data.toList = hashL ((s.data.toList.drop 1).takeWhile isDig) := by
  have e := list_bt s h
  rw [hc] at e
  have e2 : tokL (35 :: s.data.toList.drop 1) = hashL ((s.data.toList.drop 1).takeWhile isDig) := by
    rw [tokL_cons, if_neg (by decide), if_neg (by decide), if_neg (by decide), if_neg (by decide), if_pos (by decide)]
  rw [← e2, ← e]
theorem fst_sign {s : ByteArray} (h : 0 < s.size) (hc : (bt s 0 == 123) = false) (hd : isDig (bt s 0) = false) (hl : isLet (bt s 0) = false) (h39 : (bt s 0 == 39) = false) (h35 : (bt s 0 == 35) = false) : tokL s.data.toList = signL s.data.toList := by
  have e := list_bt s h
  rw [e, tokL_cons, hc, if_neg (by decide), hd, if_neg (by decide), hl, if_neg (by decide), h39, if_neg (by decide), h35, if_neg (by decide)]
theorem toNat_eq (c : UInt8) (n : Nat) (hn : n < 256) : (c == UInt8.ofNat n) = decide (c.toNat = n) := by
  rw [Bool.eq_iff_iff, beq_iff_eq, decide_eq_true_iff]
  constructor
  · rintro rfl; simp; omega
  · intro h; exact UInt8.toNat_inj.1 (by rw [h]; simp; omega)
set_option maxRecDepth 100000 in
set_option maxHeartbeats 4000000 in
theorem first_some (s : ByteArray) (w : World) (hs : s.size ≤ 100000) (h0 : 0 < s.size) (hsg : isLet (bt s 0) = true ∨ (bt s 0 == 123) = true ∨ isDig (bt s 0) = true ∨ (bt s 0).toNat = 39 ∨ (bt s 0).toNat = 35) : Calls Tryz.prog 37 #[.int .i64 0, .string s] w (FPost (tokL s.data.toList) w) := by
  have hsm : s.size ≤ maxLen := by unfold maxLen; omega
  have hb0 := bt_eq s 0 h0
  have hlb := UInt8.toNat_lt (bt s 0)
  have hB := fun w1 => refBeg_0 s w1
  rw [beg_bt s h0] at hB
  cases hc : bt s 0 == 123 with
  | true =>
    rw [hc] at hB
    have HB := Lib.hid hB
    rw [fst_note h0 hc]
    have hR := fun w1 => refRead_any 0 s w1 hsm
    obtain ⟨t, u, e, hq⟩ : ∃ t u e, readL 0 s.data.toList = (t, u, e) := ⟨_, _, _, rfl⟩
    rw [hq] at hR
    have hR : ∀ w1, Calls Tryz.prog 62 #[.int .i64 0, .string s] w1 fun e_1 w' => e_1 = .returned (.tuple #[.string ⟨t.toArray⟩, .int .i64 (u : Nat), .int .i64 (e : Nat)]) ∧ Below w1.heap.size w1 w' := hR
    have HR := Lib.hid hR
    have hfv : FV (noteL s.data.toList) (.agg #[.int .i64 6, .string ⟨t.toArray⟩, .int .i64 0, .bool false, .int .i64 0, .int .i64 0, .int .i64 0, .int .i64 (u : Nat), .int .i64 (e : Nat)]) := by
      by_cases he : e = 0
      · rw [note_ok hq he]
        subst he
        exact fv_ok 6 0 u t
      · rw [note_bad hq he]
        exact ⟨6, 0, u, _, rfl, fun h => absurd h he⟩
    generalize noteL s.data.toList = f at hfv
    have HFV := Lib.hid hfv
    clear hB hc hR hq hfv hsg
    go_enter Tryz.func37, Tryz.ntmps37
    go_wp2_with fail
    refine (HB.out _).mono ?_
    have Z := Lib.hid (FndZ.new w)
    have B := Lib.hid (show Below w.heap.size w (w.alloc (.cells #[.int .i64 0, .string ⟨#[]⟩, .int .i64 0, .bool false, .int .i64 0, .int .i64 0, .int .i64 0, .int .i64 0, .int .i64 0] 74)) from (Below.refl _ _).alloc (Nat.le_refl _) _)
    generalize w.alloc (.cells #[.int .i64 0, .string ⟨#[]⟩, .int .i64 0, .bool false, .int .i64 0, .int .i64 0, .int .i64 0, .int .i64 0, .int .i64 0] 74) = w0 at Z B
    rintro e w1 ⟨rfl, rfl⟩
    go_wp2_with fail
    refine (HR.out _).mono ?_
    rintro e_1 w2 ⟨rfl, b2⟩
    have Z2 := Lib.hid (Z.out.below b2)
    have B2 := Lib.hid (B.out.trans (b2.mono B.out.size))
    obtain ⟨f0, f1, f2, f3, f4, f5, f6, f7, f8, gf⟩ := Z2.out.facts
    clear b2 Z B
    go_wp2_with fail
    exact bodyPost_ret (v := .agg #[.int .i64 6, .string ⟨t.toArray⟩, .int .i64 0, .bool false, .int .i64 0, .int .i64 0, .int .i64 0, .int .i64 (u : Nat), .int .i64 (e : Nat)]) (by simp [results, Tryz.results37, go_sem, f0, f1, f2, f3, f4, f5, f6, f7, f8]) rfl ⟨_, rfl, HFV.out, set9_below (Nat.le_refl _) B2.out _ _ _ _ _ _ _ _ _⟩
  | false =>
    rw [hc] at hB
    have HB := Lib.hid hB
    clear hB
    cases hl : isLet (bt s 0) with
    | true =>
      rw [fst_let h0 hl]
      have HN := Lib.hid fun w1 => refName s w1 hs
      generalize nameL (s.data.toList.takeWhile isNam) = f at HN ⊢
      have hy := yesLet hl
      clear hsg hl hc
      by_cases g : 97 ≤ (bt s 0).toNat ∧ (bt s 0).toNat ≤ 122
      · have d1 : decide ((97 : Int) ≤ ((bt s 0).toNat : Int)) = true := by simp; omega
        have d2 : decide (((bt s 0).toNat : Int) ≤ 122) = true := by simp; omega
        clear hy g
        go_enter Tryz.func37, Tryz.ntmps37
        go_wp2_with fail
        refine (HB.out _).mono ?_
        have Z := Lib.hid (FndZ.new w)
        have B := Lib.hid (show Below w.heap.size w (w.alloc (.cells #[.int .i64 0, .string ⟨#[]⟩, .int .i64 0, .bool false, .int .i64 0, .int .i64 0, .int .i64 0, .int .i64 0, .int .i64 0] 74)) from (Below.refl _ _).alloc (Nat.le_refl _) _)
        generalize w.alloc (.cells #[.int .i64 0, .string ⟨#[]⟩, .int .i64 0, .bool false, .int .i64 0, .int .i64 0, .int .i64 0, .int .i64 0, .int .i64 0] 74) = w0 at Z B
        rintro e w1 ⟨rfl, rfl⟩
        go_wp2_with fail
        refine (HN.out _).mono ?_
        rintro e w2 ⟨v, rfl, hfv, b2⟩
        obtain ⟨fk, fn, fu, ft, rfl, hf0⟩ := hfv
        have Z2 := Lib.hid (Z.out.below b2)
        have B2 := Lib.hid (B.out.trans (b2.mono B.out.size))
        have HF0 := Lib.hid hf0
        obtain ⟨f0, f1, f2, f3, f4, f5, f6, f7, f8, gf⟩ := Z2.out.facts
        clear b2 hf0 Z B
        go_wp2_with fail
        exact bodyPost_ret (v := .agg #[.int .i64 fk, .string ft, .int .i64 fn, .bool false, .int .i64 0, .int .i64 0, .int .i64 0, .int .i64 fu, .int .i64 (f.err : Nat)]) (by simp [results, Tryz.results37, go_sem, f0, f1, f2, f3, f4, f5, f6, f7, f8]) rfl ⟨_, rfl, ⟨fk, fn, fu, ft, rfl, HF0.out⟩, set9_below (Nat.le_refl _) B2.out _ _ _ _ _ _ _ _ _⟩
      · have d1 : decide ((97 : Int) ≤ ((bt s 0).toNat : Int)) = false := by simp; omega
        have d3 : decide ((65 : Int) ≤ ((bt s 0).toNat : Int)) = true := by simp; omega
        have d4 : decide (((bt s 0).toNat : Int) ≤ 90) = true := by simp; omega
        clear hy g
        go_enter Tryz.func37, Tryz.ntmps37
        go_wp2_with fail
        refine (HB.out _).mono ?_
        have Z := Lib.hid (FndZ.new w)
        have B := Lib.hid (show Below w.heap.size w (w.alloc (.cells #[.int .i64 0, .string ⟨#[]⟩, .int .i64 0, .bool false, .int .i64 0, .int .i64 0, .int .i64 0, .int .i64 0, .int .i64 0] 74)) from (Below.refl _ _).alloc (Nat.le_refl _) _)
        generalize w.alloc (.cells #[.int .i64 0, .string ⟨#[]⟩, .int .i64 0, .bool false, .int .i64 0, .int .i64 0, .int .i64 0, .int .i64 0, .int .i64 0] 74) = w0 at Z B
        rintro e w1 ⟨rfl, rfl⟩
        go_wp2_with fail
        refine (HN.out _).mono ?_
        rintro e w2 ⟨v, rfl, hfv, b2⟩
        obtain ⟨fk, fn, fu, ft, rfl, hf0⟩ := hfv
        have Z2 := Lib.hid (Z.out.below b2)
        have B2 := Lib.hid (B.out.trans (b2.mono B.out.size))
        have HF0 := Lib.hid hf0
        obtain ⟨f0, f1, f2, f3, f4, f5, f6, f7, f8, gf⟩ := Z2.out.facts
        clear b2 hf0 Z B
        go_wp2_with fail
        exact bodyPost_ret (v := .agg #[.int .i64 fk, .string ft, .int .i64 fn, .bool false, .int .i64 0, .int .i64 0, .int .i64 0, .int .i64 fu, .int .i64 (f.err : Nat)]) (by simp [results, Tryz.results37, go_sem, f0, f1, f2, f3, f4, f5, f6, f7, f8]) rfl ⟨_, rfl, ⟨fk, fn, fu, ft, rfl, HF0.out⟩, set9_below (Nat.le_refl _) B2.out _ _ _ _ _ _ _ _ _⟩
    | false =>
      obtain ⟨nl1, nl2⟩ := notLet hl
      cases hd : isDig (bt s 0) with
      | true =>
        rw [fst_dig h0 hd hc]
        have hdy := isDig_yes _ hd
        have d5 : decide ((48 : Int) ≤ ((bt s 0).toNat : Int)) = true := by simp; omega
        have d6 : decide (((bt s 0).toNat : Int) ≤ 57) = true := by simp; omega
        have d1 : decide ((97 : Int) ≤ ((bt s 0).toNat : Int)) = false := by simp; omega
        have d3 : decide ((65 : Int) ≤ ((bt s 0).toNat : Int)) = false := by simp; omega
        have HD := Lib.hid fun w1 => refDigs s w1 hsm
        have hz := tw_size isDig s 0
        rw [List.drop_zero] at hz
        have hlen := ba_len (s.data.toList.takeWhile isDig)
        have hval := valTo_all (s.data.toList.takeWhile isDig)
        have hall := dig_all s.data.toList
        have hpos : 1 ≤ (s.data.toList.takeWhile isDig).length := by rw [list_bt s h0]; exact tw_pos hd
        have hX : s.extract 0 (s.data.toList.takeWhile isDig).length = ⟨(s.data.toList.takeWhile isDig).toArray⟩ := by
          have := ext_take s 0 (s.data.toList.takeWhile isDig).length
          rw [Nat.zero_add, List.drop_zero, tw_take] at this
          exact this
        have had := AD_of _ hpos hall
        have hdl : (s.data.toList.takeWhile isDig).length ≤ s.size := by have := tw_len (p := isDig) s.data.toList; rw [len_size] at this; exact this
        generalize hds : s.data.toList.takeWhile isDig = ds at *
        have hil : (ds.length : Int) ≤ (s.size : Int) := by omega
        clear hsg hl hd hds
        by_cases hbig : maxInt < valL ds
        · have hN := fun w1 => refNumber_big ⟨ds.toArray⟩ w1 (by unfold maxLen; omega) had (by rw [hval]; unfold maxInt at hbig; omega)
          have HN := Lib.hid hN
          have F : intL ds = bad 6 := by unfold intL; rw [if_pos hbig]
          rw [F]
          clear hN had hval hbig F
          clear nl1 nl2
          focus
            go_enter Tryz.func37, Tryz.ntmps37
            go_wp2_with fail
            refine (HB.out _).mono ?_
            have Z := Lib.hid (FndZ.new w)
            have B := Lib.hid (show Below w.heap.size w (w.alloc (.cells #[.int .i64 0, .string ⟨#[]⟩, .int .i64 0, .bool false, .int .i64 0, .int .i64 0, .int .i64 0, .int .i64 0, .int .i64 0] 74)) from (Below.refl _ _).alloc (Nat.le_refl _) _)
            generalize w.alloc (.cells #[.int .i64 0, .string ⟨#[]⟩, .int .i64 0, .bool false, .int .i64 0, .int .i64 0, .int .i64 0, .int .i64 0, .int .i64 0] 74) = w0 at Z B
            rintro e w1 ⟨rfl, rfl⟩
            go_wp2_with fail
            refine (HD.out _).mono ?_
            rintro e w2 ⟨rfl, rfl⟩
            go_wp2_with fail
            refine (HN.out _).mono ?_
            rintro e w3 ⟨rfl, rfl⟩
            obtain ⟨f0, f1, f2, f3, f4, f5, f6, f7, f8, gf⟩ := Z.out.facts
            go_wp2_with fail
            exact bodyPost_ret (v := .agg #[.int .i64 3, .string ⟨#[]⟩, .int .i64 0, .bool false, .int .i64 0, .int .i64 0, .int .i64 0, .int .i64 (ds.length : Nat), .int .i64 6]) (by simp [results, Tryz.results37, go_sem, f0, f1, f2, f3, f4, f5, f6, f7, f8]) rfl ⟨_, rfl, ⟨3, 0, ds.length, _, rfl, fun h => by cases h⟩, set9_below (Nat.le_refl _) B.out _ _ _ _ _ _ _ _ _⟩
        · have hN := fun w1 => refNumber_ok ⟨ds.toArray⟩ w1 (by unfold maxLen; omega) had (by rw [hval]; unfold maxInt at hbig; omega)
          rw [hval] at hN
          have HN := Lib.hid hN
          have F : intL ds = ⟨3, [], valL ds, ds.length, 0⟩ := by unfold intL; rw [if_neg hbig]
          rw [F]
          clear hN had hval hbig F
          clear nl1 nl2
          focus
            go_enter Tryz.func37, Tryz.ntmps37
            go_wp2_with fail
            refine (HB.out _).mono ?_
            have Z := Lib.hid (FndZ.new w)
            have B := Lib.hid (show Below w.heap.size w (w.alloc (.cells #[.int .i64 0, .string ⟨#[]⟩, .int .i64 0, .bool false, .int .i64 0, .int .i64 0, .int .i64 0, .int .i64 0, .int .i64 0] 74)) from (Below.refl _ _).alloc (Nat.le_refl _) _)
            generalize w.alloc (.cells #[.int .i64 0, .string ⟨#[]⟩, .int .i64 0, .bool false, .int .i64 0, .int .i64 0, .int .i64 0, .int .i64 0, .int .i64 0] 74) = w0 at Z B
            rintro e w1 ⟨rfl, rfl⟩
            go_wp2_with fail
            refine (HD.out _).mono ?_
            rintro e w2 ⟨rfl, rfl⟩
            go_wp2_with fail
            refine (HN.out _).mono ?_
            rintro e w3 ⟨rfl, rfl⟩
            obtain ⟨f0, f1, f2, f3, f4, f5, f6, f7, f8, gf⟩ := Z.out.facts
            go_wp2_with fail
            exact bodyPost_ret (v := .agg #[.int .i64 3, .string ⟨#[]⟩, .int .i64 (valL ds : Nat), .bool false, .int .i64 0, .int .i64 0, .int .i64 0, .int .i64 (ds.length : Nat), .int .i64 0]) (by simp [results, Tryz.results37, go_sem, f0, f1, f2, f3, f4, f5, f6, f7, f8]) rfl ⟨_, rfl, fv_ok 3 (valL ds) ds.length [], set9_below (Nat.le_refl _) B.out _ _ _ _ _ _ _ _ _⟩
      | false =>
        have nd : decide ((48 : Int) ≤ ((bt s 0).toNat : Int)) = false ∨ (decide ((48 : Int) ≤ ((bt s 0).toNat : Int)) = true ∧ decide (((bt s 0).toNat : Int) ≤ 57) = false) := by
          rcases isDig_not _ hd with h | h
          · exact .inl (by simp; omega)
          · exact .inr ⟨by simp; omega, by simp; omega⟩
        have hch : (bt s 0).toNat = 39 ∨ (bt s 0).toNat = 35 := by
          rcases hsg with h | h | h | h | h
          · rw [hl] at h; cases h
          · rw [hc] at h; cases h
          · rw [hd] at h; cases h
          · exact .inl h
          · exact .inr h
        clear hsg
        rcases hch with h39 | h35
        · rw [fst_39 h0 (UInt8.toNat_inj.1 h39)]
          have HN := Lib.hid fun w1 => refQuote s w1 hs h0 h39
          generalize quoteL s.data.toList = f at HN ⊢
          have e1 : (((bt s 0).toNat : Int) == 39) = true := by rw [h39]; rfl
          have d1 : decide ((97 : Int) ≤ ((bt s 0).toNat : Int)) = false := by rw [h39]; rfl
          have d3 : decide ((65 : Int) ≤ ((bt s 0).toNat : Int)) = false := by rw [h39]; rfl
          have d5 : decide ((48 : Int) ≤ ((bt s 0).toNat : Int)) = false := by rw [h39]; rfl
          clear hl hd hc h39
          clear nl1 nl2 nd
          focus
            go_enter Tryz.func37, Tryz.ntmps37
            go_wp2_with fail
            refine (HB.out _).mono ?_
            have Z := Lib.hid (FndZ.new w)
            have B := Lib.hid (show Below w.heap.size w (w.alloc (.cells #[.int .i64 0, .string ⟨#[]⟩, .int .i64 0, .bool false, .int .i64 0, .int .i64 0, .int .i64 0, .int .i64 0, .int .i64 0] 74)) from (Below.refl _ _).alloc (Nat.le_refl _) _)
            generalize w.alloc (.cells #[.int .i64 0, .string ⟨#[]⟩, .int .i64 0, .bool false, .int .i64 0, .int .i64 0, .int .i64 0, .int .i64 0, .int .i64 0] 74) = w0 at Z B
            rintro e w1 ⟨rfl, rfl⟩
            go_wp2_with fail
            refine (HN.out _).mono ?_
            rintro e w2 ⟨v, rfl, hfv, b2⟩
            obtain ⟨fk, fn, fu, ft, rfl, hf0⟩ := hfv
            have Z2 := Lib.hid (Z.out.below b2)
            have B2 := Lib.hid (B.out.trans (b2.mono B.out.size))
            have HF0 := Lib.hid hf0
            obtain ⟨f0, f1, f2, f3, f4, f5, f6, f7, f8, gf⟩ := Z2.out.facts
            clear b2 hf0 Z B
            go_wp2_with fail
            exact bodyPost_ret (v := .agg #[.int .i64 fk, .string ft, .int .i64 fn, .bool false, .int .i64 0, .int .i64 0, .int .i64 0, .int .i64 fu, .int .i64 (f.err : Nat)]) (by simp [results, Tryz.results37, go_sem, f0, f1, f2, f3, f4, f5, f6, f7, f8]) rfl ⟨_, rfl, ⟨fk, fn, fu, ft, rfl, HF0.out⟩, set9_below (Nat.le_refl _) B2.out _ _ _ _ _ _ _ _ _⟩
        · rw [fst_35 h0 (UInt8.toNat_inj.1 h35)]
          have HN := Lib.hid fun w1 => refHash s w1 hs h0 h35
          generalize hashL ((s.data.toList.drop 1).takeWhile isDig) = f at HN ⊢
          have e1 : (((bt s 0).toNat : Int) == 39) = false := by rw [h35]; rfl
          have d1 : decide ((97 : Int) ≤ ((bt s 0).toNat : Int)) = false := by rw [h35]; rfl
          have d3 : decide ((65 : Int) ≤ ((bt s 0).toNat : Int)) = false := by rw [h35]; rfl
          have d5 : decide ((48 : Int) ≤ ((bt s 0).toNat : Int)) = false := by rw [h35]; rfl
          have e2 : (((bt s 0).toNat : Int) == 35) = true := by rw [h35]; rfl
          clear hl hd hc h35
          clear nl1 nl2 nd
          focus
            go_enter Tryz.func37, Tryz.ntmps37
            go_wp2_with fail
            refine (HB.out _).mono ?_
            have Z := Lib.hid (FndZ.new w)
            have B := Lib.hid (show Below w.heap.size w (w.alloc (.cells #[.int .i64 0, .string ⟨#[]⟩, .int .i64 0, .bool false, .int .i64 0, .int .i64 0, .int .i64 0, .int .i64 0, .int .i64 0] 74)) from (Below.refl _ _).alloc (Nat.le_refl _) _)
            generalize w.alloc (.cells #[.int .i64 0, .string ⟨#[]⟩, .int .i64 0, .bool false, .int .i64 0, .int .i64 0, .int .i64 0, .int .i64 0, .int .i64 0] 74) = w0 at Z B
            rintro e w1 ⟨rfl, rfl⟩
            go_wp2_with fail
            refine (HN.out _).mono ?_
            rintro e w2 ⟨v, rfl, hfv, b2⟩
            obtain ⟨fk, fn, fu, ft, rfl, hf0⟩ := hfv
            have Z2 := Lib.hid (Z.out.below b2)
            have B2 := Lib.hid (B.out.trans (b2.mono B.out.size))
            have HF0 := Lib.hid hf0
            obtain ⟨f0, f1, f2, f3, f4, f5, f6, f7, f8, gf⟩ := Z2.out.facts
            clear b2 hf0 Z B
            go_wp2_with fail
            exact bodyPost_ret (v := .agg #[.int .i64 fk, .string ft, .int .i64 fn, .bool false, .int .i64 0, .int .i64 0, .int .i64 0, .int .i64 fu, .int .i64 (f.err : Nat)]) (by simp [results, Tryz.results37, go_sem, f0, f1, f2, f3, f4, f5, f6, f7, f8]) rfl ⟨_, rfl, ⟨fk, fn, fu, ft, rfl, HF0.out⟩, set9_below (Nat.le_refl _) B2.out _ _ _ _ _ _ _ _ _⟩

end Go.Proofs.YtpcldpnaljheoaaGreatDoor.X.P
end
section
namespace Go.Proofs.YtpcldpnaljheoaaGreatDoor.X.P
open Go.RowKit Go.Sort

theorem find_take (l : List UInt8) {j : Nat} {g : List UInt8} (hg : signs[j]? = some g) (hn : ∀ i, i < j → ∀ x, signs[i]? = some x → Lib.hasPrefix l x = false) (hp : Lib.hasPrefix l g = true) : signL l = ⟨5, g, 0, g.length, 0⟩ := by
  have h : signs.find? (fun x => Lib.hasPrefix l x) = some g := by
    have e : signs = signs.take j ++ g :: signs.drop (j + 1) := by
      have hj := (List.getElem?_eq_some_iff.1 hg).1
      conv => lhs; rw [← List.take_append_drop j signs]
      rw [List.drop_eq_getElem_cons hj]
      congr 2
      exact (List.getElem?_eq_some_iff.1 hg).2
    rw [e, List.find?_append]
    have h1 : (signs.take j).find? (fun x => Lib.hasPrefix l x) = none := by
      rw [List.find?_eq_none]
      intro x hx
      obtain ⟨i, hi⟩ := List.getElem?_of_mem hx
      have hij : i < j := by have := (List.getElem?_eq_some_iff.1 hi).1; rw [List.length_take] at this; omega
      rw [List.getElem?_take_of_lt hij] at hi
      rw [hn i hij x hi]
      decide
    rw [h1, List.find?_cons, hp]
    rfl
  unfold signL
  rw [h]
theorem find_none (l : List UInt8) (hn : ∀ i, i < 18 → ∀ x, signs[i]? = some x → Lib.hasPrefix l x = false) : signL l = bad 5 := by
  have h : signs.find? (fun x => Lib.hasPrefix l x) = none := by
    rw [List.find?_eq_none]
    intro x hx
    obtain ⟨i, hi⟩ := List.getElem?_of_mem hx
    have hij : i < 18 := (List.getElem?_eq_some_iff.1 hi).1
    rw [hn i hij x hi]
    decide
  unfold signL
  rw [h]
theorem hp_ext (s : ByteArray) (g : List UInt8) : Lib.hasPrefix s.data.toList g = ((s.extract 0 g.length).toList == (ByteArray.mk g.toArray).toList) := by
  rw [hp_take, ByteArray.toList_eq, ByteArray.toList_eq]
  have := ext_take s 0 g.length
  rw [Nat.zero_add, List.drop_zero] at this
  rw [this]
set_option maxRecDepth 100000 in
set_option maxHeartbeats 4000000 in
theorem first_sign (s : ByteArray) (w : World) (hs : s.size ≤ 100000) (h0 : 0 < s.size) (hc : (bt s 0 == 123) = false) (hl : isLet (bt s 0) = false) (hd : isDig (bt s 0) = false) (h39 : (bt s 0).toNat ≠ 39) (h35 : (bt s 0).toNat ≠ 35) : Calls Tryz.prog 37 #[.int .i64 0, .string s] w (FPost (tokL s.data.toList) w) := by
  rw [fst_sign h0 hc hd hl (by rw [toNat_39]; simpa using h39) (by rw [show (bt s 0 == 35) = (bt s 0 == UInt8.ofNat 35) from rfl, toNat_eq _ 35 (by decide)]; simpa using h35)]
  generalize hf : signL s.data.toList = f
  have HF := Lib.hid hf
  have hsm : s.size ≤ maxLen := by unfold maxLen; omega
  have hb0 := bt_eq s 0 h0
  have hlb := UInt8.toNat_lt (bt s 0)
  have hB := fun w1 => refBeg_0 s w1
  rw [beg_bt s h0, hc] at hB
  have HB := Lib.hid hB
  obtain ⟨nl1, nl2⟩ := notLet hl
  have nd : decide ((48 : Int) ≤ ((bt s 0).toNat : Int)) = false ∨ (decide ((48 : Int) ≤ ((bt s 0).toNat : Int)) = true ∧ decide (((bt s 0).toNat : Int) ≤ 57) = false) := by
    rcases isDig_not _ hd with h | h
    · exact .inl (by simp; omega)
    · exact .inr ⟨by simp; omega, by simp; omega⟩
  have e1 : (((bt s 0).toNat : Int) == 39) = false := by simp; omega
  have e2 : (((bt s 0).toNat : Int) == 35) = false := by simp; omega
  clear hf hB hc hl hd h39 h35
  have ways : ((decide ((97 : Int) ≤ ((bt s 0).toNat : Int)) = false ∧ decide ((65 : Int) ≤ ((bt s 0).toNat : Int)) = false) ∧ (decide ((48 : Int) ≤ ((bt s 0).toNat : Int)) = false ∨ (decide ((48 : Int) ≤ ((bt s 0).toNat : Int)) = true ∧ decide (((bt s 0).toNat : Int) ≤ 57) = false))) ∨
      ((decide ((48 : Int) ≤ ((bt s 0).toNat : Int)) = true ∧ decide (((bt s 0).toNat : Int) ≤ 57) = false ∧ decide ((65 : Int) ≤ ((bt s 0).toNat : Int)) = true ∧ decide (((bt s 0).toNat : Int) ≤ 90) = false) ∧ (decide ((97 : Int) ≤ ((bt s 0).toNat : Int)) = false ∨ (decide ((97 : Int) ≤ ((bt s 0).toNat : Int)) = true ∧ decide (((bt s 0).toNat : Int) ≤ 122) = false))) := by
    rcases nl2 with d3 | ⟨d3, d4⟩
    · left
      refine ⟨⟨?_, d3⟩, nd⟩
      simp at d3 ⊢
      omega
    · right
      refine ⟨⟨?_, ?_, d3, d4⟩, nl1⟩
      · simp at d3 d4 ⊢
        omega
      · simp at d3 d4 ⊢
        omega
  clear nl1 nl2 nd
  rcases ways with ⟨⟨d1, d3⟩, d5 | ⟨d5, d6⟩⟩ | ⟨⟨d5, d6, d3, d4⟩, d1 | ⟨d1, d2⟩⟩
  all_goals
    go_enter Tryz.func37, Tryz.ntmps37
    go_wp2_with fail
    refine (HB.out _).mono ?_
    have Z := Lib.hid (FndZ.new w)
    have B := Lib.hid (show Below w.heap.size w (w.alloc (.cells #[.int .i64 0, .string ⟨#[]⟩, .int .i64 0, .bool false, .int .i64 0, .int .i64 0, .int .i64 0, .int .i64 0, .int .i64 0] 74)) from (Below.refl _ _).alloc (Nat.le_refl _) _)
    generalize w.alloc (.cells #[.int .i64 0, .string ⟨#[]⟩, .int .i64 0, .bool false, .int .i64 0, .int .i64 0, .int .i64 0, .int .i64 0, .int .i64 0] 74) = w0 at Z B
    rintro e w1 ⟨rfl, rfl⟩
    go_wp2_with fail
    refine (refSigns _).mono ?_
    rintro e w2 ⟨rfl, hw2⟩
    have ST := Lib.hid (show IsStrs w2 (some ⟨w0.heap.size, 0, none⟩) 18 18 signsA by rw [hw2]; exact lit_strs _ signsA (by decide) (by decide))
    have Z2 := Lib.hid (show FndZ w2 w.heap.size by rw [hw2]; exact Z.out.below ((Below.refl _ _).alloc (Nat.le_refl _) _))
    have B2 := Lib.hid (show Below w.heap.size w w2 by rw [hw2]; exact B.out.alloc B.out.size _)
    clear hw2 Z B
    go_wp2_with fail
    go_loopw [13] (fun i wr => ∃ j : Nat, j ≤ 18 ∧ i = .int .i64 j ∧ (∀ i, i < j → ∀ x, signs[i]? = some x → Lib.hasPrefix s.data.toList x = false) ∧ ∃ m, wr = w2.drewN m) (fun i _ => 18 - (intOf i).toNat)
    case atStart => exact ⟨0, by omega, rfl, fun i h => by omega, 0, rfl⟩
    case round =>
      obtain ⟨j, hj, rfl, hno, m, rfl⟩ := hrel
      have NO := Lib.hid hno
      clear hno
      by_cases hlt : j < 18
      · obtain ⟨g, hg, hgA, hg2⟩ := signsA_at j hlt
        obtain ⟨b, o, x, hbo, hx, hxs, hcell⟩ := ST.out.at hlt
        cases hbo
        obtain rfl : x = ⟨g.toArray⟩ := Option.some.inj (hx.symm.trans hgA)
        rw [Nat.zero_add] at hcell
        have HG := Lib.hid hg
        have hgl := ba_len g
        have hpx := hp_ext s g
        have hg1 := (signs_len g (List.mem_of_getElem? hg)).1
        have FN := Lib.hid (fun hp => find_take s.data.toList hg NO.out hp)
        rw [← hgl] at hpx
        clear hg hgA hx
        cases hp : Lib.hasPrefix s.data.toList g with
        | true =>
          have hpl := hp_len hp
          rw [len_size, ← hgl] at hpl
          have F := FN.out hp
          rw [hp] at hpx
          obtain rfl : f = ⟨5, g, 0, g.length, 0⟩ := by rw [← HF.out]; exact F
          have HGL := Lib.hid hgl
          generalize hG : (ByteArray.mk g.toArray) = G at *
          have HGG := Lib.hid hG
          have z1 : decide ((G.size : Int) ≤ (s.size : Int)) = true := by simp; omega
          have z2 : decide (G.size ≤ s.size) = true := by simp; omega
          have z3 : (G.size : Int) ≤ (s.size : Int) := by omega
          have hpx2 := hpx.symm
          obtain ⟨f0, f1, f2, f3, f4, f5, f6, f7, f8, gf⟩ := Z2.out.facts
          clear F hp hgl hG hpx FN
          go_wp2_with fail
          go_quiet (fail)
          go_wp2_with fail
          go_region
          go_wp2_with fail
          exact bodyPost_ret (v := .agg #[.int .i64 5, .string G, .int .i64 0, .bool false, .int .i64 0, .int .i64 0, .int .i64 0, .int .i64 (G.size : Nat), .int .i64 0]) (by simp [results, Tryz.results37, go_sem, f0, f1, f2, f3, f4, f5, f6, f7, f8]) rfl ⟨_, rfl, ⟨5, 0, G.size, G, rfl, fun _ => ⟨rfl, HGG.out.symm, rfl, by rw [HGL.out]⟩⟩, set9_below (Nat.le_refl _) (below_drewN B2.out _) _ _ _ _ _ _ _ _ _⟩
        | false =>
          rw [hp] at hpx
          have NO2 := Lib.hid (show ∀ i, i < j + 1 → ∀ x, signs[i]? = some x → Lib.hasPrefix s.data.toList x = false by
            intro i hi x hx
            rcases Nat.lt_or_ge i j with h | h
            · exact NO.out i h x hx
            · obtain rfl : i = j := by omega
              obtain rfl : g = x := Option.some.inj (HG.out.symm.trans hx)
              exact hp)
          generalize hG : (ByteArray.mk g.toArray) = G at *
          have hpx2 := hpx.symm
          clear hp hG hpx FN hgl
          by_cases hz : G.size ≤ s.size
          · have z1 : decide ((G.size : Int) ≤ (s.size : Int)) = true := by simp; omega
            have z2 : decide (G.size ≤ s.size) = true := by simp; omega
            have z3 : (G.size : Int) ≤ (s.size : Int) := by omega
            go_wp2_with fail
            go_quiet (fail)
            go_wp2_with fail
            go_roundw
            case rel => exact ⟨j + 1, by omega, by go_num, NO2.out, _, rfl⟩
            case measure => simp [intOf]; omega
          · have z1 : decide ((G.size : Int) ≤ (s.size : Int)) = false := by simp; omega
            have z2 : decide (G.size ≤ s.size) = false := by simp; omega
            go_wp2_with fail
            go_quiet (fail)
            go_wp2_with fail
            go_roundw
            case rel => exact ⟨j + 1, by omega, by go_num, NO2.out, _, rfl⟩
            case measure => simp [intOf]; omega
      · obtain rfl : j = 18 := by omega
        obtain rfl : f = bad 5 := by rw [← HF.out]; exact find_none _ NO.out
        obtain ⟨f0, f1, f2, f3, f4, f5, f6, f7, f8, gf⟩ := Z2.out.facts
        go_wp2_with fail
        exact bodyPost_ret (v := .agg #[.int .i64 0, .string ⟨#[]⟩, .int .i64 0, .bool false, .int .i64 0, .int .i64 0, .int .i64 0, .int .i64 0, .int .i64 5]) (by simp [results, Tryz.results37, go_sem, f0, f1, f2, f3, f4, f5, f6, f7, f8]) rfl ⟨_, rfl, fv_bad 5, set9_below (Nat.le_refl _) (below_drewN B2.out m) _ _ _ _ _ _ _ _ _⟩
theorem first_any (s : ByteArray) (w : World) (hs : s.size ≤ 100000) (h0 : 0 < s.size) : Calls Tryz.prog 37 #[.int .i64 0, .string s] w (FPost (tokL s.data.toList) w) := by
  cases hl : isLet (bt s 0) with
  | true => exact first_some s w hs h0 (.inl hl)
  | false =>
    cases hc : bt s 0 == 123 with
    | true => exact first_some s w hs h0 (.inr (.inl hc))
    | false =>
      cases hd : isDig (bt s 0) with
      | true => exact first_some s w hs h0 (.inr (.inr (.inl hd)))
      | false =>
        by_cases h39 : (bt s 0).toNat = 39
        · exact first_some s w hs h0 (.inr (.inr (.inr (.inl h39))))
        · by_cases h35 : (bt s 0).toNat = 35
          · exact first_some s w hs h0 (.inr (.inr (.inr (.inr h35))))
          · exact first_sign s w hs h0 hc hl hd h39 h35
end Go.Proofs.YtpcldpnaljheoaaGreatDoor.X.P
end
section
namespace Go.Proofs.YtpcldpnaljheoaaGreatDoor.X.P
open Go.RowKit Go.Sort

/-- v is a list of tokens that can be read. -/
def IsToks (w : World) (v : Value) (ts : List Tk) : Prop := ∃ a cap, v = .slice a ts.length cap ∧ ts.length ≤ cap ∧ cap ≤ maxLen ∧ (ts ≠ [] → ∃ g, a = some ⟨g, 0, none⟩ ∧ g < w.heap.size ∧ ∀ i t, ts[i]? = some t → ∀ j u, (tkCells t)[j]? = some u → w.cell? ⟨g, i * 7 + j, none⟩ = some u)
theorem OwnT.toks {base : Nat} {w : World} {v : Value} {ts : List Tk} (h : OwnT base w v ts) : IsToks w v ts := by
  obtain ⟨a, cap, h1, h2, h3, h4⟩ := h.any
  exact ⟨a, cap, h1, h2, h3, fun hn => by obtain ⟨g, g1, _, g3, g4⟩ := h4 hn; exact ⟨g, g1, g3, g4⟩⟩
theorem IsToks.below {w w' : World} {v : Value} {ts : List Tk} (h : IsToks w v ts) (hb : Below w.heap.size w w') : IsToks w' v ts := by
  obtain ⟨a, cap, h1, h2, h3, h4⟩ := h
  exact ⟨a, cap, h1, h2, h3, fun hn => by obtain ⟨g, g1, g3, g4⟩ := h4 hn; exact ⟨g, g1, Nat.lt_of_lt_of_le g3 hb.size, fun i t ht j u hj => (hb.cell (p := ⟨g, i * 7 + j, none⟩) g3).trans (g4 i t ht j u hj)⟩⟩
/-- The seven cells of one token. -/
theorem IsToks.at {w : World} {a : Option Addr} {n cap : Nat} {ts : List Tk} (h : IsToks w (.slice a n cap) ts) {k : Nat} (hk : k < n) :
    ∃ g t, a = some ⟨g, 0, none⟩ ∧ g < w.heap.size ∧ ts[k]? = some t ∧ w.cell? ⟨g, k * 7, none⟩ = some (.int .i64 (t.kind : Nat)) ∧ w.cell? ⟨g, k * 7 + 1, none⟩ = some (.string ⟨t.text.toArray⟩) ∧ w.cell? ⟨g, k * 7 + 2, none⟩ = some (.int .i64 (t.n : Nat)) ∧ w.cell? ⟨g, k * 7 + 3, none⟩ = some (.bool t.same) ∧ w.cell? ⟨g, k * 7 + 4, none⟩ = some (.int .i64 (t.pos : Nat)) ∧ w.cell? ⟨g, k * 7 + 5, none⟩ = some (.int .i64 (t.line : Nat)) ∧ w.cell? ⟨g, k * 7 + 6, none⟩ = some (.int .i64 (t.col : Nat)) := by
  obtain ⟨a', cap', h1, h2, h3, h4⟩ := h
  cases h1
  obtain ⟨t, ht⟩ : ∃ t, ts[k]? = some t := ⟨ts[k], List.getElem?_eq_getElem hk⟩
  obtain ⟨g, rfl, g3, g4⟩ := h4 (fun e => by rw [e] at ht; simp at ht)
  exact ⟨g, t, rfl, g3, ht, g4 k t ht 0 _ rfl, g4 k t ht 1 _ rfl, g4 k t ht 2 _ rfl, g4 k t ht 3 _ rfl, g4 k t ht 4 _ rfl, g4 k t ht 5 _ rfl, g4 k t ht 6 _ rfl⟩
theorem wp_appQ {ops : Array Oper} {rest : List Oper} {o : Oper} {a : Act} {Q : Exit → Act → World → Prop} (hgd : o.guard = none) (sl x : Operand)
    (ho : o.op = .call { callee := .builtin .append, args := #[sl, x], argTypes := #[45, 45] })
    {base q : Nat} {w : World} {v : Value} {ts : List Tk} (t : Tk) (cs : Array Value) (hcs : cs.toList = tkCells t) (h : OwnT base w v ts) (hbase : base ≤ w.heap.size) (hs : a.eval sl = v) (hx : a.eval x = .slice (some ⟨q, 0, none⟩) 1 1) (hq : q = w.heap.size) (hb : ts.length ≤ 100000)
    (hk : ∀ v' w', OwnT base w' v' (ts ++ [t]) → (w.alloc (.cells cs 50)).grownBy w' v.ownBlock → wpList Tryz.prog ops Q rest (a.put o.dst v') w') :
    wpList Tryz.prog ops Q (o :: rest) a (w.alloc (.cells cs 50)) := wp_appT hgd sl x ho t cs hcs h hbase hs (by rw [← hq]; exact hx) hb hk
end Go.Proofs.YtpcldpnaljheoaaGreatDoor.X.P
end
section
namespace Go.Proofs.YtpcldpnaljheoaaGreatDoor.X.P
open Go.RowKit Go.Sort

theorem below_drew {B : Nat} {a w : World} (h : Below B a w) : Below B a w.drew := ⟨h.os, h.tape, h.output, h.size, h.block⟩
theorem AS.setC {w wr : World} {k : Nat} {s : ByteArray} {v : Value} {acc : List Tk} {q o : Nat} {u : Value} (h : AS w s k v acc wr) (hq : w.heap.size + 2 ≤ q) (hn : v.ownBlock ≠ some q) : AS w s k v acc (wr.setCell ⟨q, o, none⟩ u) := by
  have ne : ∀ b, b ≠ q → (wr.setCell ⟨q, o, none⟩ u).heap[b]? = wr.heap[b]? := fun b hb => Below.heap_setCell _ _ _ _ (by simp; omega)
  exact ⟨⟨(ne _ (by omega)).trans h.pos.blk⟩, h.own.kept fun b hb => ne b (fun e => hn (e ▸ hb)), (ne _ (by omega)).trans h.dz, h.bel.setCell (by simp; omega) _⟩
theorem AS.mkk {w wr : World} {s : ByteArray} {k : Nat} {v : Value} {acc : List Tk} (h : AS w s k v acc wr) : AS w s k v acc wr := h
/-- What All leaves. -/
def ToksB (s : ByteArray) (r : Res) (w : World) (e : Ending) (w' : World) : Prop := ∃ v, e = .returned (.tuple #[v, diagV s r]) ∧ OwnT w.heap.size w' v r.toks ∧ Below w.heap.size w w'
set_option maxHeartbeats 1000000 in
theorem refAll_long (s : ByteArray) (w : World) (hl : 65536 < s.size) : Calls Tryz.prog 17 #[.int .i64 0, .string s] w (ToksB s ⟨3, 0, []⟩ w) := by
  have d : decide ((65536 : Int) < (s.size : Int)) = true := by simp; omega
  go_enter Tryz.func17, Tryz.ntmps17
  go_wp2_with fail
  exact bodyPost_ret (v := .tuple #[.slice none 0 0, diagV s ⟨3, 0, []⟩]) (by simp [results, Tryz.results17, go_sem, diagV, line_zero, col_zero]) rfl ⟨_, rfl, OwnT.nil _ _, (Below.refl _ _).alloc (Nat.le_refl _) _⟩
set_option maxRecDepth 100000 in
set_option maxHeartbeats 8000000 in
theorem refAll_any2 (s : ByteArray) (w : World) (hl : s.size ≤ 65536) : Calls Tryz.prog 17 #[.int .i64 0, .string s] w (ToksB s (lexN s (s.size + 1) 0 (-1) []) w) := by
  have hsm : s.size ≤ maxLen := by unfold maxLen; omega
  have d : decide ((65536 : Int) < (s.size : Int)) = false := by simp; omega
  have ST := Lib.hid (show AS w s 0 (.slice none 0 0) [] ((w.alloc (.cells #[.int .i64 0, .int .i64 0, .int .i64 0, .int .i64 0] 30)).alloc (.cells #[.int .i64 0, .int .i64 0, .int .i64 0] 28)) by
    have hz : (w.alloc (.cells #[.int .i64 0, .int .i64 0, .int .i64 0, .int .i64 0] 30)).heap.size = w.heap.size + 1 := by simp
    refine ⟨⟨?_⟩, OwnT.nil _ _, ?_, ((Below.refl _ _).alloc (Nat.le_refl _) _).alloc (by simp) _⟩
    · rw [← hz, heap_new, line_zero, col_zero]; rfl
    · rw [((Below.refl _ (w.alloc (.cells #[.int .i64 0, .int .i64 0, .int .i64 0, .int .i64 0] 30))).alloc (Nat.le_refl _) _).block w.heap.size (by simp), heap_new])
  generalize hR : lexN s (s.size + 1) 0 (-1) [] = R
  have HR := Lib.hid hR
  clear hR
  go_enter Tryz.func17, Tryz.ntmps17
  go_wp2_with fail
  generalize (w.alloc (.cells #[.int .i64 0, .int .i64 0, .int .i64 0, .int .i64 0] 30)).alloc (.cells #[.int .i64 0, .int .i64 0, .int .i64 0] 28) = w0 at ST ⊢
  clear d
  go_loopw [6, 8] (fun v l wr => ∃ (k m : Nat) (last : Int) (acc : List Tk), l = .int .i64 last ∧ AS w s k v acc wr ∧ s.size - k < m ∧ lexN s m k last acc = R ∧ acc.length ≤ k ∧ k ≤ s.size) (fun _ _ wr => leftP s (w.heap.size + 1) wr)
  case atStart => exact ⟨0, s.size + 1, -1, [], rfl, ST.out, by omega, HR.out, by simp, Nat.zero_le _⟩
  case round =>
    obtain ⟨k, m, last, acc, rfl, hst, hm, hlx, hal, hk⟩ := hrel
    have S := Lib.hid hst
    have LX := Lib.hid hlx
    clear hst hlx ST HR
    obtain ⟨m, rfl⟩ : ∃ m', m = m' + 1 := ⟨m - 1, by omega⟩
    obtain ⟨wo, hwo⟩ : ∃ wo, wo = wr := ⟨_, rfl⟩
    subst hwo
    go_wp2_with fail
    go_loopw [] (fun wj => ∃ j, k ≤ j ∧ j ≤ s.size ∧ blEnd s k = blEnd s j ∧ AS w s j u6 acc wj) (fun wj => leftP s (w.heap.size + 1) wj)
    case atStart => exact ⟨k, Nat.le_refl _, hk, rfl, S.out⟩
    case round =>
      obtain ⟨j, hkj, hj, hbe, hsj⟩ := hrel
      have SJ := Lib.hid hsj
      have BE := Lib.hid hbe
      clear hsj hbe
      by_cases hlt : j < s.size
      · have hbt := bt_eq s j hlt
        have hH := fun w1 => has_any setR (bt s j).toNat w1 (by decide)
        rw [setR_is] at hH
        cases hbl : isBl (bt s j) with
        | true =>
          rw [hbl] at hH
          have HH := Lib.hid hH
          have BE2 := Lib.hid (BE.out.trans (blEnd_in s j hlt hbl))
          have p00 := SJ.out.pos.c0
          clear hH hbl
          go_wp2_with fail
          refine (HH.out _).mono ?_
          rintro e w3 ⟨rfl, rfl⟩
          clear p00
          have p0 := SJ.out.pos.c0
          have p1 := SJ.out.pos.c1
          have p2 := SJ.out.pos.c2
          have pf := SJ.out.pos.fz
          have hlt7 := SJ.out.pos.lt
          go_wp2_with fail
          go_still_tail 5, (by kernel_rfl)
          have SD := Lib.hid SJ.out.drew
          clear p0 p1 p2 pf
          go_wp2_with fail
          refine (step_any s j _ hlt hsm).mono ?_
          rintro e wz ⟨rfl, bz⟩
          have SZ := Lib.hid (SD.out.below bz)
          have p0 := SZ.out.pos.c0
          have p1 := SZ.out.pos.c1
          have p2 := SZ.out.pos.c2
          have pf := SZ.out.pos.fz
          clear bz SD
          go_wp2_with fail
          go_roundw
          case rel => exact ⟨j + 1, by omega, by omega, BE2.out, SZ.out.move (j + 1)⟩
          case measure => have h := leftP_at (SZ.out.move (j + 1)).pos; rw [show ((j + 1 : Nat) : Int) = (j : Int) + 1 from rfl] at h; rw [h, leftP_at SJ.out.pos]; omega
        | false =>
          rw [hbl] at hH
          have HH := Lib.hid hH
          have HJ := Lib.hid (BE.out.trans (blEnd_out s j (fun h => by rw [hbl] at h; exact absurd h.2 (by decide))))
          clear hH hbl
          have p00 := SJ.out.pos.c0
          have p01 := SJ.out.pos.c1
          have p02 := SJ.out.pos.c2
          have hp7 := SJ.out.pos.lt
          have hilt : (j : Int) ≤ (s.size : Int) := by omega
          have hF := fun w1 => first_any (restOf s j) w1 (by rw [restOf_size]; omega) (by rw [restOf_size]; omega)
          rw [restOf_l, ← ext_rest] at hF
          generalize hf : fdAt s j = f
          have hfu := fd_use s j hlt
          have hf2 : tokL (s.data.toList.drop j) = f := hf
          rw [hf2] at hF
          rw [hf] at hfu
          have HFst := Lib.hid hF
          have HF := Lib.hid (show fdAt s (blEnd s k) = f by rw [HJ.out]; exact hf)
          have HFU := Lib.hid hfu
          clear hf hf2 hF hfu
          go_wp2_with fail
          refine (HH.out _).mono ?_
          rintro e w3 ⟨rfl, rfl⟩
          go_wp2_with fail
          have Z9 := Lib.hid (TokZ.new w3)
          have S9 := Lib.hid (SJ.out.below ((Below.refl _ _).alloc (Nat.le_refl _) (.cells #[.int .i64 0, .string ⟨#[]⟩, .int .i64 0, .bool false, .int .i64 0, .int .i64 0, .int .i64 0] 50)))
          have h9n : w.heap.size + 2 ≤ w3.heap.size := by have := SJ.out.pos.lt; omega
          have HNE := Lib.hid (show u6.ownBlock ≠ some w3.heap.size from fun e => by have := (SJ.out.own.lt _ e).2; omega)
          clear p00 p01 p02
          generalize hq : w3.alloc (.cells #[.int .i64 0, .string ⟨#[]⟩, .int .i64 0, .bool false, .int .i64 0, .int .i64 0, .int .i64 0] 50) = w4 at Z9 S9 ⊢
          clear hq
          refine (HFst.out _).mono ?_
          rintro e w5 ⟨v5, rfl, hfv, b5⟩
          obtain ⟨fk, fn, fu, ft, rfl, hfo⟩ := hfv
          have Z5 := Lib.hid (Z9.out.below b5)
          have S5 := Lib.hid (S9.out.below b5)
          have HFO := Lib.hid hfo
          clear b5 hfo Z9 S9
          have S6 := Lib.hid (S5.out.below ((Below.refl _ _).alloc (Nat.le_refl _) (.cells #[.int .i64 fk, .string ft, .int .i64 fn, .bool false, .int .i64 0, .int .i64 0, .int .i64 0, .int .i64 fu, .int .i64 (f.err : Nat)] 74)))
          have p00 := S5.out.pos.c0
          have p01 := S5.out.pos.c1
          have p02 := S5.out.pos.c2
          have hp7 := S5.out.pos.lt
          obtain ⟨g0, g1, g2, g3, g4, g5, g6, gf⟩ := Z5.out.facts
          have hz5 := Z5.out.lt
          by_cases he : f.err = 0
          · obtain ⟨rfl, rfl, rfl, rfl⟩ := HFO.out he
            have d1 : ((f.err : Int) != 0) = false := by rw [he]; rfl
            have hu := HFU.out he
            have hkd : f.kind ≠ 0 := by omega
            generalize hsm2 : decide ((lineOf s j : Int) = last) = sm
            have d2 : (last == (lineOf s j : Int)) = sm := by rw [← hsm2, Bool.beq_eq_decide_eq, decide_eq_decide]; exact ⟨fun h => h.symm, fun h => h.symm⟩
            have d3 : ((f.kind : Int) == 0) = false := by simp; omega
            have HLX := Lib.hid (show lexN s m (j + f.used) (lineOf s (j + f.used)) (acc ++ [(⟨f.kind, f.text, f.n, sm, j, lineOf s j, colOf s j⟩ : Tk)]) = R by rw [← LX.out, lexN_tok HF.out he hkd, HJ.out, ← hsm2]; rfl)
            have hal2 : acc.length ≤ 100000 := by omega
            clear hsm2 HFO HFst
            go_wp2_with fail
            go_region
            obtain ⟨W6, hW6⟩ : ∃ W6, W6 = ((((((((w5.setCell ⟨w3.heap.size, 0, none⟩ (.int .i64 (f.kind : Nat))).setCell ⟨w3.heap.size, 1, none⟩ (.string ⟨f.text.toArray⟩)).setCell ⟨w3.heap.size, 2, none⟩ (.int .i64 (f.n : Nat))).setCell ⟨w3.heap.size, 3, none⟩ (.bool false)).setCell ⟨w3.heap.size, 4, none⟩ (.int .i64 0)).setCell ⟨w3.heap.size, 5, none⟩ (.int .i64 0)).setCell ⟨w3.heap.size, 6, none⟩ (.int .i64 0)).alloc (.cells #[.int .i64 (f.kind : Nat), .string ⟨f.text.toArray⟩, .int .i64 (f.n : Nat), .bool false, .int .i64 0, .int .i64 0, .int .i64 0, .int .i64 (f.used : Nat), .int .i64 0] 74)).drew := ⟨_, rfl⟩
            have SW := Lib.hid (show AS w s j u6 acc W6 by rw [hW6]; exact AS.drew (AS.below (((((((S5.out.setC h9n HNE.out).setC h9n HNE.out).setC h9n HNE.out).setC h9n HNE.out).setC h9n HNE.out).setC h9n HNE.out).setC h9n HNE.out) ((Below.refl _ _).alloc (Nat.le_refl _) _)))
            have BW := Lib.hid (show W6.heap[w3.heap.size]? = some (.cells #[.int .i64 (f.kind : Nat), .string ⟨f.text.toArray⟩, .int .i64 (f.n : Nat), .bool false, .int .i64 0, .int .i64 0, .int .i64 0] 50) by
              rw [hW6]
              show ((((((((w5.setCell ⟨w3.heap.size, 0, none⟩ (.int .i64 (f.kind : Nat))).setCell ⟨w3.heap.size, 1, none⟩ (.string ⟨f.text.toArray⟩)).setCell ⟨w3.heap.size, 2, none⟩ (.int .i64 (f.n : Nat))).setCell ⟨w3.heap.size, 3, none⟩ (.bool false)).setCell ⟨w3.heap.size, 4, none⟩ (.int .i64 0)).setCell ⟨w3.heap.size, 5, none⟩ (.int .i64 0)).setCell ⟨w3.heap.size, 6, none⟩ (.int .i64 0)).alloc (.cells #[.int .i64 (f.kind : Nat), .string ⟨f.text.toArray⟩, .int .i64 (f.n : Nat), .bool false, .int .i64 0, .int .i64 0, .int .i64 0, .int .i64 (f.used : Nat), .int .i64 0] 74)).heap[w3.heap.size]? = _
              rw [((Below.refl _ (((((((w5.setCell ⟨w3.heap.size, 0, none⟩ (.int .i64 (f.kind : Nat))).setCell ⟨w3.heap.size, 1, none⟩ (.string ⟨f.text.toArray⟩)).setCell ⟨w3.heap.size, 2, none⟩ (.int .i64 (f.n : Nat))).setCell ⟨w3.heap.size, 3, none⟩ (.bool false)).setCell ⟨w3.heap.size, 4, none⟩ (.int .i64 0)).setCell ⟨w3.heap.size, 5, none⟩ (.int .i64 0)).setCell ⟨w3.heap.size, 6, none⟩ (.int .i64 0))).alloc (Nat.le_refl _) _).block w3.heap.size (by simp [World.setCell]; omega), (heap_set (heap_set (heap_set (heap_set (heap_set (heap_set (heap_set Z5.out.blk _) _) _) _) _) _) _)]
              simp)
            rw [← hW6]
            clear hW6 p00 p01 p02 g0 g1 g2 g3 g4 g5 g6 gf hp7
            have p00 := SW.out.pos.c0
            have p01 := SW.out.pos.c1
            have p02 := SW.out.pos.c2
            have hp7 := SW.out.pos.lt
            have hb6 := BW.out
            have g0 : W6.cell? ⟨w3.heap.size, 0, none⟩ = some (.int .i64 (f.kind : Nat)) := by simp [World.cell?, hb6]
            have g1 : W6.cell? ⟨w3.heap.size, 1, none⟩ = some (.string ⟨f.text.toArray⟩) := by simp [World.cell?, hb6]
            have g2 : W6.cell? ⟨w3.heap.size, 2, none⟩ = some (.int .i64 (f.n : Nat)) := by simp [World.cell?, hb6]
            have g3 : W6.cell? ⟨w3.heap.size, 3, none⟩ = some (.bool false) := by simp [World.cell?, hb6]
            have g4 : W6.cell? ⟨w3.heap.size, 4, none⟩ = some (.int .i64 0) := by simp [World.cell?, hb6]
            have g5 : W6.cell? ⟨w3.heap.size, 5, none⟩ = some (.int .i64 0) := by simp [World.cell?, hb6]
            have g6 : W6.cell? ⟨w3.heap.size, 6, none⟩ = some (.int .i64 0) := by simp [World.cell?, hb6]
            have gf : ∀ o, W6.frozen? ⟨w3.heap.size, o, none⟩ = false := fun o => by simp [World.frozen?, hb6]
            have h9w : w3.heap.size < W6.heap.size := heap_lt hb6
            have S8 := Lib.hid (show AS w s j u6 acc ((((W6.setCell ⟨w3.heap.size, 4, none⟩ (.int .i64 (j : Nat))).setCell ⟨w3.heap.size, 5, none⟩ (.int .i64 (lineOf s j : Nat))).setCell ⟨w3.heap.size, 6, none⟩ (.int .i64 (colOf s j : Nat))).setCell ⟨w3.heap.size, 3, none⟩ (.bool sm)) from ((((SW.out.setC h9n HNE.out).setC h9n HNE.out).setC h9n HNE.out).setC h9n HNE.out))
            have HB8 := Lib.hid (show ((((W6.setCell ⟨w3.heap.size, 4, none⟩ (.int .i64 (j : Nat))).setCell ⟨w3.heap.size, 5, none⟩ (.int .i64 (lineOf s j : Nat))).setCell ⟨w3.heap.size, 6, none⟩ (.int .i64 (colOf s j : Nat))).setCell ⟨w3.heap.size, 3, none⟩ (.bool sm)).heap[w3.heap.size]? = some (.cells #[.int .i64 (f.kind : Nat), .string ⟨f.text.toArray⟩, .int .i64 (f.n : Nat), .bool sm, .int .i64 (j : Nat), .int .i64 (lineOf s j : Nat), .int .i64 (colOf s j : Nat)] 50) by rw [(heap_set (heap_set (heap_set (heap_set BW.out _) _) _) _)]; simp)
            have hbw : w.heap.size + 2 ≤ ((((W6.setCell ⟨w3.heap.size, 4, none⟩ (.int .i64 (j : Nat))).setCell ⟨w3.heap.size, 5, none⟩ (.int .i64 (lineOf s j : Nat))).setCell ⟨w3.heap.size, 6, none⟩ (.int .i64 (colOf s j : Nat))).setCell ⟨w3.heap.size, 3, none⟩ (.bool sm)).heap.size := by have := SW.out.pos.lt; simp [World.setCell]; omega
            have h9w8 : w3.heap.size < ((((W6.setCell ⟨w3.heap.size, 4, none⟩ (.int .i64 (j : Nat))).setCell ⟨w3.heap.size, 5, none⟩ (.int .i64 (lineOf s j : Nat))).setCell ⟨w3.heap.size, 6, none⟩ (.int .i64 (colOf s j : Nat))).setCell ⟨w3.heap.size, 3, none⟩ (.bool sm)).heap.size := heap_lt HB8.out
            clear hb6 Z5 S5 S6
            have tok1 : True := trivial
            go_wp2_with (have _t := tok1; at_builtin; (refine wp_appQ rfl (.tmp 66) (.tmp 68) rfl (⟨f.kind, f.text, f.n, sm, j, lineOf s j, colOf s j⟩ : Tk) #[.int .i64 (f.kind : Nat), .string ⟨f.text.toArray⟩, .int .i64 (f.n : Nat), .bool sm, .int .i64 (j : Nat), .int .i64 (lineOf s j : Nat), .int .i64 (colOf s j : Nat)] rfl S8.out.own hbw rfl rfl (by simp [World.setCell]) hal2 ?_; intro v7 w7 o7 g7); have S7 := Lib.hid (AS.app (AS.below S8.out ((Below.refl _ _).alloc (Nat.le_refl _) _)) g7 o7); have hb9 : w7.heap[w3.heap.size]? = some (.cells #[.int .i64 (f.kind : Nat), .string ⟨f.text.toArray⟩, .int .i64 (f.n : Nat), .bool sm, .int .i64 (j : Nat), .int .i64 (lineOf s j : Nat), .int .i64 (colOf s j : Nat)] 50) := (g7.block w3.heap.size (by have := h9w8; simp only [World.size_alloc]; omega) (fun e => HNE.out e.symm)).trans ((((Below.refl _ _).alloc (Nat.le_refl _) _).block w3.heap.size h9w8).trans HB8.out); have y7 : w7.cell? ⟨w3.heap.size, 0, none⟩ = some (.int .i64 (f.kind : Nat)) := (by simp [World.cell?, hb9]); clear o7 g7 tok1 hb9)
            have hjus : j + f.used ≤ s.size := hu.2.1
            have hus1 : 1 ≤ f.used := hu.1
            clear hu
            go_loopw [12] (fun x wi => ∃ i q : Nat, i ≤ f.used ∧ q = j + i ∧ x = .int .i64 i ∧ AS w s q v7 (acc ++ [(⟨f.kind, f.text, f.n, sm, j, lineOf s j, colOf s j⟩ : Tk)]) wi) (fun x _ => f.used - (intOf x).toNat)
            case atStart => exact ⟨0, j, Nat.zero_le _, rfl, rfl, S7.out⟩
            case round =>
              obtain ⟨i, q, hi, hq, rfl, hsi⟩ := hrel
              have SI := Lib.hid hsi
              have HQ := Lib.hid hq
              clear hsi
              by_cases hlt3 : i < f.used
              · have hqs : q < s.size := by omega
                have hbq := bt_eq s q hqs
                clear hq
                have p0 := SI.out.pos.c0
                have p1 := SI.out.pos.c1
                have p2 := SI.out.pos.c2
                have pf := SI.out.pos.fz
                have hlt7 := SI.out.pos.lt
                go_wp2_with fail
                go_still_tail 5, (by kernel_rfl)
                have SD := Lib.hid SI.out.drew
                clear p0 p1 p2 pf
                go_wp2_with fail
                refine (step_any s q _ hqs hsm).mono ?_
                rintro e wz ⟨rfl, bz⟩
                have SZ := Lib.hid (SD.out.below bz)
                have p0 := SZ.out.pos.c0
                have p1 := SZ.out.pos.c1
                have p2 := SZ.out.pos.c2
                have pf := SZ.out.pos.fz
                clear bz SD
                go_wp2_with fail
                go_roundw
                case rel => exact ⟨i + 1, q + 1, by omega, by rw [HQ.out]; omega, by go_num, SZ.out.move (q + 1)⟩
                case measure => simp [intOf]; omega
              · have hie : i = f.used := by omega
                have HIE := Lib.hid hie
                have p0 := SI.out.pos.c0
                have p1 := SI.out.pos.c1
                have hp9 := SI.out.pos.lt
                have hqe : q = j + f.used := by omega
                have HQE := Lib.hid hqe
                have hlx2 := HLX.out
                rw [← hqe] at hlx2
                have HLX2 := Lib.hid hlx2
                have hb1 : s.size - q < m := by omega
                have hb2 : acc.length + 1 ≤ q := by omega
                have hb3 : q ≤ s.size := by omega
                have hb4 : k < q := by omega
                clear hq hie hqe hlx2
                go_wp2_with fail
                go_roundw
                case rel => exact ⟨q, m, lineOf s q, acc ++ [(⟨f.kind, f.text, f.n, sm, j, lineOf s j, colOf s j⟩ : Tk)], rfl, SI.out, hb1, HLX2.out, by simp; omega, hb3⟩
                case measure => rw [leftP_at SI.out.pos, leftP_at S.out.pos]; omega
          · have d1 : ((f.err : Int) != 0) = true := by simp; omega
            obtain rfl : R = ⟨f.err, j, []⟩ := by rw [← LX.out, lexN_err HF.out he, HJ.out]
            obtain ⟨z0, z1, z2, z3, zf⟩ := S5.out.dzf
            have hzl : w.heap.size < w5.heap.size := heap_lt S5.out.dz
            clear HFO HFst LX
            go_wp2_with fail
            go_region
            go_wp2_with fail
            exact bodyPost_ret (v := .tuple #[.slice none 0 0, diagV s ⟨f.err, j, []⟩]) (by simp [results, Tryz.results17, go_sem, diagV, z0, z1, z2, z3, hzl]) rfl ⟨_, rfl, OwnT.nil _ _, below_drew (((((S5.out.bel.setCell (Nat.le_refl _) _).setCell (Nat.le_refl _) _).setCell (Nat.le_refl _) _).setCell (Nat.le_refl _) _).alloc (by have := S5.out.bel.size; simp [World.setCell]; omega) _)⟩
      · obtain rfl : j = s.size := by omega
        have HJ := Lib.hid (BE.out.trans (blEnd_out s s.size (fun h => by omega)))
        generalize hjj : s.size = j at HJ SJ hkj hj
        have p00 := SJ.out.pos.c0
        have p01 := SJ.out.pos.c1
        have p02 := SJ.out.pos.c2
        have hp7 := SJ.out.pos.lt
        generalize hsm2 : decide ((lineOf s j : Int) = last) = sm
        have d2 : (last == (lineOf s j : Int)) = sm := by rw [← hsm2, Bool.beq_eq_decide_eq, decide_eq_decide]; exact ⟨fun h => h.symm, fun h => h.symm⟩
        obtain rfl : R = ⟨0, 0, acc ++ [(⟨0, [], 0, sm, j, lineOf s j, colOf s j⟩ : Tk)]⟩ := by
          have hf : fdAt s (blEnd s k) = bad 0 := by rw [HJ.out]; exact fd_end s j (by omega)
          rw [← LX.out, lexN_end hf rfl rfl, HJ.out, ← hsm2]; rfl
        have hal2 : acc.length ≤ 100000 := by omega
        have S9 := Lib.hid (SJ.out.below ((Below.refl _ _).alloc (Nat.le_refl _) (.cells #[.int .i64 0, .string ⟨#[]⟩, .int .i64 0, .bool sm, .int .i64 (j : Nat), .int .i64 (lineOf s j : Nat), .int .i64 (colOf s j : Nat)] 50)))
        have HNE := Lib.hid (show u6.ownBlock ≠ some wr.heap.size from fun e => by have := (SJ.out.own.lt _ e).2; omega)
        have hbw : w.heap.size + 2 ≤ (wr.alloc (.cells #[.int .i64 0, .string ⟨#[]⟩, .int .i64 0, .bool sm, .int .i64 (j : Nat), .int .i64 (lineOf s j : Nat), .int .i64 (colOf s j : Nat)] 50)).heap.size := by have := SJ.out.pos.lt; simp; omega
        have zz : decide ((j : Int) < (j : Int)) = false := by simp
        clear LX HJ hsm2
        have tok1 : True := trivial
        go_wp2_with (have _t := tok1; at_builtin; (refine wp_appQ rfl (.tmp 66) (.tmp 68) rfl (⟨0, [], 0, sm, j, lineOf s j, colOf s j⟩ : Tk) #[.int .i64 0, .string ⟨#[]⟩, .int .i64 0, .bool sm, .int .i64 (j : Nat), .int .i64 (lineOf s j : Nat), .int .i64 (colOf s j : Nat)] rfl (AS.own (w := w) (s := s) (k := j) S9.out) hbw rfl rfl (by simp) hal2 ?_; intro v7 w7 o7 g7); (have S7 := Lib.hid (AS.app (AS.below (AS.mkk S9.out) ((Below.refl _ _).alloc (Nat.le_refl _) _)) g7 o7)); obtain ⟨z0, z1, z2, z3, zf⟩ := S7.out.dzf; (have y7 : w7.cell? ⟨wr.heap.size, 0, none⟩ = some (.int .i64 0) := (by rw [cell_eq (g7.block wr.heap.size (by simp; omega) (fun e => HNE.out e.symm))]; simp [go_sem])); clear o7 g7 tok1)
        exact bodyPost_ret (v := .tuple #[v7, diagV s ⟨0, 0, acc ++ [(⟨0, [], 0, sm, j, lineOf s j, colOf s j⟩ : Tk)]⟩]) (by simp [results, Tryz.results17, go_sem, diagV, z0, z1, z2, z3, line_zero, col_zero]) rfl ⟨v7, rfl, (OwnT.kept S7.out.own fun b hb => by have hb1 := (S7.out.own.lt b hb).1; rw [Below.heap_setCell _ _ _ _ (by simp; omega), Below.heap_setCell _ _ _ _ (by simp; omega), Below.heap_setCell _ _ _ _ (by simp; omega), Below.heap_setCell _ _ _ _ (by simp; omega)]).mono (by omega), (((S7.out.bel.setCell (Nat.le_refl _) _).setCell (Nat.le_refl _) _).setCell (Nat.le_refl _) _).setCell (Nat.le_refl _) _⟩
end Go.Proofs.YtpcldpnaljheoaaGreatDoor.X.P
end
section
namespace Go.Proofs.YtpcldpnaljheoaaGreatDoor.X.P
open Go.RowKit Go.Sort

theorem refAll3 (s : ByteArray) (w : World) : Calls Tryz.prog 17 #[.int .i64 0, .string s] w (ToksB s (lexAll s) w) := by
  unfold lexAll
  split
  · rename_i hl; exact refAll_long s w hl
  · rename_i hl; exact refAll_any2 s w (by omega)
end Go.Proofs.YtpcldpnaljheoaaGreatDoor.X.P
end
