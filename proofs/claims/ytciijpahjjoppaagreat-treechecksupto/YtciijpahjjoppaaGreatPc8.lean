/-
  Texts of this proof, put together.
-/
import Derived.Test.YtciijpahjjoppaaGreatPc1
import Derived.Test.YtciijpahjjoppaaGreatPc2
import Derived.Laws.StructEq
import Derived.Shelf.SlicesE.Kit
import Derived.Test.YtciijpahjjoppaaGreatPc7
import Derived.Lib.QuietBelow
import Derived.Test.YtciijpahjjoppaaGreatPc3
import Derived.Test.YtciijpahjjoppaaGreatRows
import Derived.WalkKit
section
namespace Go.Proofs.YtciijpahjjoppaaGreat
open Go.RowKit Go.Deep

set_option maxRecDepth 100000 in
set_option maxHeartbeats 1000000 in
theorem equalE_any (w0 : World) (a a' : Option Addr) (len len' cap cap' : Nat) (l l' : List (List D)) (hA : At w0 (.slice a len cap) (.row l)) (hA' : At w0 (.slice a' len' cap') (.row l')) (hs : ∀ x ∈ l, ShE x) (hs' : ∀ x ∈ l', ShE x)
    (hf : EqFn w0 16 l l') (W : World) (hW : Below w0.heap.size w0 W) : Calls Tryz.prog 48 #[.slice a len cap, .slice a' len' cap', .func (.func 16) #[] #[]] W (EqPost l l' W) := by
  have HA := Lib.hid hA
  have HA' := Lib.hid hA'
  have HS := Lib.hid hs
  have HS' := Lib.hid hs'
  have HF := Lib.hid hf
  have HW := Lib.hid hW
  have hle := hA.len_le
  have hle' := hA'.len_le
  have HL := Lib.hid hA.len_eq.1
  have HL' := Lib.hid hA'.len_eq.1
  clear hA hA' hs hs' hf hW
  by_cases hn : len = len'
  · subst hn
    go_enter Tryz.func48, Tryz.ntmps48
    go_wp2_with fail
    go_loopw [17] (fun i wr => ∃ k : Nat, k ≤ len ∧ i = .int .i64 k ∧ l.take k = l'.take k ∧ Below W.heap.size W wr) (fun i _ => len - (intOf i).toNat)
    case atStart => exact ⟨0, Nat.zero_le _, rfl, rfl, Below.refl _ _⟩
    case round =>
      obtain ⟨k, hk, rfl, ht, hb⟩ := hrel
      have HT := Lib.hid ht
      have HB := Lib.hid hb
      clear ht hb
      by_cases hlt : k < len
      · obtain ⟨b, o, vs, ds, rfl, hbl, hx, hv, hc⟩ := HA.out.elem hlt
        obtain ⟨b', o', vs', ds', rfl, hbl', hx', hv', hc'⟩ := HA'.out.elem hlt
        have hfn := HF.out ds (List.mem_of_getElem? hx) ds' (List.mem_of_getElem? hx') vs vs' hv hv'
        obtain ⟨op, n, nm, fd, kl, kla, klc, hds, hvs, _⟩ := hv.openE (HS.out _ (List.mem_of_getElem? hx))
        obtain ⟨op', n', nm', fd', kl', kla', klc', hds', hvs', _⟩ := hv'.openE (HS'.out _ (List.mem_of_getElem? hx'))
        subst hvs hvs'
        have hdl : ds.length = 5 := by rw [hds]; rfl
        have hdl' : ds'.length = 5 := by rw [hds']; rfl
        rw [hdl] at hc
        rw [hdl'] at hc'
        clear hds hds' hdl hdl' hv hv'
        have B0 := HW.out.trans (HB.out.mono HW.out.size)
        have c0 := (B0.cell (p := ⟨b, o + k * 5, none⟩) hbl).trans (hc 0 _ rfl)
        have c1 := (B0.cell (p := ⟨b, o + k * 5 + 1, none⟩) hbl).trans (hc 1 _ rfl)
        have c2 := (B0.cell (p := ⟨b, o + k * 5 + 2, none⟩) hbl).trans (hc 2 _ rfl)
        have c3 := (B0.cell (p := ⟨b, o + k * 5 + 3, none⟩) hbl).trans (hc 3 _ rfl)
        have c4 := (B0.cell (p := ⟨b, o + k * 5 + 4, none⟩) hbl).trans (hc 4 _ rfl)
        have c0' := (B0.cell (p := ⟨b', o' + k * 5, none⟩) hbl').trans (hc' 0 _ rfl)
        have c1' := (B0.cell (p := ⟨b', o' + k * 5 + 1, none⟩) hbl').trans (hc' 1 _ rfl)
        have c2' := (B0.cell (p := ⟨b', o' + k * 5 + 2, none⟩) hbl').trans (hc' 2 _ rfl)
        have c3' := (B0.cell (p := ⟨b', o' + k * 5 + 3, none⟩) hbl').trans (hc' 3 _ rfl)
        have c4' := (B0.cell (p := ⟨b', o' + k * 5 + 4, none⟩) hbl').trans (hc' 4 _ rfl)
        have hbw : b < wr.heap.size := Nat.lt_of_lt_of_le hbl B0.size
        have hbw' : b' < wr.heap.size := Nat.lt_of_lt_of_le hbl' B0.size
        have FN := Lib.hid hfn
        have HX := Lib.hid hx
        have HX' := Lib.hid hx'
        have HB0 := Lib.hid B0
        clear hfn hx hx' B0 hc hc'
        go_wp2_with fail
        have B2 := HB0.out.trans (((Below.refl wr.heap.size wr).alloc (Nat.le_refl _) (.cells #[.int .i64 op, .int .i64 n, .string nm, .string fd, .slice kla kl.length klc] 24)).mono HB0.out.size)
        have B3 := B2.trans (((Below.refl _ (wr.alloc (.cells #[.int .i64 op, .int .i64 n, .string nm, .string fd, .slice kla kl.length klc] 24))).alloc (Nat.le_refl _) (.cells #[.int .i64 op', .int .i64 n', .string nm', .string fd', .slice kla' kl'.length klc'] 24)).mono B2.size)
        refine (FN.out _ B3).mono ?_
        rintro e w3 ⟨rfl, b3⟩
        have B4 := HB.out.trans ((((Below.refl wr.heap.size wr).alloc (Nat.le_refl _) (.cells #[.int .i64 op, .int .i64 n, .string nm, .string fd, .slice kla kl.length klc] 24)).alloc (by simp) (.cells #[.int .i64 op', .int .i64 n', .string nm', .string fd', .slice kla' kl'.length klc'] 24)).mono HB.out.size)
        have HB4 := Lib.hid (B4.trans (b3.mono B4.size))
        clear b3 B4 B2 B3 c0 c1 c2 c3 c4 c0' c1' c2' c3' c4'
        cases hsm : same ds ds' with
        | true =>
          have HE := Lib.hid ((same_iff _ _).1 hsm)
          clear hsm
          go_wp2_with fail
          go_roundw
          case rel => exact ⟨k + 1, by omega, by go_num, take_same_succ HX.out (HE.out ▸ HX'.out) HT.out, HB4.out⟩
          case measure => simp [intOf]; omega
        | false =>
          have HE := Lib.hid (same_miss HX.out HX'.out hsm)
          clear hsm
          go_wp2_with fail
          go_ret
          exact ⟨by rw [HE.out]; rfl, HB4.out⟩
      · obtain rfl : k = len := by omega
        go_wp2_with fail
        go_ret
        exact ⟨by rw [same_end (HL.out.trans HL'.out.symm) (by rw [HL.out]; exact HT.out)]; rfl, HB.out⟩
  · have hne : (len == len') = false := by simpa using hn
    have HN := Lib.hid (same_len (l := l) (l' := l') (by rw [HL.out, HL'.out]; exact hn))
    go_enter Tryz.func48, Tryz.ntmps48
    go_wp2_with fail
    go_ret
    exact ⟨by rw [HN.out]; rfl, Below.refl _ _⟩
end Go.Proofs.YtciijpahjjoppaaGreat
end
section
namespace Go.Proofs.YtciijpahjjoppaaGreat
open Go.RowKit Go.Deep
set_option maxRecDepth 100000 in
set_option maxHeartbeats 2000000 in
theorem sameExpr_step (w0 : World) (x y : List D) (hx : ShE x) (hy : ShE y) (vs ws : List Value) (hv : AllAt w0 vs x) (hw : AllAt w0 ws y) (fkl : ∀ l l', D.row l ∈ x → D.row l' ∈ y → (∀ z ∈ l, ShE z) → (∀ z ∈ l', ShE z) → EqFn w0 16 l l')
    (W : World) (hW : Below w0.heap.size w0 W) : Calls Tryz.prog 16 #[.agg ⟨vs⟩, .agg ⟨ws⟩] W (EqPost x y W) := by
  obtain ⟨op, n, nm, fd, kl, kla, klc, rfl, rfl, -, -, -, -, akl, skl⟩ := hv.openE hx
  obtain ⟨op', n', nm', fd', kl', kla', klc', rfl, rfl, -, -, -, -, akl', skl'⟩ := hw.openE hy
  have Pkl := Lib.hid (fkl kl kl' (by simp) (by simp) skl skl')
  have Akl := Lib.hid akl
  have Skl := Lib.hid skl
  have Akl' := Lib.hid akl'
  have Skl' := Lib.hid skl'
  clear hx hy hv hw akl akl' skl skl' fkl
  have HW := Lib.hid hW
  clear hW
  cases hop : op == op' with
  | false =>
    have G : op ≠ op' := (by simpa using hop)
    have GH := Lib.hid G
    clear G
    go_enter Tryz.func16, Tryz.ntmps16
    go_wp2_with fail
    go_ret
    exact ⟨by rw [same_no (α := List D) (x := [.int op, .int n, .str nm, .str fd, .row kl]) (y := [.int op', .int n', .str nm', .str fd', .row kl']) (fun z => GH.out (D.int.inj (congrArg (fun z : List D => nth z 0) z)))]; rfl, ((Below.refl _ _).alloc (Nat.le_refl _) _).alloc (by simp) _⟩
  | true =>
    have Qop := Lib.hid (show op = op' from (by simpa using hop))
    cases hn : n == n' with
    | false =>
      have G : n ≠ n' := (by simpa using hn)
      have GH := Lib.hid G
      clear G
      go_enter Tryz.func16, Tryz.ntmps16
      go_wp2_with fail
      go_ret
      exact ⟨by rw [same_no (α := List D) (x := [.int op, .int n, .str nm, .str fd, .row kl]) (y := [.int op', .int n', .str nm', .str fd', .row kl']) (fun z => GH.out (D.int.inj (congrArg (fun z : List D => nth z 1) z)))]; rfl, ((Below.refl _ _).alloc (Nat.le_refl _) _).alloc (by simp) _⟩
    | true =>
      have Qn := Lib.hid (show n = n' from (by simpa using hn))
      cases hnm : nm.toList == nm'.toList with
      | false =>
        have G : nm ≠ nm' := (fun z => by subst z; simp at hnm)
        have GH := Lib.hid G
        clear G
        go_enter Tryz.func16, Tryz.ntmps16
        go_wp2_with fail
        go_ret
        exact ⟨by rw [same_no (α := List D) (x := [.int op, .int n, .str nm, .str fd, .row kl]) (y := [.int op', .int n', .str nm', .str fd', .row kl']) (fun z => GH.out (D.str.inj (congrArg (fun z : List D => nth z 2) z)))]; rfl, ((Below.refl _ _).alloc (Nat.le_refl _) _).alloc (by simp) _⟩
      | true =>
        have Qnm := Lib.hid (show nm = nm' from ((ba_eq_iff _ _).1 hnm))
        cases hfd : fd.toList == fd'.toList with
        | false =>
          have G : fd ≠ fd' := (fun z => by subst z; simp at hfd)
          have GH := Lib.hid G
          clear G
          go_enter Tryz.func16, Tryz.ntmps16
          go_wp2_with fail
          go_ret
          exact ⟨by rw [same_no (α := List D) (x := [.int op, .int n, .str nm, .str fd, .row kl]) (y := [.int op', .int n', .str nm', .str fd', .row kl']) (fun z => GH.out (D.str.inj (congrArg (fun z : List D => nth z 3) z)))]; rfl, ((Below.refl _ _).alloc (Nat.le_refl _) _).alloc (by simp) _⟩
        | true =>
          have Qfd := Lib.hid (show fd = fd' from ((ba_eq_iff _ _).1 hfd))
          go_enter Tryz.func16, Tryz.ntmps16
          go_wp2_with fail
          have R0 := Lib.hid (((Below.refl W.heap.size W).alloc (Nat.le_refl _) (.cells #[.int .i64 op, .int .i64 n, .string nm, .string fd, .slice kla kl.length klc] 24)).alloc (by simp) (.cells #[.int .i64 op', .int .i64 n', .string nm', .string fd', .slice kla' kl'.length klc'] 24))
          have KA0 := Lib.hid (show ((W.alloc (.cells #[.int .i64 op, .int .i64 n, .string nm, .string fd, .slice kla kl.length klc] 24)).alloc (.cells #[.int .i64 op', .int .i64 n', .string nm', .string fd', .slice kla' kl'.length klc'] 24)).heap[W.heap.size]? = some (.cells #[.int .i64 op, .int .i64 n, .string nm, .string fd, .slice kla kl.length klc] 24) from box_first W (.cells #[.int .i64 op, .int .i64 n, .string nm, .string fd, .slice kla kl.length klc] 24) (.cells #[.int .i64 op', .int .i64 n', .string nm', .string fd', .slice kla' kl'.length klc'] 24))
          have KB0 := Lib.hid (show ((W.alloc (.cells #[.int .i64 op, .int .i64 n, .string nm, .string fd, .slice kla kl.length klc] 24)).alloc (.cells #[.int .i64 op', .int .i64 n', .string nm', .string fd', .slice kla' kl'.length klc'] 24)).heap[W.heap.size + 1]? = some (.cells #[.int .i64 op', .int .i64 n', .string nm', .string fd', .slice kla' kl'.length klc'] 24) from box_second W (.cells #[.int .i64 op, .int .i64 n, .string nm, .string fd, .slice kla kl.length klc] 24) (.cells #[.int .i64 op', .int .i64 n', .string nm', .string fd', .slice kla' kl'.length klc'] 24))
          have Z1 := HW.out.trans (R0.out.mono HW.out.size)
          refine (equalE_any w0 _ _ _ _ _ _ _ _ Akl.out Akl'.out Skl.out Skl'.out Pkl.out _ Z1).mono ?_
          rintro e w1 ⟨rfl, b1⟩
          have R1 := Lib.hid (R0.out.trans (b1.mono R0.out.size))
          have KA1 := Lib.hid ((b1.block _ (heap_lt KA0.out)).trans KA0.out)
          have KB1 := Lib.hid ((b1.block _ (heap_lt KB0.out)).trans KB0.out)
          have cA1 := box_cells KA1.out
          have cB1 := box_cells KB1.out
          clear b1 Z1
          cases hkl : same kl kl' with
          | false =>
            have GH := Lib.hid (same_neq hkl)
            clear hkl
            go_wp2_with fail
            go_ret
            exact ⟨by rw [same_no (α := List D) (x := [.int op, .int n, .str nm, .str fd, .row kl]) (y := [.int op', .int n', .str nm', .str fd', .row kl']) (fun z => GH.out (D.row.inj (congrArg (fun z : List D => nth z 4) z)))]; rfl, R1.out⟩
          | true =>
            have Qkl := Lib.hid ((same_iff _ _).1 hkl)
            clear hkl
            have E := Lib.hid (show same (α := List D) [.int op, .int n, .str nm, .str fd, .row kl] [.int op', .int n', .str nm', .str fd', .row kl'] = true by
              obtain rfl := Qop.out
              obtain rfl := Qn.out
              obtain rfl := Qnm.out
              obtain rfl := Qfd.out
              obtain rfl := Qkl.out
              exact same_refl _)
            go_wp2_with fail
            go_ret
            exact ⟨by rw [E.out]; rfl, R1.out⟩
end Go.Proofs.YtciijpahjjoppaaGreat
end
section
namespace Go.Proofs.YtciijpahjjoppaaGreat
open Go.RowKit Go.Deep

def tRow (ss : List ByteArray) : List (List D) := ss.map fun s => [.str s]
theorem tRow_inj {ss tt : List ByteArray} (h : tRow ss = tRow tt) : ss = tt := by
  unfold tRow at h
  induction ss generalizing tt with
  | nil => cases tt with
    | nil => rfl
    | cons => simp at h
  | cons s ss ih => cases tt with
    | nil => simp at h
    | cons t tt =>
      simp at h
      rw [h.1, ih (by simpa using h.2)]
theorem same_tRow (ss tt : List ByteArray) : same (tRow ss) (tRow tt) = sameL ss tt := by
  by_cases h : ss = tt
  · subst h; rw [same_refl, sameL_refl]
  · rw [same_no (fun e => h (tRow_inj e)), sameL_no h]
theorem texts_of {l : List (List D)} (hs : ∀ x ∈ l, ShT x) : ∃ ss, l = tRow ss := by
  induction l with
  | nil => exact ⟨[], rfl⟩
  | cons x l ih =>
    obtain ⟨ss, rfl⟩ := ih fun y hy => hs y (List.mem_cons_of_mem _ hy)
    cases hs x (List.mem_cons_self ..) with
    | mk s => exact ⟨s :: ss, rfl⟩
theorem At.strs {w : World} {a : Option Addr} {len cap : Nat} {l : List (List D)} (h : At w (.slice a len cap) (.row l)) (hs : ∀ x ∈ l, ShT x) : ∃ ss, l = tRow ss ∧ IsStrs w a len cap ss := by
  obtain ⟨ss, rfl⟩ := texts_of hs
  have hl := h.len_eq
  have hl1 : ss.length = len := by simpa [tRow] using hl.1
  have key : ∀ j, j < len → ∃ b o x, a = some ⟨b, o, none⟩ ∧ b < w.heap.size ∧ ss[j]? = some x ∧ x.size ≤ maxLen ∧ w.cell? ⟨b, o + j, none⟩ = some (.string x) := by
    intro j hj
    obtain ⟨b, o, vs, ds, ha, hb, hx, hv, hc⟩ := h.elem hj
    unfold tRow at hx
    rw [List.getElem?_map] at hx
    obtain ⟨s, hs1, hs2⟩ := Option.map_eq_some_iff.1 hx
    subst hs2
    match vs, hv with
    | [v], ⟨h0, _⟩ =>
      obtain ⟨rfl, hz⟩ := h0.str_inv
      have := hc 0 _ rfl
      exact ⟨b, o, s, ha, hb, hs1, hz, by simpa using this⟩
  refine ⟨ss, rfl, hl1, hl.2.1, hl.2.2, fun x hx => ?_, ?_⟩
  · obtain ⟨j, hj, rfl⟩ := List.mem_iff_getElem.1 hx
    obtain ⟨_, _, x, _, _, hx', hz, _⟩ := key j (by omega)
    rw [List.getElem?_eq_getElem hj] at hx'
    cases hx'
    exact hz
  · by_cases h0 : len = 0
    · exact .inl h0
    · right
      obtain ⟨b, o, x, ha, hb, _⟩ := key 0 (by omega)
      refine ⟨b, o, ha, hb, fun j x hx => ?_⟩
      have hj : j < len := by rw [← hl1]; exact (List.getElem?_eq_some_iff.1 hx).1
      obtain ⟨b', o', x', ha', _, hx', _, hc⟩ := key j hj
      rw [ha] at ha'
      cases ha'
      rw [hx] at hx'
      cases hx'
      exact hc
theorem texts_any (w0 : World) (a a' : Option Addr) (len len' cap cap' : Nat) (l l' : List (List D)) (hA : At w0 (.slice a len cap) (.row l)) (hA' : At w0 (.slice a' len' cap') (.row l')) (hs : ∀ x ∈ l, ShT x) (hs' : ∀ x ∈ l', ShT x)
    (W : World) (hW : Below w0.heap.size w0 W) : Calls Tryz.prog 18 #[.slice a len cap, .slice a' len' cap'] W (EqPost l l' W) := by
  obtain ⟨ss, rfl, h1⟩ := hA.strs hs
  obtain ⟨tt, rfl, h2⟩ := hA'.strs hs'
  refine (sameTexts_any a a' len cap len' cap' ss tt W (h1.below hW) (h2.below hW)).mono ?_
  rintro e w' ⟨rfl, q, rfl⟩
  exact ⟨by rw [same_tRow], below_drewN (Below.refl _ _) _⟩
set_option maxHeartbeats 400000 in
theorem equalTexts_any (a a' : Option Addr) (len cap len' cap' : Nat) (xs ys : List ByteArray) (w : World) (hS : IsStrs w a len cap xs) (hS' : IsStrs w a' len' cap' ys) :
    Calls Tryz.prog 35 #[.slice a len cap, .slice a' len' cap'] w fun e w' => e = .returned (.bool (sameL xs ys)) ∧ ∃ n, w' = w.drewN n := by
  have HS := Lib.hid hS
  have HS' := Lib.hid hS'
  have hcap := hS.len_le
  have hcap' := hS'.len_le
  clear hS hS'
  generalize hr : sameL xs ys = r
  have HR := Lib.hid hr
  clear hr
  by_cases hl : len = len'
  · subst hl
    go_enter Tryz.func35, Tryz.ntmps35
    go_wp2_with fail
    go_loopw [13] (fun i wr => ∃ k n : Nat, k ≤ len ∧ i = .int .i64 k ∧ xs.take k = ys.take k ∧ wr = w.drewN n) (fun i _ => len - (intOf i).toNat)
    case atStart => exact ⟨0, 0, Nat.zero_le _, rfl, rfl, rfl⟩
    case round =>
      obtain ⟨k, n, hk, rfl, hno, rfl⟩ := hrel
      have HN := Lib.hid hno
      clear hno
      by_cases hlt : k < len
      · obtain ⟨b, o, x, rfl, hx, hxs, hc⟩ := HS.out.at hlt
        obtain ⟨b', o', y, rfl, hy, hys, hc'⟩ := HS'.out.at hlt
        have HX := Lib.hid hx
        have HY := Lib.hid hy
        clear hx hy
        cases hb : x.toList == y.toList with
        | true =>
          have HT : xs.take (k + 1) = ys.take (k + 1) := by rw [take_snoc HX.out, take_snoc HY.out, HN.out, (beq_iff x y).1 hb]
          have HT := Lib.hid HT
          go_wp2_with fail
          go_quiet (fail)
          go_wp2_with fail
          go_roundw
          case rel => exact ⟨k + 1, _, by omega, by go_num, HT.out, by first | rfl | exact World.drewN_drewN _ _ _⟩
          case measure => simp [intOf]; omega
        | false =>
          obtain rfl : r = false := by
            rw [← HR.out]
            refine sameL_no fun e => (beq_false x y).1 hb ?_
            have := HX.out
            rw [e, HY.out] at this
            exact (Option.some.inj this).symm
          go_wp2_with fail
          go_quiet (fail)
          go_wp2_with fail
          go_ret
          exact ⟨rfl, _, by first | rfl | exact World.drewN_drewN _ _ _⟩
      · obtain rfl : r = true := by
          rw [← HR.out, sameL_iff]
          have := HN.out
          rw [List.take_of_length_le (by rw [HS.out.1]; omega), List.take_of_length_le (by rw [HS'.out.1]; omega)] at this
          exact this
        go_wp2_with fail
        go_ret
        exact ⟨rfl, _, rfl⟩
  · obtain rfl : r = false := by
      rw [← HR.out]
      refine sameL_no fun e => hl ?_
      rw [← HS.out.1, ← HS'.out.1, e]
    have hne : ((len : Int) == (len' : Int)) = false := by simp; omega
    go_enter Tryz.func35, Tryz.ntmps35
    go_wp2_with fail
    go_ret
    exact ⟨rfl, 0, rfl⟩
theorem equalT_any (w0 : World) (a a' : Option Addr) (len len' cap cap' : Nat) (l l' : List (List D)) (hA : At w0 (.slice a len cap) (.row l)) (hA' : At w0 (.slice a' len' cap') (.row l')) (hs : ∀ x ∈ l, ShT x) (hs' : ∀ x ∈ l', ShT x)
    (W : World) (hW : Below w0.heap.size w0 W) : Calls Tryz.prog 35 #[.slice a len cap, .slice a' len' cap'] W (EqPost l l' W) := by
  obtain ⟨ss, rfl, h1⟩ := hA.strs hs
  obtain ⟨tt, rfl, h2⟩ := hA'.strs hs'
  refine (equalTexts_any a a' len cap len' cap' ss tt W (h1.below hW) (h2.below hW)).mono ?_
  rintro e w' ⟨rfl, q, rfl⟩
  exact ⟨by rw [same_tRow], below_drewN (Below.refl _ _) _⟩

/-- Two types compared. -/
def tySame (kd kd' sz sz' : Int) (tn tn' : ByteArray) : Bool := kd == kd' && sz == sz' && tn.toList == tn'.toList
theorem ty_equalIn (d : Nat) (kd kd' sz sz' : Int) (tn tn' : ByteArray) (w : World) : Sem.run Tryz.prog (Op.equalIn (d + 1 + 1) 73 (.agg #[.int .i64 kd, .int .i64 sz, .string tn]) (.agg #[.int .i64 kd', .int .i64 sz', .string tn'])) w = .ok (tySame kd kd' sz sz' tn tn') w := by
  have hS : Tryz.prog.underlying 73 = some (.struct (Tryz.prog.fieldsOf 73)) := by kernel_rfl
  have hp : Tryz.prog.stoodInHeld 73 = false := by kernel_rfl
  have u3 := Tryz.underlying3
  have a3 := Tryz.isAgg3
  have z3 := Tryz.sizeOf3
  have u9 := Tryz.underlying9
  have a9 := Tryz.isAgg9
  have z9 := Tryz.sizeOf9
  rw [run_equalIn_agg w (d + 1) 73 _ _ hS hp]
  clear hS hp
  simp only [Program.fieldsOf, Tryz.underlying73]
  go_simp
  unfold tySame
  cases h1 : kd == kd' <;> cases h2 : sz == sz' <;> cases h3 : tn.toList == tn'.toList <;> simp_all
theorem ty_eql (kd kd' sz sz' : Int) (tn tn' : ByteArray) (w : World) : Sem.run Tryz.prog (binOp .eql 73 (.agg #[.int .i64 kd, .int .i64 sz, .string tn]) (.agg #[.int .i64 kd', .int .i64 sz', .string tn'])) w = .ok (.bool (tySame kd kd' sz sz' tn tn')) w := by
  rw [run_eql_struct, show (10000 : Nat) = 9998 + 1 + 1 from rfl, ty_equalIn]
  rfl
def pmSame (nm nm' : ByteArray) (kd kd' sz sz' : Int) (tn tn' : ByteArray) (md md' : Int) : Bool := nm.toList == nm'.toList && tySame kd kd' sz sz' tn tn' && md == md'
theorem pm_neq (nm nm' : ByteArray) (kd kd' sz sz' : Int) (tn tn' : ByteArray) (md md' : Int) (w : World) : Sem.run Tryz.prog (binOp .neq 133 (.agg #[.string nm, .int .i64 kd, .int .i64 sz, .string tn, .int .i64 md]) (.agg #[.string nm', .int .i64 kd', .int .i64 sz', .string tn', .int .i64 md'])) w = .ok (.bool (!pmSame nm nm' kd kd' sz sz' tn tn' md md')) w := by
  have hS : Tryz.prog.underlying 133 = some (.struct (Tryz.prog.fieldsOf 133)) := by kernel_rfl
  have hp : Tryz.prog.stoodInHeld 133 = false := by kernel_rfl
  have u3 := Tryz.underlying3
  have a3 := Tryz.isAgg3
  have z3 := Tryz.sizeOf3
  have u9 := Tryz.underlying9
  have a9 := Tryz.isAgg9
  have z9 := Tryz.sizeOf9
  have a73 := Tryz.isAgg73
  have z73 := Tryz.sizeOf73
  have hty := ty_equalIn 9997 kd kd' sz sz' tn tn'
  rw [run_neq_struct, show (10000 : Nat) = 9999 + 1 from rfl, run_equalIn_agg w 9999 133 _ _ hS hp]
  clear hS hp
  simp only [Program.fieldsOf, Tryz.underlying133]
  go_simp
  unfold pmSame
  cases h1 : nm.toList == nm'.toList <;> cases h2 : tySame kd kd' sz sz' tn tn' <;> cases h3 : md == md' <;> simp_all
theorem tySame_iff {kd kd' sz sz' : Int} {tn tn' : ByteArray} : tySame kd kd' sz sz' tn tn' = true ↔ kd = kd' ∧ sz = sz' ∧ tn = tn' := by
  unfold tySame
  rw [Bool.and_eq_true, Bool.and_eq_true, ba_eq_iff]
  simp [and_assoc]
theorem pmSame_iff {nm nm' : ByteArray} {kd kd' sz sz' : Int} {tn tn' : ByteArray} {md md' : Int} : pmSame nm nm' kd kd' sz sz' tn tn' md md' = true ↔ nm = nm' ∧ (kd = kd' ∧ sz = sz' ∧ tn = tn') ∧ md = md' := by
  unfold pmSame
  rw [Bool.and_eq_true, Bool.and_eq_true, ba_eq_iff, tySame_iff]
  simp [and_assoc]
end Go.Proofs.YtciijpahjjoppaaGreat
end
section
namespace Go.Proofs.YtciijpahjjoppaaGreat
open Go.RowKit Go.Deep

theorem tyList_no {kd kd' sz sz' : Int} {tn tn' : ByteArray} (h : tySame kd kd' sz sz' tn tn' = false) : ([.int kd, .int sz, .str tn] : List D) ≠ [.int kd', .int sz', .str tn'] := fun e => by
  have : tySame kd kd' sz sz' tn tn' = true := tySame_iff.2 (by simpa using e)
  rw [h] at this
  cases this
theorem size_in {x z : List D} {l : List (List D)} (hl : D.row l ∈ x) (hz : z ∈ l) : SizeOf.sizeOf z < SizeOf.sizeOf x := by
  have h1 := List.sizeOf_lt_of_mem hl
  have h2 := List.sizeOf_lt_of_mem hz
  have h3 : SizeOf.sizeOf (D.row l) = 1 + SizeOf.sizeOf l := by simp
  omega
theorem size_pos (x : List D) : 0 < SizeOf.sizeOf x := by cases x <;> simp <;> omega
theorem sameExpr_upto (w0 : World) (n : Nat) : ∀ x y : List D, SizeOf.sizeOf x ≤ n → ShE x → ShE y → ∀ vs ws, AllAt w0 vs x → AllAt w0 ws y → ∀ W, Below w0.heap.size w0 W → Calls Tryz.prog 16 #[.agg ⟨vs⟩, .agg ⟨ws⟩] W (EqPost x y W) := by
  induction n with
  | zero => intro x y h; have := size_pos x; omega
  | succ n ih =>
    intro x y hn hx hy vs ws hv hw W hW
    exact sameExpr_step w0 x y hx hy vs ws hv hw (fun l l' hl _ hs hs' z hz z' hz' vs ws hv hw W hW => ih z z' (by have := size_in hl hz; omega) (hs z hz) (hs' z' hz') vs ws hv hw W hW) W hW
theorem sameExpr_any (w0 : World) (x y : List D) (hx : ShE x) (hy : ShE y) (vs ws : List Value) (hv : AllAt w0 vs x) (hw : AllAt w0 ws y) (W : World) (hW : Below w0.heap.size w0 W) : Calls Tryz.prog 16 #[.agg ⟨vs⟩, .agg ⟨ws⟩] W (EqPost x y W) :=
  sameExpr_upto w0 _ x y (Nat.le_refl _) hx hy vs ws hv hw W hW
theorem efn_E (w0 : World) (l l' : List (List D)) (hs : ∀ z ∈ l, ShE z) (hs' : ∀ z ∈ l', ShE z) : EqFn w0 16 l l' := fun x hx y hy vs ws hv hw W hW => sameExpr_any w0 x y (hs x hx) (hs' y hy) vs ws hv hw W hW
end Go.Proofs.YtciijpahjjoppaaGreat
end
section
namespace Go.Proofs.YtciijpahjjoppaaGreat
open Go.RowKit Go.Deep Go.Maps Go.Sort

theorem cellsRg {w : World} {n : Nat} {cs : Array Value} {t : TypeId} {fz : Nat × Nat} (h : w.heap[n]? = some (.cells cs t fz)) (d : Nat) (os : Array Obj) (i : Nat) : (grow (redrawn w d) os).cell? ⟨n, i, none⟩ = cs[i]? := by
  rw [(below_regrown w d os).cell (p := ⟨n, i, none⟩) (heap_lt h)]
  exact box_cells h i
def splace (op : Int) : Bool := (op == 1) || (op == 7)
def sleast (op : Int) : Int := if op = 6 then 2 else if 1 ≤ op ∧ op ≤ 5 ∨ op = 8 then 1 else 0
def smost (op : Int) : Int := if op = 6 then 2 else if 1 ≤ op ∧ op ≤ 5 ∨ op = 8 ∨ op = 9 then 1 else 0
def scall (op : Int) : Bool := op == 2
def sbody (op : Int) : Bool := decide (3 ≤ op) && decide (op ≤ 6)
def sother (op : Int) : Bool := op == 3
def scount (op : Int) : Bool := op == 6
def sok (op : Int) : Bool := decide (1 ≤ op) && decide (op ≤ 9)
def SFormPost (op : Int) (w : World) (e : Ending) (w' : World) : Prop := e = .returned (.tuple #[.agg #[.bool (splace op), .int .i64 (sleast op), .int .i64 (smost op), .bool (scall op), .bool (sbody op), .bool (sother op), .bool (scount op)], .bool (sok op)]) ∧ Below w.heap.size w w'
set_option maxRecDepth 100000 in
theorem stmtForm_1 (w : World) : Calls Tryz.prog 112 #[.int .i64 1] w (SFormPost 1 w) := by
  have R1 := Lib.hid ((Below.refl w.heap.size w).alloc (Nat.le_refl _) (.cells #[.bool (splace 1), .int .i64 (sleast 1), .int .i64 (smost 1), .bool (scall 1), .bool (sbody 1), .bool (sother 1), .bool (scount 1)] 155))
  go_enter Tryz.func112, Tryz.ntmps112
  go_wp2_with fail
  refine bodyPost_ret (v := .tuple #[.agg ⟨[.bool (splace 1), .int .i64 (sleast 1), .int .i64 (smost 1), .bool (scall 1), .bool (sbody 1), .bool (sother 1), .bool (scount 1)]⟩, .bool true]) ?_ rfl ?_
  · exact results_cell2 (i := 2) (j := 3) (b := w.heap.size) Tryz.results112 Tryz.isAgg155 Tryz.sizeOf155 rfl rfl (heap_new w (.cells #[.bool (splace 1), .int .i64 (sleast 1), .int .i64 (smost 1), .bool (scall 1), .bool (sbody 1), .bool (sother 1), .bool (scount 1)] 155)) rfl
  · exact ⟨rfl, R1.out⟩
set_option maxRecDepth 100000 in
theorem stmtForm_2 (w : World) : Calls Tryz.prog 112 #[.int .i64 2] w (SFormPost 2 w) := by
  have R1 := Lib.hid ((Below.refl w.heap.size w).alloc (Nat.le_refl _) (.cells #[.bool (splace 2), .int .i64 (sleast 2), .int .i64 (smost 2), .bool (scall 2), .bool (sbody 2), .bool (sother 2), .bool (scount 2)] 155))
  go_enter Tryz.func112, Tryz.ntmps112
  go_wp2_with fail
  refine bodyPost_ret (v := .tuple #[.agg ⟨[.bool (splace 2), .int .i64 (sleast 2), .int .i64 (smost 2), .bool (scall 2), .bool (sbody 2), .bool (sother 2), .bool (scount 2)]⟩, .bool true]) ?_ rfl ?_
  · exact results_cell2 (i := 2) (j := 3) (b := w.heap.size) Tryz.results112 Tryz.isAgg155 Tryz.sizeOf155 rfl rfl (heap_new w (.cells #[.bool (splace 2), .int .i64 (sleast 2), .int .i64 (smost 2), .bool (scall 2), .bool (sbody 2), .bool (sother 2), .bool (scount 2)] 155)) rfl
  · exact ⟨rfl, R1.out⟩
set_option maxRecDepth 100000 in
theorem stmtForm_3 (w : World) : Calls Tryz.prog 112 #[.int .i64 3] w (SFormPost 3 w) := by
  have R1 := Lib.hid ((Below.refl w.heap.size w).alloc (Nat.le_refl _) (.cells #[.bool (splace 3), .int .i64 (sleast 3), .int .i64 (smost 3), .bool (scall 3), .bool (sbody 3), .bool (sother 3), .bool (scount 3)] 155))
  go_enter Tryz.func112, Tryz.ntmps112
  go_wp2_with fail
  refine bodyPost_ret (v := .tuple #[.agg ⟨[.bool (splace 3), .int .i64 (sleast 3), .int .i64 (smost 3), .bool (scall 3), .bool (sbody 3), .bool (sother 3), .bool (scount 3)]⟩, .bool true]) ?_ rfl ?_
  · exact results_cell2 (i := 2) (j := 3) (b := w.heap.size) Tryz.results112 Tryz.isAgg155 Tryz.sizeOf155 rfl rfl (heap_new w (.cells #[.bool (splace 3), .int .i64 (sleast 3), .int .i64 (smost 3), .bool (scall 3), .bool (sbody 3), .bool (sother 3), .bool (scount 3)] 155)) rfl
  · exact ⟨rfl, R1.out⟩
set_option maxRecDepth 100000 in
theorem stmtForm_4 (w : World) : Calls Tryz.prog 112 #[.int .i64 4] w (SFormPost 4 w) := by
  have R1 := Lib.hid ((Below.refl w.heap.size w).alloc (Nat.le_refl _) (.cells #[.bool (splace 4), .int .i64 (sleast 4), .int .i64 (smost 4), .bool (scall 4), .bool (sbody 4), .bool (sother 4), .bool (scount 4)] 155))
  go_enter Tryz.func112, Tryz.ntmps112
  go_wp2_with fail
  refine bodyPost_ret (v := .tuple #[.agg ⟨[.bool (splace 4), .int .i64 (sleast 4), .int .i64 (smost 4), .bool (scall 4), .bool (sbody 4), .bool (sother 4), .bool (scount 4)]⟩, .bool true]) ?_ rfl ?_
  · exact results_cell2 (i := 2) (j := 3) (b := w.heap.size) Tryz.results112 Tryz.isAgg155 Tryz.sizeOf155 rfl rfl (heap_new w (.cells #[.bool (splace 4), .int .i64 (sleast 4), .int .i64 (smost 4), .bool (scall 4), .bool (sbody 4), .bool (sother 4), .bool (scount 4)] 155)) rfl
  · exact ⟨rfl, R1.out⟩
set_option maxRecDepth 100000 in
theorem stmtForm_5 (w : World) : Calls Tryz.prog 112 #[.int .i64 5] w (SFormPost 5 w) := by
  have R1 := Lib.hid ((Below.refl w.heap.size w).alloc (Nat.le_refl _) (.cells #[.bool (splace 5), .int .i64 (sleast 5), .int .i64 (smost 5), .bool (scall 5), .bool (sbody 5), .bool (sother 5), .bool (scount 5)] 155))
  go_enter Tryz.func112, Tryz.ntmps112
  go_wp2_with fail
  refine bodyPost_ret (v := .tuple #[.agg ⟨[.bool (splace 5), .int .i64 (sleast 5), .int .i64 (smost 5), .bool (scall 5), .bool (sbody 5), .bool (sother 5), .bool (scount 5)]⟩, .bool true]) ?_ rfl ?_
  · exact results_cell2 (i := 2) (j := 3) (b := w.heap.size) Tryz.results112 Tryz.isAgg155 Tryz.sizeOf155 rfl rfl (heap_new w (.cells #[.bool (splace 5), .int .i64 (sleast 5), .int .i64 (smost 5), .bool (scall 5), .bool (sbody 5), .bool (sother 5), .bool (scount 5)] 155)) rfl
  · exact ⟨rfl, R1.out⟩
set_option maxRecDepth 100000 in
theorem stmtForm_6 (w : World) : Calls Tryz.prog 112 #[.int .i64 6] w (SFormPost 6 w) := by
  have R1 := Lib.hid ((Below.refl w.heap.size w).alloc (Nat.le_refl _) (.cells #[.bool (splace 6), .int .i64 (sleast 6), .int .i64 (smost 6), .bool (scall 6), .bool (sbody 6), .bool (sother 6), .bool (scount 6)] 155))
  go_enter Tryz.func112, Tryz.ntmps112
  go_wp2_with fail
  refine bodyPost_ret (v := .tuple #[.agg ⟨[.bool (splace 6), .int .i64 (sleast 6), .int .i64 (smost 6), .bool (scall 6), .bool (sbody 6), .bool (sother 6), .bool (scount 6)]⟩, .bool true]) ?_ rfl ?_
  · exact results_cell2 (i := 2) (j := 3) (b := w.heap.size) Tryz.results112 Tryz.isAgg155 Tryz.sizeOf155 rfl rfl (heap_new w (.cells #[.bool (splace 6), .int .i64 (sleast 6), .int .i64 (smost 6), .bool (scall 6), .bool (sbody 6), .bool (sother 6), .bool (scount 6)] 155)) rfl
  · exact ⟨rfl, R1.out⟩
set_option maxRecDepth 100000 in
theorem stmtForm_7 (w : World) : Calls Tryz.prog 112 #[.int .i64 7] w (SFormPost 7 w) := by
  have R1 := Lib.hid ((Below.refl w.heap.size w).alloc (Nat.le_refl _) (.cells #[.bool (splace 7), .int .i64 (sleast 7), .int .i64 (smost 7), .bool (scall 7), .bool (sbody 7), .bool (sother 7), .bool (scount 7)] 155))
  go_enter Tryz.func112, Tryz.ntmps112
  go_wp2_with fail
  refine bodyPost_ret (v := .tuple #[.agg ⟨[.bool (splace 7), .int .i64 (sleast 7), .int .i64 (smost 7), .bool (scall 7), .bool (sbody 7), .bool (sother 7), .bool (scount 7)]⟩, .bool true]) ?_ rfl ?_
  · exact results_cell2 (i := 2) (j := 3) (b := w.heap.size) Tryz.results112 Tryz.isAgg155 Tryz.sizeOf155 rfl rfl (heap_new w (.cells #[.bool (splace 7), .int .i64 (sleast 7), .int .i64 (smost 7), .bool (scall 7), .bool (sbody 7), .bool (sother 7), .bool (scount 7)] 155)) rfl
  · exact ⟨rfl, R1.out⟩
set_option maxRecDepth 100000 in
theorem stmtForm_8 (w : World) : Calls Tryz.prog 112 #[.int .i64 8] w (SFormPost 8 w) := by
  have R1 := Lib.hid ((Below.refl w.heap.size w).alloc (Nat.le_refl _) (.cells #[.bool (splace 8), .int .i64 (sleast 8), .int .i64 (smost 8), .bool (scall 8), .bool (sbody 8), .bool (sother 8), .bool (scount 8)] 155))
  go_enter Tryz.func112, Tryz.ntmps112
  go_wp2_with fail
  refine bodyPost_ret (v := .tuple #[.agg ⟨[.bool (splace 8), .int .i64 (sleast 8), .int .i64 (smost 8), .bool (scall 8), .bool (sbody 8), .bool (sother 8), .bool (scount 8)]⟩, .bool true]) ?_ rfl ?_
  · exact results_cell2 (i := 2) (j := 3) (b := w.heap.size) Tryz.results112 Tryz.isAgg155 Tryz.sizeOf155 rfl rfl (heap_new w (.cells #[.bool (splace 8), .int .i64 (sleast 8), .int .i64 (smost 8), .bool (scall 8), .bool (sbody 8), .bool (sother 8), .bool (scount 8)] 155)) rfl
  · exact ⟨rfl, R1.out⟩
set_option maxRecDepth 100000 in
theorem stmtForm_9 (w : World) : Calls Tryz.prog 112 #[.int .i64 9] w (SFormPost 9 w) := by
  have R1 := Lib.hid ((Below.refl w.heap.size w).alloc (Nat.le_refl _) (.cells #[.bool (splace 9), .int .i64 (sleast 9), .int .i64 (smost 9), .bool (scall 9), .bool (sbody 9), .bool (sother 9), .bool (scount 9)] 155))
  go_enter Tryz.func112, Tryz.ntmps112
  go_wp2_with fail
  refine bodyPost_ret (v := .tuple #[.agg ⟨[.bool (splace 9), .int .i64 (sleast 9), .int .i64 (smost 9), .bool (scall 9), .bool (sbody 9), .bool (sother 9), .bool (scount 9)]⟩, .bool true]) ?_ rfl ?_
  · exact results_cell2 (i := 2) (j := 3) (b := w.heap.size) Tryz.results112 Tryz.isAgg155 Tryz.sizeOf155 rfl rfl (heap_new w (.cells #[.bool (splace 9), .int .i64 (sleast 9), .int .i64 (smost 9), .bool (scall 9), .bool (sbody 9), .bool (sother 9), .bool (scount 9)] 155)) rfl
  · exact ⟨rfl, R1.out⟩
set_option maxRecDepth 100000 in
set_option maxHeartbeats 1000000 in
theorem stmtForm_no (op : Int) (w : World) (h : ¬ (1 ≤ op ∧ op ≤ 9)) : Calls Tryz.prog 112 #[.int .i64 op] w (SFormPost op w) := by
  have HF := Lib.hid (show SFormPost op w = fun e w' => e = .returned (.tuple #[.agg #[.bool false, .int .i64 0, .int .i64 0, .bool false, .bool false, .bool false, .bool false], .bool false]) ∧ Below w.heap.size w w' by
    have e1 : splace op = false := by unfold splace; simp; omega
    have e2 : sleast op = 0 := by unfold sleast; rw [if_neg (by omega), if_neg (by omega)]
    have e3 : smost op = 0 := by unfold smost; rw [if_neg (by omega), if_neg (by omega)]
    have e4 : scall op = false := by unfold scall; simp; omega
    have e5 : sbody op = false := by unfold sbody; simp; omega
    have e6 : sother op = false := by unfold sother; simp; omega
    have e7 : scount op = false := by unfold scount; simp; omega
    have e8 : sok op = false := by unfold sok; simp; omega
    unfold SFormPost
    rw [e1, e2, e3, e4, e5, e6, e7, e8])
  have g1 : (op == 1) = false := by simp; omega
  have g2 : (op == 2) = false := by simp; omega
  have g3 : (op == 3) = false := by simp; omega
  have g4 : (op == 4) = false := by simp; omega
  have g5 : (op == 5) = false := by simp; omega
  have g6 : (op == 6) = false := by simp; omega
  have g7 : (op == 7) = false := by simp; omega
  have g8 : (op == 8) = false := by simp; omega
  have g9 : (op == 9) = false := by simp; omega
  clear h
  have R1 := Lib.hid ((Below.refl w.heap.size w).alloc (Nat.le_refl _) (.cells #[.bool false, .int .i64 0, .int .i64 0, .bool false, .bool false, .bool false, .bool false] 155))
  rw [HF.out]
  go_enter Tryz.func112, Tryz.ntmps112
  go_wp2_with fail
  refine bodyPost_ret (v := .tuple #[.agg ⟨[.bool false, .int .i64 0, .int .i64 0, .bool false, .bool false, .bool false, .bool false]⟩, .bool false]) ?_ rfl ?_
  · exact results_cell2 (i := 2) (j := 3) (b := w.heap.size) Tryz.results112 Tryz.isAgg155 Tryz.sizeOf155 rfl rfl (heap_new w (.cells #[.bool false, .int .i64 0, .int .i64 0, .bool false, .bool false, .bool false, .bool false] 155)) rfl
  · exact ⟨rfl, R1.out⟩
theorem stmtForm_any (op : Int) (w : World) : Calls Tryz.prog 112 #[.int .i64 op] w (SFormPost op w) := by
  by_cases h : 1 ≤ op ∧ op ≤ 9
  · have : op = 1 ∨ op = 2 ∨ op = 3 ∨ op = 4 ∨ op = 5 ∨ op = 6 ∨ op = 7 ∨ op = 8 ∨ op = 9 := by omega
    rcases this with rfl | rfl | rfl | rfl | rfl | rfl | rfl | rfl | rfl
    · exact stmtForm_1 w
    · exact stmtForm_2 w
    · exact stmtForm_3 w
    · exact stmtForm_4 w
    · exact stmtForm_5 w
    · exact stmtForm_6 w
    · exact stmtForm_7 w
    · exact stmtForm_8 w
    · exact stmtForm_9 w
  · exact stmtForm_no op w h
theorem outermost_any (d ar : Int) (w : World) : Calls Tryz.prog 114 #[.agg #[.int .i64 d, .int .i64 ar]] w fun e w' => e = .returned (.agg #[.int .i64 d, .int .i64 0]) ∧ Below w.heap.size w w' := by
  have R1 := Lib.hid (((Below.refl w.heap.size w).alloc (Nat.le_refl _) (.cells #[.int .i64 d, .int .i64 ar] 51)).alloc (by simp) (.cells #[.int .i64 d, .int .i64 0] 51))
  go_enter Tryz.func114, Tryz.ntmps114
  go_wp2_with fail
  refine bodyPost_ret (v := .agg ⟨[.int .i64 d, .int .i64 0]⟩) ?_ rfl ?_
  · exact results_cell (i := 2) (b := w.heap.size + 1) Tryz.results114 Tryz.isAgg51 Tryz.sizeOf51 rfl rfl (by simpa using heap_new (w.alloc (.cells #[.int .i64 d, .int .i64 ar] 51)) (.cells #[.int .i64 d, .int .i64 0] 51))
  · exact ⟨rfl, R1.out⟩
def zeroE : List D := [.int 0, .int 0, .str ⟨#[]⟩, .str ⟨#[]⟩, .row []]
noncomputable def placeW (d : Int) (asked : Bool) (op : Int) (x : List D) : Bool := if asked then wthn op 4 6 && okE d 48 x else same x zeroE
def blockW (asked : Bool) (bd en : List (List D)) (f : List D → Bool) : Bool := if asked then okAll bd f && okNs en else decide (bd.length = 0) && decide (en.length = 0)
set_option maxRecDepth 100000 in
set_option maxHeartbeats 4000000 in
theorem placeWhere_any (w0 : World) (d ar : Int) (asked : Bool) (op n : Int) (nm fd : ByteArray) (kl : List (List D)) (kla : Option Addr) (klc : Nat) (hx : ShE [.int op, .int n, .str nm, .str fd, .row kl]) (hv : AllAt w0 [.int .i64 op, .int .i64 n, .string nm, .string fd, .slice kla kl.length klc] [.int op, .int n, .str nm, .str fd, .row kl]) (w : World) (hW : Below w0.heap.size w0 w) :
    Calls Tryz.prog 113 #[.agg #[.int .i64 d, .int .i64 ar], .bool asked, .agg #[.int .i64 op, .int .i64 n, .string nm, .string fd, .slice kla kl.length klc]] w fun e w' => e = .returned (.bool (placeW d asked op [.int op, .int n, .str nm, .str fd, .row kl])) ∧ Below w.heap.size w w' := by
  have S0 := Lib.hid (Bx2.start w (.cells #[.int .i64 d, .int .i64 ar] 51) (.cells #[.int .i64 op, .int .i64 n, .string nm, .string fd, .slice kla kl.length klc] 24))
  have HZ := Lib.hid (show ShE zeroE from .mk 0 0 ⟨#[]⟩ ⟨#[]⟩ [] (by simp))
  have HZA := Lib.hid (show AllAt w0 [.int .i64 0, .int .i64 0, .string ⟨#[]⟩, .string ⟨#[]⟩, .slice none 0 0] zeroE from ⟨.int 0 (by omega) (by omega), .int 0 (by omega) (by omega), .str _ (by decide), .str _ (by decide), .nil none 0 (by decide), trivial⟩)
  have HSM := Lib.hid (fun (W : World) (hW : Below w0.heap.size w0 W) => sameExpr_any w0 [.int op, .int n, .str nm, .str fd, .row kl] zeroE hx HZ.out _ _ hv HZA.out W hW)
  have HEX := Lib.hid (fun (W : World) (hW : Below w0.heap.size w0 W) => expr_any w0 d 48 0 rfl [.int op, .int n, .str nm, .str fd, .row kl] _ hx hv W hW)
  have HW := Lib.hid hW
  clear hx hv hW
  cases asked with
  | false =>
    have HO := Lib.hid (show placeW d false op [.int op, .int n, .str nm, .str fd, .row kl] = same [.int op, .int n, .str nm, .str fd, .row kl] zeroE from rfl)
    go_enter Tryz.func113, Tryz.ntmps113
    go_wp2_with fail
    refine (HSM.out _ (S0.out.on HW.out)).mono ?_
    rintro e w1 ⟨rfl, b1⟩
    have S1 := Lib.hid (S0.out.step b1)
    clear b1
    go_wp2_with fail
    go_ret
    exact ⟨by rw [HO.out]; rfl, S1.out.bel⟩
  | true =>
    have HO := Lib.hid (show placeW d true op [.int op, .int n, .str nm, .str fd, .row kl] = (wthn op 4 6 && okE d 48 [.int op, .int n, .str nm, .str fd, .row kl]) from rfl)
    obtain ⟨w2, hw2⟩ : ∃ w2, w2 = ((w.alloc (.cells #[.int .i64 d, .int .i64 ar] 51)).alloc (.cells #[.int .i64 op, .int .i64 n, .string nm, .string fd, .slice kla kl.length klc] 24)) := ⟨_, rfl⟩
    have S2 := Lib.hid (show Bx2 w (.cells #[.int .i64 d, .int .i64 ar] 51) (.cells #[.int .i64 op, .int .i64 n, .string nm, .string fd, .slice kla kl.length klc] 24) w2 from by rw [hw2]; exact S0.out)
    have g1 : ∀ d os, Calls Tryz.prog 100 #[.int .i64 op, .int .i64 4, .int .i64 6] (grow (redrawn w2 d) os) fun e w'' => e = .returned (.bool (wthn op 4 6)) ∧ ∃ p : Regrown, w'' = grow (redrawn w2 p.d) p.os := fun d os => Calls.regrown_of ((within_any op 4 6 _).mono fun e w' ⟨he, hw⟩ => ⟨he, below_same hw⟩)
    have g2 : ∀ dr os, Calls Tryz.prog 114 #[.agg #[.int .i64 d, .int .i64 ar]] (grow (redrawn w2 dr) os) fun e w'' => e = .returned (.agg #[.int .i64 d, .int .i64 0]) ∧ ∃ p : Regrown, w'' = grow (redrawn w2 p.d) p.os := fun dr os => Calls.regrown_of (outermost_any d ar _)
    have g3 : ∀ dr os, Calls Tryz.prog 25 #[.agg #[.int .i64 d, .int .i64 0], .agg #[.int .i64 op, .int .i64 n, .string nm, .string fd, .slice kla kl.length klc]] (grow (redrawn w2 dr) os) fun e w'' => e = .returned (.bool (okE d 48 [.int op, .int n, .str nm, .str fd, .row kl])) ∧ ∃ p : Regrown, w'' = grow (redrawn w2 p.d) p.os := fun dr os => Calls.regrown_of (HEX.out _ ((S2.out.on HW.out).trans ((below_regrown w2 dr os).mono (S2.out.on HW.out).size)))
    have G2 := Lib.hid g2
    have r0 := cellsRg S2.out.a
    have r1 := cellsRg S2.out.b
    have HW2 := Lib.hid hw2
    clear g2 hw2 HSM HEX
    generalize okE d 48 [.int op, .int n, .str nm, .str fd, .row kl] = rb at *
    cases hb : wthn op 4 6 with
    | false =>
      rw [hb] at g1 HO
      have G1 := Lib.hid g1
      clear hb g1 g3
      go_enter Tryz.func113, Tryz.ntmps113
      go_wp2_with fail
      rw [← HW2.out]
      refine wp_region_quiet_below (by kernel_rfl) (by kernel_rfl) ?_
      repeat (first | go_big_quiet_step ((with_reducible exact G1.out _ _)) | quiet_step ((with_reducible exact G1.out _ _)))
      refine wpQuiet_nil ?_
      intro _ hw'
      obtain ⟨⟨dq, osq⟩, hw''⟩ := hw'
      subst hw''
      have BQ := Lib.hid (S2.out.bel.trans ((below_regrown w2 dq osq).mono S2.out.bel.size))
      clear r0 r1
      go_wp2_with fail
      go_ret
      exact ⟨by rw [HO.out]; rfl, BQ.out⟩
    | true =>
      rw [hb] at g1 HO
      have G1 := Lib.hid g1
      have G3 := Lib.hid g3
      clear hb g1 g3
      go_enter Tryz.func113, Tryz.ntmps113
      go_wp2_with fail
      rw [← HW2.out]
      refine wp_region_quiet_below (by kernel_rfl) (by kernel_rfl) ?_
      repeat (first | go_big_quiet_step ((first | with_reducible exact G1.out _ _ | with_reducible exact G2.out _ _ | with_reducible exact G3.out _ _)) | quiet_step ((first | with_reducible exact G1.out _ _ | with_reducible exact G2.out _ _ | with_reducible exact G3.out _ _)))
      refine wpQuiet_nil ?_
      intro _ hw'
      obtain ⟨⟨dq, osq⟩, hw''⟩ := hw'
      subst hw''
      have BQ := Lib.hid (S2.out.bel.trans ((below_regrown w2 dq osq).mono S2.out.bel.size))
      clear r0 r1
      go_wp2_with fail
      go_ret
      exact ⟨by rw [HO.out]; rfl, BQ.out⟩
set_option maxRecDepth 100000 in
set_option maxHeartbeats 4000000 in
theorem blockWhere_any (w0 : World) (d : Int) (ar : Nat) (har : ar < 1000) (hd : d = 0 ∨ d = 1) (asked : Bool) (bd en : List (List D)) (bda : Option Addr) (bdc : Nat) (ena : Option Addr) (enc : Nat) (a_bd : At w0 (.slice bda bd.length bdc) (.row bd)) (t_bd : ∀ x ∈ bd, ShS x) (a_en : At w0 (.slice ena en.length enc) (.row en)) (t_en : ∀ x ∈ en, ShT x) (f : List D → Bool) (hf : asked = true → OkFn w0 75 (.agg #[.int .i64 d, .int .i64 ((ar + 1 : Nat) : Int)]) bd f) (w : World) (hW : Below w0.heap.size w0 w) :
    Calls Tryz.prog 115 #[.agg #[.int .i64 d, .int .i64 ar], .bool asked, .slice bda bd.length bdc, .slice ena en.length enc] w fun e w' => e = .returned (.bool (blockW asked bd en f)) ∧ Below w.heap.size w w' := by
  have S0 := Lib.hid (Bx1.start w (.cells #[.int .i64 d, .int .i64 ar] 51))
  have HW := Lib.hid hW
  have HD := Lib.hid hd
  have A_en := Lib.hid a_en
  have T_en := Lib.hid t_en
  have hl1 := a_bd.len_le
  have hl2 := a_en.len_le
  have eg := enters_of Tryz.func75 (by kernel_rfl) rfl
  cases asked with
  | false =>
    have HO := Lib.hid (show blockW false bd en f = (decide (bd.length = 0) && decide (en.length = 0)) from rfl)
    clear a_bd t_bd a_en t_en hf hW hd
    cases h1 : decide (bd.length = 0) with
    | false =>
      have h1' : ((bd.length : Int) == 0) = false := by have := of_decide_eq_false h1; rw [beq_eq_false_iff_ne]; omega
      have h1'' : (bd.length == 0) = false := by have := of_decide_eq_false h1; rw [beq_eq_false_iff_ne]; omega
      rw [h1] at HO
      clear h1
      go_enter Tryz.func115, Tryz.ntmps115
      go_wp2_with fail
      go_ret
      exact ⟨by rw [HO.out]; rfl, S0.out.bel⟩
    | true =>
      have h1' : ((bd.length : Int) == 0) = true := by have := of_decide_eq_true h1; rw [beq_iff_eq]; omega
      have h1'' : (bd.length == 0) = true := by have := of_decide_eq_true h1; rw [beq_iff_eq]; omega
      rw [h1] at HO
      clear h1
      cases h2 : decide (en.length = 0) with
      | false =>
        have h2' : ((en.length : Int) == 0) = false := by have := of_decide_eq_false h2; rw [beq_eq_false_iff_ne]; omega
        have h2'' : (en.length == 0) = false := by have := of_decide_eq_false h2; rw [beq_eq_false_iff_ne]; omega
        rw [h2] at HO
        clear h2
        go_enter Tryz.func115, Tryz.ntmps115
        go_wp2_with fail
        go_ret
        exact ⟨by rw [HO.out]; rfl, S0.out.bel⟩
      | true =>
        have h2' : ((en.length : Int) == 0) = true := by have := of_decide_eq_true h2; rw [beq_iff_eq]; omega
        have h2'' : (en.length == 0) = true := by have := of_decide_eq_true h2; rw [beq_iff_eq]; omega
        rw [h2] at HO
        clear h2
        go_enter Tryz.func115, Tryz.ntmps115
        go_wp2_with fail
        go_ret
        exact ⟨by rw [HO.out]; rfl, S0.out.bel⟩
  | true =>
    have HO := Lib.hid (show blockW true bd en f = (okAll bd f && okNs en) from rfl)
    have HAL := Lib.hid (fun (W : World) (hW : Below w0.heap.size w0 W) => allS_any w0 75 (.agg #[.int .i64 d, .int .i64 ((ar + 1 : Nat) : Int)]) f bda bd.length bdc bd a_bd t_bd (hf rfl) eg W hW)
    clear a_bd t_bd a_en t_en hf hW hd
    go_enter Tryz.func115, Tryz.ntmps115
    go_wp2_with fail
    refine (deeper_any d ar _ (by omega)).mono ?_
    rintro e w1 ⟨rfl, b1⟩
    have S1 := Lib.hid (S0.out.step b1)
    have cA := box_cells S1.out.a
    clear b1
    go_wp2_with fail
    refine (HAL.out _ (S1.out.on HW.out)).mono ?_
    rintro e w2 ⟨rfl, b2⟩
    have S2 := Lib.hid (S1.out.step b2)
    clear b2 cA
    have cA := box_cells S2.out.a
    cases h1 : okAll bd f with
    | false =>
      rw [h1] at HO
      clear h1
      go_wp2_with fail
      go_ret
      exact ⟨by rw [HO.out]; rfl, S2.out.bel⟩
    | true =>
      rw [h1] at HO
      clear h1
      go_wp2_with fail
      refine (notes1_any w0 d ar HD.out en ena enc A_en.out T_en.out _ 29 _ ((S2.out.step ((Below.refl _ _).alloc (Nat.le_refl _) (.cells #[.slice ena en.length enc] 29))).on HW.out) (heap_new _ _)).mono ?_
      rintro e w3 ⟨rfl, b3⟩
      have S3 := Lib.hid ((S2.out.step ((Below.refl _ _).alloc (Nat.le_refl _) (.cells #[.slice ena en.length enc] 29))).step b3)
      clear b3 cA
      generalize okNs en = r at *
      go_wp2_with fail
      go_ret
      exact ⟨by rw [HO.out]; rfl, S3.out.bel⟩
end Go.Proofs.YtciijpahjjoppaaGreat
end
section
namespace Go.Proofs.YtciijpahjjoppaaGreat
open Go.RowKit Go.Deep Go.Maps Go.Sort

theorem scall_least (op : Int) (h : scall op = true) : 1 ≤ sleast op := by
  have : op = 2 := by simpa [scall] using h
  subst this
  decide
def opD : List D → Int
  | .int op :: _ => op
  | _ => 0
def callFirst : List (List D) → Bool
  | x :: _ => opD x == 7
  | [] => false
noncomputable def okSx (d : Int) (f : List D → Bool) : List D → Bool
  | [.row m0, .row m1, .int op, .str nm, .int pop, .int pn, .str pnm, .str pfd, .row pl, .row ex, .bool dn, .bool mo, .row bd, .row el, .row en, .row e2] => sok op && ((okNs m0 && okNs m1) && (nameW d (scount op) nm && ((scount op || !dn) && (placeW d (splace op) pop [.int pop, .int pn, .str pnm, .str pfd, .row pl] && (wthn ex.length (sleast op) (smost op) && (okAll ex (okE d 48) && ((!scall op || callFirst ex) && (blockW (sbody op) bd en f && ((sother op || !mo) && blockW mo el e2 f)))))))))
  | _ => false
/-- What checker.stmt answers; k: how many may yet stand within. -/
noncomputable def okS (d : Int) : Nat → List D → Bool
  | 0, _ => false
  | k + 1, x => okSx d (okS d k) x
structure Bx3 (w : World) (p q : Obj) (r : Nat) (o : Obj) (W : World) : Prop where
  a : W.heap[w.heap.size]? = some p
  b : W.heap[w.heap.size + 1]? = some q
  c : W.heap[r]? = some o
  bel : Below w.heap.size w W
theorem Bx2.third {w : World} {p q : Obj} {W : World} (h : Bx2 w p q W) (o : Obj) : Bx3 w p q W.heap.size o (W.alloc o) := by
  have h1 := h.step ((Below.refl W.heap.size W).alloc (Nat.le_refl _) o)
  exact ⟨h1.a, h1.b, heap_new W o, h1.bel⟩
theorem Bx3.step {w : World} {p q o : Obj} {r : Nat} {W W' : World} (h : Bx3 w p q r o W) (b : Below W.heap.size W W') : Bx3 w p q r o W' :=
  ⟨(b.block _ (heap_lt h.a)).trans h.a, (b.block _ (heap_lt h.b)).trans h.b, (b.block _ (heap_lt h.c)).trans h.c, h.bel.trans (b.mono h.bel.size)⟩
theorem Bx3.on {w0 w : World} {p q o : Obj} {r : Nat} {W : World} (h : Bx3 w p q r o W) (k : Below w0.heap.size w0 w) : Below w0.heap.size w0 W := k.trans (h.bel.mono k.size)
/-- A call that answers v and leaves what was. -/
def Says (w0 : World) (F : Nat) (args : Array Value) (v : Value) : Prop := ∀ W, Below w0.heap.size w0 W → Calls Tryz.prog F args W fun e W' => e = .returned v ∧ Below W.heap.size W W'
theorem Says.rg {w0 : World} {F : Nat} {args : Array Value} {v : Value} (h : Says w0 F args v) {w2 : World} (k : Below w0.heap.size w0 w2) : ∀ d os, Calls Tryz.prog F args (grow (redrawn w2 d) os) fun e w'' => e = .returned v ∧ ∃ p : Regrown, w'' = grow (redrawn w2 p.d) p.os :=
  fun d os => Calls.regrown_of (h _ (k.trans ((below_regrown w2 d os).mono k.size)))
end Go.Proofs.YtciijpahjjoppaaGreat
end
section
namespace Go.Proofs.YtciijpahjjoppaaGreat
open Go.RowKit

def opsL75 : List Oper :=
  ⟨some 13, .move (.tmp 6), 4, "check.go:184", #[], none⟩ ::
  ⟨some 14, .move (.tmp 13), 4, "check.go:184", #[⟨0, .data⟩], none⟩ ::
  ⟨some 15, .load 51 (.tmp 2), 51, "check.go:184", #[⟨1, .guard⟩], some (1, true)⟩ ::
  ⟨some 16, .call { callee := .value (.func 60), args := #[.tmp 15], argTypes := #[51] }, 4, "check.go:184", #[⟨2, .data⟩, ⟨1, .chain⟩, ⟨1, .guard⟩], some (1, true)⟩ ::
  ⟨some 17, .unOp .not 4 (.tmp 16), 4, "check.go:184", #[⟨3, .data⟩, ⟨1, .guard⟩], some (1, true)⟩ ::
  ⟨some 18, .pick (.tmp 14) (.tmp 17) (.const (.bool false)), 4, "check.go:184", #[⟨1, .data⟩, ⟨4, .data⟩], none⟩ ::
  ⟨some 19, .move (.tmp 18), 4, "check.go:184", #[⟨5, .data⟩, ⟨3, .chain⟩], none⟩ ::
  ⟨some 20, .load 51 (.tmp 2), 51, "check.go:184", #[⟨6, .guard⟩], some (6, true)⟩ ::
  ⟨some 21, .fieldAddr 84 (.tmp 3) 0, 0, "check.go:184", #[⟨6, .guard⟩], some (6, true)⟩ ::
  ⟨some 22, .load 59 (.tmp 21), 59, "check.go:184", #[⟨8, .data⟩, ⟨6, .guard⟩], some (6, true)⟩ ::
  ⟨some 23, .call { callee := .value (.func 105), args := #[.tmp 20, .tmp 22], argTypes := #[51, 59] }, 4, "check.go:184", #[⟨7, .data⟩, ⟨9, .data⟩, ⟨6, .chain⟩, ⟨6, .guard⟩], some (6, true)⟩ ::
  ⟨some 24, .pick (.tmp 19) (.tmp 23) (.const (.bool false)), 4, "check.go:184", #[⟨6, .data⟩, ⟨10, .data⟩], none⟩ ::
  ⟨some 25, .move (.tmp 24), 4, "check.go:184", #[⟨11, .data⟩, ⟨10, .chain⟩], none⟩ ::
  ⟨some 26, .load 51 (.tmp 2), 51, "check.go:184", #[⟨12, .guard⟩], some (12, true)⟩ ::
  ⟨some 27, .fieldAddr 155 (.tmp 5) 6, 0, "check.go:184", #[⟨12, .guard⟩], some (12, true)⟩ ::
  ⟨some 28, .load 4 (.tmp 27), 4, "check.go:184", #[⟨14, .data⟩, ⟨12, .guard⟩], some (12, true)⟩ ::
  ⟨some 29, .fieldAddr 84 (.tmp 3) 2, 0, "check.go:184", #[⟨12, .guard⟩], some (12, true)⟩ ::
  ⟨some 30, .load 9 (.tmp 29), 9, "check.go:184", #[⟨16, .data⟩, ⟨12, .guard⟩], some (12, true)⟩ ::
  ⟨some 31, .call { callee := .value (.func 63), args := #[.tmp 26, .tmp 28, .tmp 30], argTypes := #[51, 4, 9] }, 4, "check.go:185", #[⟨13, .data⟩, ⟨15, .data⟩, ⟨17, .data⟩, ⟨12, .chain⟩, ⟨12, .guard⟩], some (12, true)⟩ ::
  ⟨some 32, .pick (.tmp 25) (.tmp 31) (.const (.bool false)), 4, "check.go:184", #[⟨12, .data⟩, ⟨18, .data⟩], none⟩ ::
  ⟨some 33, .move (.tmp 32), 4, "check.go:184", #[⟨19, .data⟩, ⟨18, .chain⟩], none⟩ ::
  ⟨some 34, .fieldAddr 155 (.tmp 5) 6, 0, "check.go:184", #[⟨20, .guard⟩], some (20, true)⟩ ::
  ⟨some 35, .load 4 (.tmp 34), 4, "check.go:184", #[⟨21, .data⟩, ⟨20, .guard⟩], some (20, true)⟩ ::
  ⟨some 36, .move (.tmp 35), 4, "check.go:184", #[⟨22, .data⟩, ⟨20, .chain⟩, ⟨20, .guard⟩], some (20, true)⟩ ::
  ⟨some 37, .fieldAddr 84 (.tmp 3) 5, 0, "check.go:184", #[⟨23, .guard⟩], some (23, false)⟩ ::
  ⟨some 38, .load 4 (.tmp 37), 4, "check.go:184", #[⟨24, .data⟩, ⟨23, .guard⟩], some (23, false)⟩ ::
  ⟨some 39, .unOp .not 4 (.tmp 38), 4, "check.go:184", #[⟨25, .data⟩, ⟨23, .guard⟩], some (23, false)⟩ ::
  ⟨some 40, .pick (.tmp 36) (.const (.bool true)) (.tmp 39), 4, "check.go:184", #[⟨23, .data⟩, ⟨26, .data⟩, ⟨20, .guard⟩], some (20, true)⟩ ::
  ⟨some 41, .pick (.tmp 33) (.tmp 40) (.const (.bool false)), 4, "check.go:184", #[⟨20, .data⟩, ⟨27, .data⟩], none⟩ ::
  ⟨some 42, .move (.tmp 41), 4, "check.go:184", #[⟨28, .data⟩, ⟨23, .chain⟩], none⟩ ::
  ⟨some 43, .load 51 (.tmp 2), 51, "check.go:184", #[⟨29, .guard⟩], some (29, true)⟩ ::
  ⟨some 44, .fieldAddr 155 (.tmp 5) 0, 0, "check.go:184", #[⟨29, .guard⟩], some (29, true)⟩ ::
  ⟨some 45, .load 4 (.tmp 44), 4, "check.go:184", #[⟨31, .data⟩, ⟨29, .guard⟩], some (29, true)⟩ ::
  ⟨some 46, .fieldAddr 84 (.tmp 3) 3, 0, "check.go:184", #[⟨29, .guard⟩], some (29, true)⟩ ::
  ⟨some 47, .load 24 (.tmp 46), 24, "check.go:184", #[⟨33, .data⟩, ⟨29, .guard⟩], some (29, true)⟩ ::
  ⟨some 48, .call { callee := .value (.func 113), args := #[.tmp 43, .tmp 45, .tmp 47], argTypes := #[51, 4, 24] }, 4, "check.go:186", #[⟨30, .data⟩, ⟨32, .data⟩, ⟨34, .data⟩, ⟨29, .chain⟩, ⟨29, .guard⟩], some (29, true)⟩ ::
  ⟨some 49, .pick (.tmp 42) (.tmp 48) (.const (.bool false)), 4, "check.go:184", #[⟨29, .data⟩, ⟨35, .data⟩], none⟩ ::
  ⟨some 50, .move (.tmp 49), 4, "check.go:184", #[⟨36, .data⟩, ⟨35, .chain⟩], none⟩ ::
  ⟨some 51, .fieldAddr 84 (.tmp 3) 4, 0, "check.go:184", #[⟨37, .guard⟩], some (37, true)⟩ ::
  ⟨some 52, .load 22 (.tmp 51), 22, "check.go:184", #[⟨38, .data⟩, ⟨37, .guard⟩], some (37, true)⟩ ::
  ⟨some 53, .call { callee := .builtin .len, args := #[.tmp 52], argTypes := #[22] }, 3, "check.go:184", #[⟨39, .data⟩, ⟨37, .guard⟩], some (37, true)⟩ ::
  ⟨some 54, .fieldAddr 155 (.tmp 5) 1, 0, "check.go:184", #[⟨37, .guard⟩], some (37, true)⟩ ::
  ⟨some 55, .load 3 (.tmp 54), 3, "check.go:184", #[⟨41, .data⟩, ⟨37, .guard⟩], some (37, true)⟩ ::
  ⟨some 56, .fieldAddr 155 (.tmp 5) 2, 0, "check.go:184", #[⟨37, .guard⟩], some (37, true)⟩ ::
  ⟨some 57, .load 3 (.tmp 56), 3, "check.go:184", #[⟨43, .data⟩, ⟨37, .guard⟩], some (37, true)⟩ ::
  ⟨some 58, .call { callee := .value (.func 100), args := #[.tmp 53, .tmp 55, .tmp 57], argTypes := #[3, 3, 3] }, 4, "check.go:187", #[⟨40, .data⟩, ⟨42, .data⟩, ⟨44, .data⟩, ⟨37, .chain⟩, ⟨37, .guard⟩], some (37, true)⟩ ::
  ⟨some 59, .pick (.tmp 50) (.tmp 58) (.const (.bool false)), 4, "check.go:184", #[⟨37, .data⟩, ⟨45, .data⟩], none⟩ ::
  ⟨some 60, .move (.tmp 59), 4, "check.go:184", #[⟨46, .data⟩, ⟨45, .chain⟩], none⟩ ::
  ⟨some 61, .fieldAddr 84 (.tmp 3) 4, 0, "check.go:184", #[⟨47, .guard⟩], some (47, true)⟩ ::
  ⟨some 62, .load 22 (.tmp 61), 22, "check.go:184", #[⟨48, .data⟩, ⟨47, .guard⟩], some (47, true)⟩ ::
  ⟨some 63, .load 51 (.tmp 2), 51, "check.go:184", #[⟨47, .guard⟩], some (47, true)⟩ ::
  ⟨some 64, .call { callee := .value (.func 114), args := #[.tmp 63], argTypes := #[51] }, 51, "check.go:187", #[⟨50, .data⟩, ⟨47, .chain⟩, ⟨47, .guard⟩], some (47, true)⟩ ::
  ⟨some 65, .makeFunc (.func 25) #[.tmp 64] #[], 53, "check.go:184", #[⟨51, .data⟩, ⟨47, .guard⟩], some (47, true)⟩ ::
  ⟨some 66, .call { callee := .value (.func 64), args := #[.tmp 62, .tmp 65], argTypes := #[22, 53] }, 4, "check.go:187", #[⟨49, .data⟩, ⟨52, .data⟩, ⟨51, .chain⟩, ⟨47, .guard⟩], some (47, true)⟩ ::
  ⟨some 67, .pick (.tmp 60) (.tmp 66) (.const (.bool false)), 4, "check.go:184", #[⟨47, .data⟩, ⟨53, .data⟩], none⟩ ::
  ⟨some 68, .move (.tmp 67), 4, "check.go:184", #[⟨54, .data⟩, ⟨53, .chain⟩], none⟩ ::
  ⟨some 69, .fieldAddr 155 (.tmp 5) 3, 0, "check.go:184", #[⟨55, .guard⟩], some (55, true)⟩ ::
  ⟨some 70, .load 4 (.tmp 69), 4, "check.go:184", #[⟨56, .data⟩, ⟨55, .guard⟩], some (55, true)⟩ ::
  ⟨some 71, .unOp .not 4 (.tmp 70), 4, "check.go:184", #[⟨57, .data⟩, ⟨55, .guard⟩], some (55, true)⟩ ::
  ⟨some 72, .move (.tmp 71), 4, "check.go:184", #[⟨58, .data⟩, ⟨55, .chain⟩, ⟨55, .guard⟩], some (55, true)⟩ ::
  ⟨some 73, .fieldAddr 84 (.tmp 3) 4, 0, "check.go:184", #[⟨59, .guard⟩], some (59, false)⟩ ::
  ⟨some 74, .load 22 (.tmp 73), 22, "check.go:184", #[⟨60, .data⟩, ⟨59, .guard⟩], some (59, false)⟩ ::
  ⟨some 75, .indexAddr 22 (.tmp 74) (.const (.int .i64 0)), 0, "check.go:184", #[⟨61, .data⟩, ⟨59, .guard⟩], some (59, false)⟩ ::
  ⟨some 76, .fieldAddr 24 (.tmp 75) 0, 0, "check.go:184", #[⟨62, .data⟩, ⟨59, .guard⟩], some (59, false)⟩ ::
  ⟨some 77, .load 3 (.tmp 76), 3, "check.go:184", #[⟨63, .data⟩, ⟨59, .guard⟩], some (59, false)⟩ ::
  ⟨some 78, .binOp .eql 3 (.tmp 77) (.const (.int .i64 7)) 3, 4, "check.go:184", #[⟨64, .data⟩, ⟨59, .guard⟩], some (59, false)⟩ ::
  ⟨some 79, .pick (.tmp 72) (.const (.bool true)) (.tmp 78), 4, "check.go:184", #[⟨59, .data⟩, ⟨65, .data⟩, ⟨55, .guard⟩], some (55, true)⟩ ::
  ⟨some 80, .pick (.tmp 68) (.tmp 79) (.const (.bool false)), 4, "check.go:184", #[⟨55, .data⟩, ⟨66, .data⟩], none⟩ ::
  ⟨some 81, .move (.tmp 80), 4, "check.go:184", #[⟨67, .data⟩, ⟨59, .chain⟩], none⟩ ::
  ⟨some 82, .load 51 (.tmp 2), 51, "check.go:184", #[⟨68, .guard⟩], some (68, true)⟩ ::
  ⟨some 83, .fieldAddr 155 (.tmp 5) 4, 0, "check.go:184", #[⟨68, .guard⟩], some (68, true)⟩ ::
  ⟨some 84, .load 4 (.tmp 83), 4, "check.go:184", #[⟨70, .data⟩, ⟨68, .guard⟩], some (68, true)⟩ ::
  ⟨some 85, .fieldAddr 84 (.tmp 3) 7, 0, "check.go:184", #[⟨68, .guard⟩], some (68, true)⟩ ::
  ⟨some 86, .load 33 (.tmp 85), 33, "check.go:184", #[⟨72, .data⟩, ⟨68, .guard⟩], some (68, true)⟩ ::
  ⟨some 87, .fieldAddr 84 (.tmp 3) 9, 0, "check.go:184", #[⟨68, .guard⟩], some (68, true)⟩ ::
  ⟨some 88, .load 29 (.tmp 87), 29, "check.go:184", #[⟨74, .data⟩, ⟨68, .guard⟩], some (68, true)⟩ ::
  ⟨some 89, .call { callee := .value (.func 115), args := #[.tmp 82, .tmp 84, .tmp 86, .tmp 88], argTypes := #[51, 4, 33, 29] }, 4, "check.go:189", #[⟨69, .data⟩, ⟨71, .data⟩, ⟨73, .data⟩, ⟨75, .data⟩, ⟨68, .chain⟩, ⟨68, .guard⟩], some (68, true)⟩ ::
  ⟨some 90, .pick (.tmp 81) (.tmp 89) (.const (.bool false)), 4, "check.go:184", #[⟨68, .data⟩, ⟨76, .data⟩], none⟩ ::
  ⟨some 91, .move (.tmp 90), 4, "check.go:184", #[⟨77, .data⟩, ⟨76, .chain⟩], none⟩ ::
  ⟨some 92, .fieldAddr 155 (.tmp 5) 5, 0, "check.go:184", #[⟨78, .guard⟩], some (78, true)⟩ ::
  ⟨some 93, .load 4 (.tmp 92), 4, "check.go:184", #[⟨79, .data⟩, ⟨78, .guard⟩], some (78, true)⟩ ::
  ⟨some 94, .move (.tmp 93), 4, "check.go:184", #[⟨80, .data⟩, ⟨78, .chain⟩, ⟨78, .guard⟩], some (78, true)⟩ ::
  ⟨some 95, .fieldAddr 84 (.tmp 3) 6, 0, "check.go:184", #[⟨81, .guard⟩], some (81, false)⟩ ::
  ⟨some 96, .load 4 (.tmp 95), 4, "check.go:184", #[⟨82, .data⟩, ⟨81, .guard⟩], some (81, false)⟩ ::
  ⟨some 97, .unOp .not 4 (.tmp 96), 4, "check.go:184", #[⟨83, .data⟩, ⟨81, .guard⟩], some (81, false)⟩ ::
  ⟨some 98, .pick (.tmp 94) (.const (.bool true)) (.tmp 97), 4, "check.go:184", #[⟨81, .data⟩, ⟨84, .data⟩, ⟨78, .guard⟩], some (78, true)⟩ ::
  ⟨some 99, .pick (.tmp 91) (.tmp 98) (.const (.bool false)), 4, "check.go:184", #[⟨78, .data⟩, ⟨85, .data⟩], none⟩ ::
  ⟨some 100, .move (.tmp 99), 4, "check.go:184", #[⟨86, .data⟩, ⟨81, .chain⟩], none⟩ ::
  ⟨some 101, .load 51 (.tmp 2), 51, "check.go:184", #[⟨87, .guard⟩], some (87, true)⟩ ::
  ⟨some 102, .fieldAddr 84 (.tmp 3) 6, 0, "check.go:184", #[⟨87, .guard⟩], some (87, true)⟩ ::
  ⟨some 103, .load 4 (.tmp 102), 4, "check.go:184", #[⟨89, .data⟩, ⟨87, .guard⟩], some (87, true)⟩ ::
  ⟨some 104, .fieldAddr 84 (.tmp 3) 8, 0, "check.go:184", #[⟨87, .guard⟩], some (87, true)⟩ ::
  ⟨some 105, .load 33 (.tmp 104), 33, "check.go:184", #[⟨91, .data⟩, ⟨87, .guard⟩], some (87, true)⟩ ::
  ⟨some 106, .fieldAddr 84 (.tmp 3) 10, 0, "check.go:184", #[⟨87, .guard⟩], some (87, true)⟩ ::
  ⟨some 107, .load 29 (.tmp 106), 29, "check.go:184", #[⟨93, .data⟩, ⟨87, .guard⟩], some (87, true)⟩ ::
  ⟨some 108, .call { callee := .value (.func 115), args := #[.tmp 101, .tmp 103, .tmp 105, .tmp 107], argTypes := #[51, 4, 33, 29] }, 4, "check.go:190", #[⟨88, .data⟩, ⟨90, .data⟩, ⟨92, .data⟩, ⟨94, .data⟩, ⟨87, .chain⟩, ⟨87, .guard⟩], some (87, true)⟩ ::
  ⟨some 109, .pick (.tmp 100) (.tmp 108) (.const (.bool false)), 4, "check.go:184", #[⟨87, .data⟩, ⟨95, .data⟩], none⟩ ::
  ⟨some 4, .assign (.tmp 109), 4, "check.go:184", ([⟨96, .data⟩, ⟨95, .chain⟩, ⟨0, .phase⟩, ⟨1, .phase⟩, ⟨2, .phase⟩, ⟨3, .phase⟩, ⟨4, .phase⟩, ⟨5, .phase⟩, ⟨6, .phase⟩, ⟨7, .phase⟩, ⟨8, .phase⟩, ⟨9, .phase⟩, ⟨10, .phase⟩, ⟨11, .phase⟩, ⟨12, .phase⟩, ⟨13, .phase⟩, ⟨14, .phase⟩, ⟨15, .phase⟩, ⟨16, .phase⟩, ⟨17, .phase⟩, ⟨18, .phase⟩, ⟨19, .phase⟩, ⟨20, .phase⟩, ⟨21, .phase⟩, ⟨22, .phase⟩, ⟨23, .phase⟩, ⟨24, .phase⟩, ⟨25, .phase⟩, ⟨26, .phase⟩, ⟨27, .phase⟩, ⟨28, .phase⟩, ⟨29, .phase⟩, ⟨30, .phase⟩, ⟨31, .phase⟩, ⟨32, .phase⟩, ⟨33, .phase⟩, ⟨34, .phase⟩, ⟨35, .phase⟩, ⟨36, .phase⟩, ⟨37, .phase⟩, ⟨38, .phase⟩, ⟨39, .phase⟩, ⟨40, .phase⟩, ⟨41, .phase⟩, ⟨42, .phase⟩, ⟨43, .phase⟩, ⟨44, .phase⟩, ⟨45, .phase⟩, ⟨46, .phase⟩].append [⟨47, .phase⟩, ⟨48, .phase⟩, ⟨49, .phase⟩, ⟨50, .phase⟩, ⟨51, .phase⟩, ⟨52, .phase⟩, ⟨53, .phase⟩, ⟨54, .phase⟩, ⟨55, .phase⟩, ⟨56, .phase⟩, ⟨57, .phase⟩, ⟨58, .phase⟩, ⟨59, .phase⟩, ⟨60, .phase⟩, ⟨61, .phase⟩, ⟨62, .phase⟩, ⟨63, .phase⟩, ⟨64, .phase⟩, ⟨65, .phase⟩, ⟨66, .phase⟩, ⟨67, .phase⟩, ⟨68, .phase⟩, ⟨69, .phase⟩, ⟨70, .phase⟩, ⟨71, .phase⟩, ⟨72, .phase⟩, ⟨73, .phase⟩, ⟨74, .phase⟩, ⟨75, .phase⟩, ⟨76, .phase⟩, ⟨77, .phase⟩, ⟨78, .phase⟩, ⟨79, .phase⟩, ⟨80, .phase⟩, ⟨81, .phase⟩, ⟨82, .phase⟩, ⟨83, .phase⟩, ⟨84, .phase⟩, ⟨85, .phase⟩, ⟨86, .phase⟩, ⟨87, .phase⟩, ⟨88, .phase⟩, ⟨89, .phase⟩, ⟨90, .phase⟩, ⟨91, .phase⟩, ⟨92, .phase⟩, ⟨93, .phase⟩, ⟨94, .phase⟩, ⟨95, .phase⟩, ⟨96, .phase⟩]).toArray, none⟩ :: []
def ops75 : Array Oper := opsL75.toArray
theorem lexStep {md : Region.Mode} {ops : Array Oper} {fuel k : Nat} {L L' : Array Bool} (h1 : ((Region.ready md ops L).contains k && Region.free md ops L k) = true) (h2 : L.setIfInBounds k true = L') (h3 : Region.lexFrom md ops fuel (k + 1) L' = true) : Region.lexFrom md ops (fuel + 1) k L = true := by
  subst h2
  unfold Region.lexFrom
  rw [h1, h3]
  rfl
def lk (n k : Nat) : Array Bool := (List.replicate k true ++ List.replicate (n - k) false).toArray
theorem lx75_0 : ((Region.ready .any ops75 (lk 98 0)).contains 0 && Region.free .any ops75 (lk 98 0) 0) = true := by kernel_rfl
theorem lx75_1 : ((Region.ready .any ops75 (lk 98 1)).contains 1 && Region.free .any ops75 (lk 98 1) 1) = true := by kernel_rfl
theorem lx75_2 : ((Region.ready .any ops75 (lk 98 2)).contains 2 && Region.free .any ops75 (lk 98 2) 2) = true := by kernel_rfl
theorem lx75_3 : ((Region.ready .any ops75 (lk 98 3)).contains 3 && Region.free .any ops75 (lk 98 3) 3) = true := by kernel_rfl
theorem lx75_4 : ((Region.ready .any ops75 (lk 98 4)).contains 4 && Region.free .any ops75 (lk 98 4) 4) = true := by kernel_rfl
theorem lx75_5 : ((Region.ready .any ops75 (lk 98 5)).contains 5 && Region.free .any ops75 (lk 98 5) 5) = true := by kernel_rfl
theorem lx75_6 : ((Region.ready .any ops75 (lk 98 6)).contains 6 && Region.free .any ops75 (lk 98 6) 6) = true := by kernel_rfl
theorem lx75_7 : ((Region.ready .any ops75 (lk 98 7)).contains 7 && Region.free .any ops75 (lk 98 7) 7) = true := by kernel_rfl
theorem lx75_8 : ((Region.ready .any ops75 (lk 98 8)).contains 8 && Region.free .any ops75 (lk 98 8) 8) = true := by kernel_rfl
theorem lx75_9 : ((Region.ready .any ops75 (lk 98 9)).contains 9 && Region.free .any ops75 (lk 98 9) 9) = true := by kernel_rfl
theorem lx75_10 : ((Region.ready .any ops75 (lk 98 10)).contains 10 && Region.free .any ops75 (lk 98 10) 10) = true := by kernel_rfl
theorem lx75_11 : ((Region.ready .any ops75 (lk 98 11)).contains 11 && Region.free .any ops75 (lk 98 11) 11) = true := by kernel_rfl
theorem lx75_12 : ((Region.ready .any ops75 (lk 98 12)).contains 12 && Region.free .any ops75 (lk 98 12) 12) = true := by kernel_rfl
theorem lx75_13 : ((Region.ready .any ops75 (lk 98 13)).contains 13 && Region.free .any ops75 (lk 98 13) 13) = true := by kernel_rfl
theorem lx75_14 : ((Region.ready .any ops75 (lk 98 14)).contains 14 && Region.free .any ops75 (lk 98 14) 14) = true := by kernel_rfl
theorem lx75_15 : ((Region.ready .any ops75 (lk 98 15)).contains 15 && Region.free .any ops75 (lk 98 15) 15) = true := by kernel_rfl
theorem lx75_16 : ((Region.ready .any ops75 (lk 98 16)).contains 16 && Region.free .any ops75 (lk 98 16) 16) = true := by kernel_rfl
theorem lx75_17 : ((Region.ready .any ops75 (lk 98 17)).contains 17 && Region.free .any ops75 (lk 98 17) 17) = true := by kernel_rfl
theorem lx75_18 : ((Region.ready .any ops75 (lk 98 18)).contains 18 && Region.free .any ops75 (lk 98 18) 18) = true := by kernel_rfl
theorem lx75_19 : ((Region.ready .any ops75 (lk 98 19)).contains 19 && Region.free .any ops75 (lk 98 19) 19) = true := by kernel_rfl
theorem lx75_20 : ((Region.ready .any ops75 (lk 98 20)).contains 20 && Region.free .any ops75 (lk 98 20) 20) = true := by kernel_rfl
theorem lx75_21 : ((Region.ready .any ops75 (lk 98 21)).contains 21 && Region.free .any ops75 (lk 98 21) 21) = true := by kernel_rfl
theorem lx75_22 : ((Region.ready .any ops75 (lk 98 22)).contains 22 && Region.free .any ops75 (lk 98 22) 22) = true := by kernel_rfl
theorem lx75_23 : ((Region.ready .any ops75 (lk 98 23)).contains 23 && Region.free .any ops75 (lk 98 23) 23) = true := by kernel_rfl
theorem lx75_24 : ((Region.ready .any ops75 (lk 98 24)).contains 24 && Region.free .any ops75 (lk 98 24) 24) = true := by kernel_rfl
theorem lx75_25 : ((Region.ready .any ops75 (lk 98 25)).contains 25 && Region.free .any ops75 (lk 98 25) 25) = true := by kernel_rfl
theorem lx75_26 : ((Region.ready .any ops75 (lk 98 26)).contains 26 && Region.free .any ops75 (lk 98 26) 26) = true := by kernel_rfl
theorem lx75_27 : ((Region.ready .any ops75 (lk 98 27)).contains 27 && Region.free .any ops75 (lk 98 27) 27) = true := by kernel_rfl
theorem lx75_28 : ((Region.ready .any ops75 (lk 98 28)).contains 28 && Region.free .any ops75 (lk 98 28) 28) = true := by kernel_rfl
theorem lx75_29 : ((Region.ready .any ops75 (lk 98 29)).contains 29 && Region.free .any ops75 (lk 98 29) 29) = true := by kernel_rfl
theorem lx75_30 : ((Region.ready .any ops75 (lk 98 30)).contains 30 && Region.free .any ops75 (lk 98 30) 30) = true := by kernel_rfl
theorem lx75_31 : ((Region.ready .any ops75 (lk 98 31)).contains 31 && Region.free .any ops75 (lk 98 31) 31) = true := by kernel_rfl
theorem lx75_32 : ((Region.ready .any ops75 (lk 98 32)).contains 32 && Region.free .any ops75 (lk 98 32) 32) = true := by kernel_rfl
theorem lx75_33 : ((Region.ready .any ops75 (lk 98 33)).contains 33 && Region.free .any ops75 (lk 98 33) 33) = true := by kernel_rfl
theorem lx75_34 : ((Region.ready .any ops75 (lk 98 34)).contains 34 && Region.free .any ops75 (lk 98 34) 34) = true := by kernel_rfl
theorem lx75_35 : ((Region.ready .any ops75 (lk 98 35)).contains 35 && Region.free .any ops75 (lk 98 35) 35) = true := by kernel_rfl
theorem lx75_36 : ((Region.ready .any ops75 (lk 98 36)).contains 36 && Region.free .any ops75 (lk 98 36) 36) = true := by kernel_rfl
theorem lx75_37 : ((Region.ready .any ops75 (lk 98 37)).contains 37 && Region.free .any ops75 (lk 98 37) 37) = true := by kernel_rfl
theorem lx75_38 : ((Region.ready .any ops75 (lk 98 38)).contains 38 && Region.free .any ops75 (lk 98 38) 38) = true := by kernel_rfl
theorem lx75_39 : ((Region.ready .any ops75 (lk 98 39)).contains 39 && Region.free .any ops75 (lk 98 39) 39) = true := by kernel_rfl
theorem lx75_40 : ((Region.ready .any ops75 (lk 98 40)).contains 40 && Region.free .any ops75 (lk 98 40) 40) = true := by kernel_rfl
theorem lx75_41 : ((Region.ready .any ops75 (lk 98 41)).contains 41 && Region.free .any ops75 (lk 98 41) 41) = true := by kernel_rfl
theorem lx75_42 : ((Region.ready .any ops75 (lk 98 42)).contains 42 && Region.free .any ops75 (lk 98 42) 42) = true := by kernel_rfl
theorem lx75_43 : ((Region.ready .any ops75 (lk 98 43)).contains 43 && Region.free .any ops75 (lk 98 43) 43) = true := by kernel_rfl
theorem lx75_44 : ((Region.ready .any ops75 (lk 98 44)).contains 44 && Region.free .any ops75 (lk 98 44) 44) = true := by kernel_rfl
theorem lx75_45 : ((Region.ready .any ops75 (lk 98 45)).contains 45 && Region.free .any ops75 (lk 98 45) 45) = true := by kernel_rfl
theorem lx75_46 : ((Region.ready .any ops75 (lk 98 46)).contains 46 && Region.free .any ops75 (lk 98 46) 46) = true := by kernel_rfl
theorem lx75_47 : ((Region.ready .any ops75 (lk 98 47)).contains 47 && Region.free .any ops75 (lk 98 47) 47) = true := by kernel_rfl
theorem lx75_48 : ((Region.ready .any ops75 (lk 98 48)).contains 48 && Region.free .any ops75 (lk 98 48) 48) = true := by kernel_rfl
theorem lx75_49 : ((Region.ready .any ops75 (lk 98 49)).contains 49 && Region.free .any ops75 (lk 98 49) 49) = true := by kernel_rfl
theorem lx75_50 : ((Region.ready .any ops75 (lk 98 50)).contains 50 && Region.free .any ops75 (lk 98 50) 50) = true := by kernel_rfl
theorem lx75_51 : ((Region.ready .any ops75 (lk 98 51)).contains 51 && Region.free .any ops75 (lk 98 51) 51) = true := by kernel_rfl
theorem lx75_52 : ((Region.ready .any ops75 (lk 98 52)).contains 52 && Region.free .any ops75 (lk 98 52) 52) = true := by kernel_rfl
theorem lx75_53 : ((Region.ready .any ops75 (lk 98 53)).contains 53 && Region.free .any ops75 (lk 98 53) 53) = true := by kernel_rfl
theorem lx75_54 : ((Region.ready .any ops75 (lk 98 54)).contains 54 && Region.free .any ops75 (lk 98 54) 54) = true := by kernel_rfl
theorem lx75_55 : ((Region.ready .any ops75 (lk 98 55)).contains 55 && Region.free .any ops75 (lk 98 55) 55) = true := by kernel_rfl
theorem lx75_56 : ((Region.ready .any ops75 (lk 98 56)).contains 56 && Region.free .any ops75 (lk 98 56) 56) = true := by kernel_rfl
theorem lx75_57 : ((Region.ready .any ops75 (lk 98 57)).contains 57 && Region.free .any ops75 (lk 98 57) 57) = true := by kernel_rfl
theorem lx75_58 : ((Region.ready .any ops75 (lk 98 58)).contains 58 && Region.free .any ops75 (lk 98 58) 58) = true := by kernel_rfl
theorem lx75_59 : ((Region.ready .any ops75 (lk 98 59)).contains 59 && Region.free .any ops75 (lk 98 59) 59) = true := by kernel_rfl
theorem lx75_60 : ((Region.ready .any ops75 (lk 98 60)).contains 60 && Region.free .any ops75 (lk 98 60) 60) = true := by kernel_rfl
theorem lx75_61 : ((Region.ready .any ops75 (lk 98 61)).contains 61 && Region.free .any ops75 (lk 98 61) 61) = true := by kernel_rfl
theorem lx75_62 : ((Region.ready .any ops75 (lk 98 62)).contains 62 && Region.free .any ops75 (lk 98 62) 62) = true := by kernel_rfl
theorem lx75_63 : ((Region.ready .any ops75 (lk 98 63)).contains 63 && Region.free .any ops75 (lk 98 63) 63) = true := by kernel_rfl
theorem lx75_64 : ((Region.ready .any ops75 (lk 98 64)).contains 64 && Region.free .any ops75 (lk 98 64) 64) = true := by kernel_rfl
theorem lx75_65 : ((Region.ready .any ops75 (lk 98 65)).contains 65 && Region.free .any ops75 (lk 98 65) 65) = true := by kernel_rfl
theorem lx75_66 : ((Region.ready .any ops75 (lk 98 66)).contains 66 && Region.free .any ops75 (lk 98 66) 66) = true := by kernel_rfl
theorem lx75_67 : ((Region.ready .any ops75 (lk 98 67)).contains 67 && Region.free .any ops75 (lk 98 67) 67) = true := by kernel_rfl
theorem lx75_68 : ((Region.ready .any ops75 (lk 98 68)).contains 68 && Region.free .any ops75 (lk 98 68) 68) = true := by kernel_rfl
theorem lx75_69 : ((Region.ready .any ops75 (lk 98 69)).contains 69 && Region.free .any ops75 (lk 98 69) 69) = true := by kernel_rfl
theorem lx75_70 : ((Region.ready .any ops75 (lk 98 70)).contains 70 && Region.free .any ops75 (lk 98 70) 70) = true := by kernel_rfl
theorem lx75_71 : ((Region.ready .any ops75 (lk 98 71)).contains 71 && Region.free .any ops75 (lk 98 71) 71) = true := by kernel_rfl
theorem lx75_72 : ((Region.ready .any ops75 (lk 98 72)).contains 72 && Region.free .any ops75 (lk 98 72) 72) = true := by kernel_rfl
theorem lx75_73 : ((Region.ready .any ops75 (lk 98 73)).contains 73 && Region.free .any ops75 (lk 98 73) 73) = true := by kernel_rfl
theorem lx75_74 : ((Region.ready .any ops75 (lk 98 74)).contains 74 && Region.free .any ops75 (lk 98 74) 74) = true := by kernel_rfl
theorem lx75_75 : ((Region.ready .any ops75 (lk 98 75)).contains 75 && Region.free .any ops75 (lk 98 75) 75) = true := by kernel_rfl
theorem lx75_76 : ((Region.ready .any ops75 (lk 98 76)).contains 76 && Region.free .any ops75 (lk 98 76) 76) = true := by kernel_rfl
theorem lx75_77 : ((Region.ready .any ops75 (lk 98 77)).contains 77 && Region.free .any ops75 (lk 98 77) 77) = true := by kernel_rfl
theorem lx75_78 : ((Region.ready .any ops75 (lk 98 78)).contains 78 && Region.free .any ops75 (lk 98 78) 78) = true := by kernel_rfl
theorem lx75_79 : ((Region.ready .any ops75 (lk 98 79)).contains 79 && Region.free .any ops75 (lk 98 79) 79) = true := by kernel_rfl
theorem lx75_80 : ((Region.ready .any ops75 (lk 98 80)).contains 80 && Region.free .any ops75 (lk 98 80) 80) = true := by kernel_rfl
theorem lx75_81 : ((Region.ready .any ops75 (lk 98 81)).contains 81 && Region.free .any ops75 (lk 98 81) 81) = true := by kernel_rfl
theorem lx75_82 : ((Region.ready .any ops75 (lk 98 82)).contains 82 && Region.free .any ops75 (lk 98 82) 82) = true := by kernel_rfl
theorem lx75_83 : ((Region.ready .any ops75 (lk 98 83)).contains 83 && Region.free .any ops75 (lk 98 83) 83) = true := by kernel_rfl
theorem lx75_84 : ((Region.ready .any ops75 (lk 98 84)).contains 84 && Region.free .any ops75 (lk 98 84) 84) = true := by kernel_rfl
theorem lx75_85 : ((Region.ready .any ops75 (lk 98 85)).contains 85 && Region.free .any ops75 (lk 98 85) 85) = true := by kernel_rfl
theorem lx75_86 : ((Region.ready .any ops75 (lk 98 86)).contains 86 && Region.free .any ops75 (lk 98 86) 86) = true := by kernel_rfl
theorem lx75_87 : ((Region.ready .any ops75 (lk 98 87)).contains 87 && Region.free .any ops75 (lk 98 87) 87) = true := by kernel_rfl
theorem lx75_88 : ((Region.ready .any ops75 (lk 98 88)).contains 88 && Region.free .any ops75 (lk 98 88) 88) = true := by kernel_rfl
theorem lx75_89 : ((Region.ready .any ops75 (lk 98 89)).contains 89 && Region.free .any ops75 (lk 98 89) 89) = true := by kernel_rfl
theorem lx75_90 : ((Region.ready .any ops75 (lk 98 90)).contains 90 && Region.free .any ops75 (lk 98 90) 90) = true := by kernel_rfl
theorem lx75_91 : ((Region.ready .any ops75 (lk 98 91)).contains 91 && Region.free .any ops75 (lk 98 91) 91) = true := by kernel_rfl
theorem lx75_92 : ((Region.ready .any ops75 (lk 98 92)).contains 92 && Region.free .any ops75 (lk 98 92) 92) = true := by kernel_rfl
theorem lx75_93 : ((Region.ready .any ops75 (lk 98 93)).contains 93 && Region.free .any ops75 (lk 98 93) 93) = true := by kernel_rfl
theorem lx75_94 : ((Region.ready .any ops75 (lk 98 94)).contains 94 && Region.free .any ops75 (lk 98 94) 94) = true := by kernel_rfl
theorem lx75_95 : ((Region.ready .any ops75 (lk 98 95)).contains 95 && Region.free .any ops75 (lk 98 95) 95) = true := by kernel_rfl
theorem lx75_96 : ((Region.ready .any ops75 (lk 98 96)).contains 96 && Region.free .any ops75 (lk 98 96) 96) = true := by kernel_rfl
theorem lx75_97 : ((Region.ready .any ops75 (lk 98 97)).contains 97 && Region.free .any ops75 (lk 98 97) 97) = true := by kernel_rfl
theorem lex75 : Region.lexB .any ops75 = true := by
  unfold Region.lexB
  rw [show Region.noSelect ops75 = true by kernel_rfl, Bool.true_and]
  show Region.lexFrom .any ops75 98 0 (lk 98 0) = true
  refine lexStep lx75_0 (show _ = lk 98 1 by kernel_rfl) ?_
  refine lexStep lx75_1 (show _ = lk 98 2 by kernel_rfl) ?_
  refine lexStep lx75_2 (show _ = lk 98 3 by kernel_rfl) ?_
  refine lexStep lx75_3 (show _ = lk 98 4 by kernel_rfl) ?_
  refine lexStep lx75_4 (show _ = lk 98 5 by kernel_rfl) ?_
  refine lexStep lx75_5 (show _ = lk 98 6 by kernel_rfl) ?_
  refine lexStep lx75_6 (show _ = lk 98 7 by kernel_rfl) ?_
  refine lexStep lx75_7 (show _ = lk 98 8 by kernel_rfl) ?_
  refine lexStep lx75_8 (show _ = lk 98 9 by kernel_rfl) ?_
  refine lexStep lx75_9 (show _ = lk 98 10 by kernel_rfl) ?_
  refine lexStep lx75_10 (show _ = lk 98 11 by kernel_rfl) ?_
  refine lexStep lx75_11 (show _ = lk 98 12 by kernel_rfl) ?_
  refine lexStep lx75_12 (show _ = lk 98 13 by kernel_rfl) ?_
  refine lexStep lx75_13 (show _ = lk 98 14 by kernel_rfl) ?_
  refine lexStep lx75_14 (show _ = lk 98 15 by kernel_rfl) ?_
  refine lexStep lx75_15 (show _ = lk 98 16 by kernel_rfl) ?_
  refine lexStep lx75_16 (show _ = lk 98 17 by kernel_rfl) ?_
  refine lexStep lx75_17 (show _ = lk 98 18 by kernel_rfl) ?_
  refine lexStep lx75_18 (show _ = lk 98 19 by kernel_rfl) ?_
  refine lexStep lx75_19 (show _ = lk 98 20 by kernel_rfl) ?_
  refine lexStep lx75_20 (show _ = lk 98 21 by kernel_rfl) ?_
  refine lexStep lx75_21 (show _ = lk 98 22 by kernel_rfl) ?_
  refine lexStep lx75_22 (show _ = lk 98 23 by kernel_rfl) ?_
  refine lexStep lx75_23 (show _ = lk 98 24 by kernel_rfl) ?_
  refine lexStep lx75_24 (show _ = lk 98 25 by kernel_rfl) ?_
  refine lexStep lx75_25 (show _ = lk 98 26 by kernel_rfl) ?_
  refine lexStep lx75_26 (show _ = lk 98 27 by kernel_rfl) ?_
  refine lexStep lx75_27 (show _ = lk 98 28 by kernel_rfl) ?_
  refine lexStep lx75_28 (show _ = lk 98 29 by kernel_rfl) ?_
  refine lexStep lx75_29 (show _ = lk 98 30 by kernel_rfl) ?_
  refine lexStep lx75_30 (show _ = lk 98 31 by kernel_rfl) ?_
  refine lexStep lx75_31 (show _ = lk 98 32 by kernel_rfl) ?_
  refine lexStep lx75_32 (show _ = lk 98 33 by kernel_rfl) ?_
  refine lexStep lx75_33 (show _ = lk 98 34 by kernel_rfl) ?_
  refine lexStep lx75_34 (show _ = lk 98 35 by kernel_rfl) ?_
  refine lexStep lx75_35 (show _ = lk 98 36 by kernel_rfl) ?_
  refine lexStep lx75_36 (show _ = lk 98 37 by kernel_rfl) ?_
  refine lexStep lx75_37 (show _ = lk 98 38 by kernel_rfl) ?_
  refine lexStep lx75_38 (show _ = lk 98 39 by kernel_rfl) ?_
  refine lexStep lx75_39 (show _ = lk 98 40 by kernel_rfl) ?_
  refine lexStep lx75_40 (show _ = lk 98 41 by kernel_rfl) ?_
  refine lexStep lx75_41 (show _ = lk 98 42 by kernel_rfl) ?_
  refine lexStep lx75_42 (show _ = lk 98 43 by kernel_rfl) ?_
  refine lexStep lx75_43 (show _ = lk 98 44 by kernel_rfl) ?_
  refine lexStep lx75_44 (show _ = lk 98 45 by kernel_rfl) ?_
  refine lexStep lx75_45 (show _ = lk 98 46 by kernel_rfl) ?_
  refine lexStep lx75_46 (show _ = lk 98 47 by kernel_rfl) ?_
  refine lexStep lx75_47 (show _ = lk 98 48 by kernel_rfl) ?_
  refine lexStep lx75_48 (show _ = lk 98 49 by kernel_rfl) ?_
  refine lexStep lx75_49 (show _ = lk 98 50 by kernel_rfl) ?_
  refine lexStep lx75_50 (show _ = lk 98 51 by kernel_rfl) ?_
  refine lexStep lx75_51 (show _ = lk 98 52 by kernel_rfl) ?_
  refine lexStep lx75_52 (show _ = lk 98 53 by kernel_rfl) ?_
  refine lexStep lx75_53 (show _ = lk 98 54 by kernel_rfl) ?_
  refine lexStep lx75_54 (show _ = lk 98 55 by kernel_rfl) ?_
  refine lexStep lx75_55 (show _ = lk 98 56 by kernel_rfl) ?_
  refine lexStep lx75_56 (show _ = lk 98 57 by kernel_rfl) ?_
  refine lexStep lx75_57 (show _ = lk 98 58 by kernel_rfl) ?_
  refine lexStep lx75_58 (show _ = lk 98 59 by kernel_rfl) ?_
  refine lexStep lx75_59 (show _ = lk 98 60 by kernel_rfl) ?_
  refine lexStep lx75_60 (show _ = lk 98 61 by kernel_rfl) ?_
  refine lexStep lx75_61 (show _ = lk 98 62 by kernel_rfl) ?_
  refine lexStep lx75_62 (show _ = lk 98 63 by kernel_rfl) ?_
  refine lexStep lx75_63 (show _ = lk 98 64 by kernel_rfl) ?_
  refine lexStep lx75_64 (show _ = lk 98 65 by kernel_rfl) ?_
  refine lexStep lx75_65 (show _ = lk 98 66 by kernel_rfl) ?_
  refine lexStep lx75_66 (show _ = lk 98 67 by kernel_rfl) ?_
  refine lexStep lx75_67 (show _ = lk 98 68 by kernel_rfl) ?_
  refine lexStep lx75_68 (show _ = lk 98 69 by kernel_rfl) ?_
  refine lexStep lx75_69 (show _ = lk 98 70 by kernel_rfl) ?_
  refine lexStep lx75_70 (show _ = lk 98 71 by kernel_rfl) ?_
  refine lexStep lx75_71 (show _ = lk 98 72 by kernel_rfl) ?_
  refine lexStep lx75_72 (show _ = lk 98 73 by kernel_rfl) ?_
  refine lexStep lx75_73 (show _ = lk 98 74 by kernel_rfl) ?_
  refine lexStep lx75_74 (show _ = lk 98 75 by kernel_rfl) ?_
  refine lexStep lx75_75 (show _ = lk 98 76 by kernel_rfl) ?_
  refine lexStep lx75_76 (show _ = lk 98 77 by kernel_rfl) ?_
  refine lexStep lx75_77 (show _ = lk 98 78 by kernel_rfl) ?_
  refine lexStep lx75_78 (show _ = lk 98 79 by kernel_rfl) ?_
  refine lexStep lx75_79 (show _ = lk 98 80 by kernel_rfl) ?_
  refine lexStep lx75_80 (show _ = lk 98 81 by kernel_rfl) ?_
  refine lexStep lx75_81 (show _ = lk 98 82 by kernel_rfl) ?_
  refine lexStep lx75_82 (show _ = lk 98 83 by kernel_rfl) ?_
  refine lexStep lx75_83 (show _ = lk 98 84 by kernel_rfl) ?_
  refine lexStep lx75_84 (show _ = lk 98 85 by kernel_rfl) ?_
  refine lexStep lx75_85 (show _ = lk 98 86 by kernel_rfl) ?_
  refine lexStep lx75_86 (show _ = lk 98 87 by kernel_rfl) ?_
  refine lexStep lx75_87 (show _ = lk 98 88 by kernel_rfl) ?_
  refine lexStep lx75_88 (show _ = lk 98 89 by kernel_rfl) ?_
  refine lexStep lx75_89 (show _ = lk 98 90 by kernel_rfl) ?_
  refine lexStep lx75_90 (show _ = lk 98 91 by kernel_rfl) ?_
  refine lexStep lx75_91 (show _ = lk 98 92 by kernel_rfl) ?_
  refine lexStep lx75_92 (show _ = lk 98 93 by kernel_rfl) ?_
  refine lexStep lx75_93 (show _ = lk 98 94 by kernel_rfl) ?_
  refine lexStep lx75_94 (show _ = lk 98 95 by kernel_rfl) ?_
  refine lexStep lx75_95 (show _ = lk 98 96 by kernel_rfl) ?_
  refine lexStep lx75_96 (show _ = lk 98 97 by kernel_rfl) ?_
  refine lexStep lx75_97 (show _ = lk 98 98 by kernel_rfl) ?_
  kernel_rfl
end Go.Proofs.YtciijpahjjoppaaGreat
end
