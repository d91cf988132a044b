/-
  Texts of this proof, put together.
-/
import Derived.Test.YtciijpahjjoppaaGreatPb1
import Derived.Laws.StructEq
import Derived.Shelf.SlicesE.Kit
import Derived.Test.YtciijpahjjoppaaGreatPb2
import Derived.StillTailTactics
import Derived.Lib.QuietBelow
import Derived.OrdersHeld
section
namespace Go.Proofs.YtciijpahjjoppaaGreat
open Go.RowKit Go.Deep

theorem below_drewE {B : Nat} {a w : World} (h : Below B a w) (n : Nat) : Below B a (w.drewN n) := ⟨h.os, h.tape, h.output, h.size, h.block⟩
def tRow (ss : List ByteArray) : List (List D) := ss.map fun s => [.str s]
theorem tRow_inj {ss tt : List ByteArray} (h : tRow ss = tRow tt) : ss = tt := by
  unfold tRow at h
  induction ss generalizing tt with
  | nil => cases tt with
    | nil => rfl
    | cons => simp at h
  | cons s ss ih => cases tt with
    | nil => simp at h
    | cons t tt =>
      simp at h
      rw [h.1, ih (by simpa using h.2)]
theorem same_tRow (ss tt : List ByteArray) : same (tRow ss) (tRow tt) = sameL ss tt := by
  by_cases h : ss = tt
  · subst h; rw [same_refl, sameL_refl]
  · rw [same_no (fun e => h (tRow_inj e)), sameL_no h]
theorem texts_of {l : List (List D)} (hs : ∀ x ∈ l, ShT x) : ∃ ss, l = tRow ss := by
  induction l with
  | nil => exact ⟨[], rfl⟩
  | cons x l ih =>
    obtain ⟨ss, rfl⟩ := ih fun y hy => hs y (List.mem_cons_of_mem _ hy)
    cases hs x (List.mem_cons_self ..) with
    | mk s => exact ⟨s :: ss, rfl⟩
theorem At.strs {w : World} {a : Option Addr} {len cap : Nat} {l : List (List D)} (h : At w (.slice a len cap) (.row l)) (hs : ∀ x ∈ l, ShT x) : ∃ ss, l = tRow ss ∧ IsStrs w a len cap ss := by
  obtain ⟨ss, rfl⟩ := texts_of hs
  have hl := h.len_eq
  have hl1 : ss.length = len := by simpa [tRow] using hl.1
  have key : ∀ j, j < len → ∃ b o x, a = some ⟨b, o, none⟩ ∧ b < w.heap.size ∧ ss[j]? = some x ∧ x.size ≤ maxLen ∧ w.cell? ⟨b, o + j, none⟩ = some (.string x) := by
    intro j hj
    obtain ⟨b, o, vs, ds, ha, hb, hx, hv, hc⟩ := h.elem hj
    unfold tRow at hx
    rw [List.getElem?_map] at hx
    obtain ⟨s, hs1, hs2⟩ := Option.map_eq_some_iff.1 hx
    subst hs2
    match vs, hv with
    | [v], ⟨h0, _⟩ =>
      obtain ⟨rfl, hz⟩ := h0.str_inv
      have := hc 0 _ rfl
      exact ⟨b, o, s, ha, hb, hs1, hz, by simpa using this⟩
  refine ⟨ss, rfl, hl1, hl.2.1, hl.2.2, fun x hx => ?_, ?_⟩
  · obtain ⟨j, hj, rfl⟩ := List.mem_iff_getElem.1 hx
    obtain ⟨_, _, x, _, _, hx', hz, _⟩ := key j (by omega)
    rw [List.getElem?_eq_getElem hj] at hx'
    cases hx'
    exact hz
  · by_cases h0 : len = 0
    · exact .inl h0
    · right
      obtain ⟨b, o, x, ha, hb, _⟩ := key 0 (by omega)
      refine ⟨b, o, ha, hb, fun j x hx => ?_⟩
      have hj : j < len := by rw [← hl1]; exact (List.getElem?_eq_some_iff.1 hx).1
      obtain ⟨b', o', x', ha', _, hx', _, hc⟩ := key j hj
      rw [ha] at ha'
      cases ha'
      rw [hx] at hx'
      cases hx'
      exact hc
theorem texts_any (w0 : World) (a a' : Option Addr) (len len' cap cap' : Nat) (l l' : List (List D)) (hA : At w0 (.slice a len cap) (.row l)) (hA' : At w0 (.slice a' len' cap') (.row l')) (hs : ∀ x ∈ l, ShT x) (hs' : ∀ x ∈ l', ShT x)
    (W : World) (hW : Below w0.heap.size w0 W) : Calls Tryz.prog 18 #[.slice a len cap, .slice a' len' cap'] W (EqPost l l' W) := by
  obtain ⟨ss, rfl, h1⟩ := hA.strs hs
  obtain ⟨tt, rfl, h2⟩ := hA'.strs hs'
  refine (sameTexts_any a a' len cap len' cap' ss tt W (h1.below hW) (h2.below hW)).mono ?_
  rintro e w' ⟨rfl, q, rfl⟩
  exact ⟨by rw [same_tRow], below_drewE (Below.refl _ _) _⟩
set_option maxHeartbeats 400000 in
theorem equalTexts_any (a a' : Option Addr) (len cap len' cap' : Nat) (xs ys : List ByteArray) (w : World) (hS : IsStrs w a len cap xs) (hS' : IsStrs w a' len' cap' ys) :
    Calls Tryz.prog 35 #[.slice a len cap, .slice a' len' cap'] w fun e w' => e = .returned (.bool (sameL xs ys)) ∧ ∃ n, w' = w.drewN n := by
  have HS := Lib.hid hS
  have HS' := Lib.hid hS'
  have hcap := hS.len_le
  have hcap' := hS'.len_le
  clear hS hS'
  generalize hr : sameL xs ys = r
  have HR := Lib.hid hr
  clear hr
  by_cases hl : len = len'
  · subst hl
    go_enter Tryz.func35, Tryz.ntmps35
    go_wp2_with fail
    go_loopw [13] (fun i wr => ∃ k n : Nat, k ≤ len ∧ i = .int .i64 k ∧ xs.take k = ys.take k ∧ wr = w.drewN n) (fun i _ => len - (intOf i).toNat)
    case atStart => exact ⟨0, 0, Nat.zero_le _, rfl, rfl, rfl⟩
    case round =>
      obtain ⟨k, n, hk, rfl, hno, rfl⟩ := hrel
      have HN := Lib.hid hno
      clear hno
      by_cases hlt : k < len
      · obtain ⟨b, o, x, rfl, hx, hxs, hc⟩ := HS.out.at hlt
        obtain ⟨b', o', y, rfl, hy, hys, hc'⟩ := HS'.out.at hlt
        have HX := Lib.hid hx
        have HY := Lib.hid hy
        clear hx hy
        cases hb : x.toList == y.toList with
        | true =>
          have HT : xs.take (k + 1) = ys.take (k + 1) := by rw [take_snoc HX.out, take_snoc HY.out, HN.out, (beq_iff x y).1 hb]
          have HT := Lib.hid HT
          go_wp2_with fail
          go_quiet (fail)
          go_wp2_with fail
          go_roundw
          case rel => exact ⟨k + 1, _, by omega, by go_num, HT.out, by first | rfl | exact World.drewN_drewN _ _ _⟩
          case measure => simp [intOf]; omega
        | false =>
          obtain rfl : r = false := by
            rw [← HR.out]
            refine sameL_no fun e => (beq_false x y).1 hb ?_
            have := HX.out
            rw [e, HY.out] at this
            exact (Option.some.inj this).symm
          go_wp2_with fail
          go_quiet (fail)
          go_wp2_with fail
          go_ret
          exact ⟨rfl, _, by first | rfl | exact World.drewN_drewN _ _ _⟩
      · obtain rfl : r = true := by
          rw [← HR.out, sameL_iff]
          have := HN.out
          rw [List.take_of_length_le (by rw [HS.out.1]; omega), List.take_of_length_le (by rw [HS'.out.1]; omega)] at this
          exact this
        go_wp2_with fail
        go_ret
        exact ⟨rfl, _, rfl⟩
  · obtain rfl : r = false := by
      rw [← HR.out]
      refine sameL_no fun e => hl ?_
      rw [← HS.out.1, ← HS'.out.1, e]
    have hne : ((len : Int) == (len' : Int)) = false := by simp; omega
    go_enter Tryz.func35, Tryz.ntmps35
    go_wp2_with fail
    go_ret
    exact ⟨rfl, 0, rfl⟩
theorem equalT_any (w0 : World) (a a' : Option Addr) (len len' cap cap' : Nat) (l l' : List (List D)) (hA : At w0 (.slice a len cap) (.row l)) (hA' : At w0 (.slice a' len' cap') (.row l')) (hs : ∀ x ∈ l, ShT x) (hs' : ∀ x ∈ l', ShT x)
    (W : World) (hW : Below w0.heap.size w0 W) : Calls Tryz.prog 35 #[.slice a len cap, .slice a' len' cap'] W (EqPost l l' W) := by
  obtain ⟨ss, rfl, h1⟩ := hA.strs hs
  obtain ⟨tt, rfl, h2⟩ := hA'.strs hs'
  refine (equalTexts_any a a' len cap len' cap' ss tt W (h1.below hW) (h2.below hW)).mono ?_
  rintro e w' ⟨rfl, q, rfl⟩
  exact ⟨by rw [same_tRow], below_drewE (Below.refl _ _) _⟩

/-- Two types compared. -/
def tySame (kd kd' sz sz' : Int) (tn tn' : ByteArray) : Bool := kd == kd' && sz == sz' && tn.toList == tn'.toList
theorem ty_equalIn (d : Nat) (kd kd' sz sz' : Int) (tn tn' : ByteArray) (w : World) : Sem.run Tryz.prog (Op.equalIn (d + 1 + 1) 73 (.agg #[.int .i64 kd, .int .i64 sz, .string tn]) (.agg #[.int .i64 kd', .int .i64 sz', .string tn'])) w = .ok (tySame kd kd' sz sz' tn tn') w := by
  have hS : Tryz.prog.underlying 73 = some (.struct (Tryz.prog.fieldsOf 73)) := by kernel_rfl
  have hp : Tryz.prog.stoodInHeld 73 = false := by kernel_rfl
  have u3 := Tryz.underlying3
  have a3 := Tryz.isAgg3
  have z3 := Tryz.sizeOf3
  have u9 := Tryz.underlying9
  have a9 := Tryz.isAgg9
  have z9 := Tryz.sizeOf9
  rw [run_equalIn_agg w (d + 1) 73 _ _ hS hp]
  clear hS hp
  simp only [Program.fieldsOf, Tryz.underlying73]
  go_simp
  unfold tySame
  cases h1 : kd == kd' <;> cases h2 : sz == sz' <;> cases h3 : tn.toList == tn'.toList <;> simp_all
theorem ty_eql (kd kd' sz sz' : Int) (tn tn' : ByteArray) (w : World) : Sem.run Tryz.prog (binOp .eql 73 (.agg #[.int .i64 kd, .int .i64 sz, .string tn]) (.agg #[.int .i64 kd', .int .i64 sz', .string tn'])) w = .ok (.bool (tySame kd kd' sz sz' tn tn')) w := by
  rw [run_eql_struct, show (10000 : Nat) = 9998 + 1 + 1 from rfl, ty_equalIn]
  rfl
def pmSame (nm nm' : ByteArray) (kd kd' sz sz' : Int) (tn tn' : ByteArray) (md md' : Int) : Bool := nm.toList == nm'.toList && tySame kd kd' sz sz' tn tn' && md == md'
theorem pm_neq (nm nm' : ByteArray) (kd kd' sz sz' : Int) (tn tn' : ByteArray) (md md' : Int) (w : World) : Sem.run Tryz.prog (binOp .neq 133 (.agg #[.string nm, .int .i64 kd, .int .i64 sz, .string tn, .int .i64 md]) (.agg #[.string nm', .int .i64 kd', .int .i64 sz', .string tn', .int .i64 md'])) w = .ok (.bool (!pmSame nm nm' kd kd' sz sz' tn tn' md md')) w := by
  have hS : Tryz.prog.underlying 133 = some (.struct (Tryz.prog.fieldsOf 133)) := by kernel_rfl
  have hp : Tryz.prog.stoodInHeld 133 = false := by kernel_rfl
  have u3 := Tryz.underlying3
  have a3 := Tryz.isAgg3
  have z3 := Tryz.sizeOf3
  have u9 := Tryz.underlying9
  have a9 := Tryz.isAgg9
  have z9 := Tryz.sizeOf9
  have a73 := Tryz.isAgg73
  have z73 := Tryz.sizeOf73
  have hty := ty_equalIn 9997 kd kd' sz sz' tn tn'
  rw [run_neq_struct, show (10000 : Nat) = 9999 + 1 from rfl, run_equalIn_agg w 9999 133 _ _ hS hp]
  clear hS hp
  simp only [Program.fieldsOf, Tryz.underlying133]
  go_simp
  unfold pmSame
  cases h1 : nm.toList == nm'.toList <;> cases h2 : tySame kd kd' sz sz' tn tn' <;> cases h3 : md == md' <;> simp_all
theorem tySame_iff {kd kd' sz sz' : Int} {tn tn' : ByteArray} : tySame kd kd' sz sz' tn tn' = true ↔ kd = kd' ∧ sz = sz' ∧ tn = tn' := by
  unfold tySame
  rw [Bool.and_eq_true, Bool.and_eq_true, ba_eq_iff]
  simp [and_assoc]
theorem pmSame_iff {nm nm' : ByteArray} {kd kd' sz sz' : Int} {tn tn' : ByteArray} {md md' : Int} : pmSame nm nm' kd kd' sz sz' tn tn' md md' = true ↔ nm = nm' ∧ (kd = kd' ∧ sz = sz' ∧ tn = tn') ∧ md = md' := by
  unfold pmSame
  rw [Bool.and_eq_true, Bool.and_eq_true, ba_eq_iff, tySame_iff]
  simp [and_assoc]
end Go.Proofs.YtciijpahjjoppaaGreat
end
section
namespace Go.Proofs.YtciijpahjjoppaaGreat
open Go.RowKit Go.Deep
set_option maxRecDepth 100000 in
set_option maxHeartbeats 2000000 in
theorem sameMarks_any (w0 : World) (m0a m1a m0a' m1a' : Option Addr) (m0c m1c m0c' m1c' : Nat) (m0 m1 m0' m1' : List (List D)) (am0 : At w0 (.slice m0a m0.length m0c) (.row m0)) (am1 : At w0 (.slice m1a m1.length m1c) (.row m1)) (am0' : At w0 (.slice m0a' m0'.length m0c') (.row m0')) (am1' : At w0 (.slice m1a' m1'.length m1c') (.row m1')) (sm0 : ∀ x ∈ m0, ShT x) (sm1 : ∀ x ∈ m1, ShT x) (sm0' : ∀ x ∈ m0', ShT x) (sm1' : ∀ x ∈ m1', ShT x)
    (W : World) (hW : Below w0.heap.size w0 W) : Calls Tryz.prog 82 #[.agg #[.slice m0a m0.length m0c, .slice m1a m1.length m1c], .agg #[.slice m0a' m0'.length m0c', .slice m1a' m1'.length m1c']] W (EqPost (α := List D) [.row m0, .row m1] [.row m0', .row m1'] W) := by
  have Am0 := Lib.hid am0
  have Sm0 := Lib.hid sm0
  have Am1 := Lib.hid am1
  have Sm1 := Lib.hid sm1
  have Am0' := Lib.hid am0'
  have Sm0' := Lib.hid sm0'
  have Am1' := Lib.hid am1'
  have Sm1' := Lib.hid sm1'
  clear am0 am1 am0' am1' sm0 sm1 sm0' sm1'
  have HW := Lib.hid hW
  clear hW
  go_enter Tryz.func82, Tryz.ntmps82
  go_wp2_with fail
  have R0 := Lib.hid (((Below.refl W.heap.size W).alloc (Nat.le_refl _) (.cells #[.slice m0a m0.length m0c, .slice m1a m1.length m1c] 59)).alloc (by simp) (.cells #[.slice m0a' m0'.length m0c', .slice m1a' m1'.length m1c'] 59))
  have KA0 := Lib.hid (show ((W.alloc (.cells #[.slice m0a m0.length m0c, .slice m1a m1.length m1c] 59)).alloc (.cells #[.slice m0a' m0'.length m0c', .slice m1a' m1'.length m1c'] 59)).heap[W.heap.size]? = some (.cells #[.slice m0a m0.length m0c, .slice m1a m1.length m1c] 59) from box_first W (.cells #[.slice m0a m0.length m0c, .slice m1a m1.length m1c] 59) (.cells #[.slice m0a' m0'.length m0c', .slice m1a' m1'.length m1c'] 59))
  have KB0 := Lib.hid (show ((W.alloc (.cells #[.slice m0a m0.length m0c, .slice m1a m1.length m1c] 59)).alloc (.cells #[.slice m0a' m0'.length m0c', .slice m1a' m1'.length m1c'] 59)).heap[W.heap.size + 1]? = some (.cells #[.slice m0a' m0'.length m0c', .slice m1a' m1'.length m1c'] 59) from box_second W (.cells #[.slice m0a m0.length m0c, .slice m1a m1.length m1c] 59) (.cells #[.slice m0a' m0'.length m0c', .slice m1a' m1'.length m1c'] 59))
  have Z1 := HW.out.trans (R0.out.mono HW.out.size)
  refine (equalT_any w0 _ _ _ _ _ _ _ _ Am0.out Am0'.out Sm0.out Sm0'.out _ Z1).mono ?_
  rintro e w1 ⟨rfl, b1⟩
  have R1 := Lib.hid (R0.out.trans (b1.mono R0.out.size))
  have KA1 := Lib.hid ((b1.block _ (heap_lt KA0.out)).trans KA0.out)
  have KB1 := Lib.hid ((b1.block _ (heap_lt KB0.out)).trans KB0.out)
  have cA1 := box_cells KA1.out
  have cB1 := box_cells KB1.out
  clear b1 Z1
  cases hm0 : same m0 m0' with
  | false =>
    have GH := Lib.hid (same_neq hm0)
    clear hm0
    go_wp2_with fail
    go_ret
    exact ⟨by rw [same_no (α := List D) (x := [.row m0, .row m1]) (y := [.row m0', .row m1']) (fun z => GH.out (D.row.inj (congrArg (fun z : List D => nth z 0) z)))]; rfl, R1.out⟩
  | true =>
    have Qm0 := Lib.hid ((same_iff _ _).1 hm0)
    clear hm0
    go_wp2_with fail
    clear cA1 cB1
    have Z2 := HW.out.trans (R1.out.mono HW.out.size)
    refine (equalT_any w0 _ _ _ _ _ _ _ _ Am1.out Am1'.out Sm1.out Sm1'.out _ Z2).mono ?_
    rintro e w2 ⟨rfl, b2⟩
    have R2 := Lib.hid (R1.out.trans (b2.mono R1.out.size))
    have KA2 := Lib.hid ((b2.block _ (heap_lt KA1.out)).trans KA1.out)
    have KB2 := Lib.hid ((b2.block _ (heap_lt KB1.out)).trans KB1.out)
    have cA2 := box_cells KA2.out
    have cB2 := box_cells KB2.out
    clear b2 Z2
    cases hm1 : same m1 m1' with
    | false =>
      have GH := Lib.hid (same_neq hm1)
      clear hm1
      go_wp2_with fail
      go_ret
      exact ⟨by rw [same_no (α := List D) (x := [.row m0, .row m1]) (y := [.row m0', .row m1']) (fun z => GH.out (D.row.inj (congrArg (fun z : List D => nth z 1) z)))]; rfl, R2.out⟩
    | true =>
      have Qm1 := Lib.hid ((same_iff _ _).1 hm1)
      clear hm1
      have E := Lib.hid (show same (α := List D) [.row m0, .row m1] [.row m0', .row m1'] = true by
        obtain rfl := Qm0.out
        obtain rfl := Qm1.out
        exact same_refl _)
      go_wp2_with fail
      go_ret
      exact ⟨by rw [E.out]; rfl, R2.out⟩
end Go.Proofs.YtciijpahjjoppaaGreat
end
section
namespace Go.Proofs.YtciijpahjjoppaaGreat
open Go.RowKit Go.Deep
set_option maxRecDepth 100000 in
set_option maxHeartbeats 2000000 in
theorem sameField_step (w0 : World) (x y : List D) (hx : ShF x) (hy : ShF y) (vs ws : List Value) (hv : AllAt w0 vs x) (hw : AllAt w0 ws y)
    (W : World) (hW : Below w0.heap.size w0 W) : Calls Tryz.prog 84 #[.agg ⟨vs⟩, .agg ⟨ws⟩] W (EqPost x y W) := by
  obtain ⟨m0, m1, nm, kd, m0a, m0c, m1a, m1c, rfl, rfl, am0, am1, -, -, sm0, sm1⟩ := hv.openF hx
  obtain ⟨m0', m1', nm', kd', m0a', m0c', m1a', m1c', rfl, rfl, am0', am1', -, -, sm0', sm1'⟩ := hw.openF hy
  have Am0 := Lib.hid am0
  have Am1 := Lib.hid am1
  have Sm0 := Lib.hid sm0
  have Sm1 := Lib.hid sm1
  have Am0' := Lib.hid am0'
  have Am1' := Lib.hid am1'
  have Sm0' := Lib.hid sm0'
  have Sm1' := Lib.hid sm1'
  clear hx hy hv hw am0 am0' am1 am1' sm0 sm0' sm1 sm1'
  have HW := Lib.hid hW
  clear hW
  go_enter Tryz.func84, Tryz.ntmps84
  go_wp2_with fail
  have R0 := Lib.hid (((Below.refl W.heap.size W).alloc (Nat.le_refl _) (.cells #[.slice m0a m0.length m0c, .slice m1a m1.length m1c, .string nm, .int .i64 kd] 65)).alloc (by simp) (.cells #[.slice m0a' m0'.length m0c', .slice m1a' m1'.length m1c', .string nm', .int .i64 kd'] 65))
  have KA0 := Lib.hid (show ((W.alloc (.cells #[.slice m0a m0.length m0c, .slice m1a m1.length m1c, .string nm, .int .i64 kd] 65)).alloc (.cells #[.slice m0a' m0'.length m0c', .slice m1a' m1'.length m1c', .string nm', .int .i64 kd'] 65)).heap[W.heap.size]? = some (.cells #[.slice m0a m0.length m0c, .slice m1a m1.length m1c, .string nm, .int .i64 kd] 65) from box_first W (.cells #[.slice m0a m0.length m0c, .slice m1a m1.length m1c, .string nm, .int .i64 kd] 65) (.cells #[.slice m0a' m0'.length m0c', .slice m1a' m1'.length m1c', .string nm', .int .i64 kd'] 65))
  have KB0 := Lib.hid (show ((W.alloc (.cells #[.slice m0a m0.length m0c, .slice m1a m1.length m1c, .string nm, .int .i64 kd] 65)).alloc (.cells #[.slice m0a' m0'.length m0c', .slice m1a' m1'.length m1c', .string nm', .int .i64 kd'] 65)).heap[W.heap.size + 1]? = some (.cells #[.slice m0a' m0'.length m0c', .slice m1a' m1'.length m1c', .string nm', .int .i64 kd'] 65) from box_second W (.cells #[.slice m0a m0.length m0c, .slice m1a m1.length m1c, .string nm, .int .i64 kd] 65) (.cells #[.slice m0a' m0'.length m0c', .slice m1a' m1'.length m1c', .string nm', .int .i64 kd'] 65))
  have Z1 := HW.out.trans (R0.out.mono HW.out.size)
  refine (sameMarks_any w0 _ _ _ _ _ _ _ _ _ _ _ _ Am0.out Am1.out Am0'.out Am1'.out Sm0.out Sm1.out Sm0'.out Sm1'.out _ Z1).mono ?_
  rintro e w1 ⟨rfl, b1⟩
  have R1 := Lib.hid (R0.out.trans (b1.mono R0.out.size))
  have KA1 := Lib.hid ((b1.block _ (heap_lt KA0.out)).trans KA0.out)
  have KB1 := Lib.hid ((b1.block _ (heap_lt KB0.out)).trans KB0.out)
  have cA1 := box_cells KA1.out
  have cB1 := box_cells KB1.out
  clear b1 Z1
  cases hM : same (α := List D) [.row m0, .row m1] [.row m0', .row m1'] with
  | false =>
    have GH := Lib.hid (same_neq hM)
    clear hM
    go_wp2_with fail
    go_ret
    exact ⟨by rw [same_no (α := List D) (x := [.row m0, .row m1, .str nm, .int kd]) (y := [.row m0', .row m1', .str nm', .int kd']) (fun z => GH.out (congrArg (fun z : List D => (z.drop 0).take 2) z))]; rfl, R1.out⟩
  | true =>
    have QM := Lib.hid ((same_iff _ _).1 hM)
    clear hM
    cases hnm : nm.toList == nm'.toList with
    | false =>
      have G : nm ≠ nm' := (fun z => by subst z; simp at hnm)
      have GH := Lib.hid G
      clear G
      go_wp2_with fail
      go_ret
      exact ⟨by rw [same_no (α := List D) (x := [.row m0, .row m1, .str nm, .int kd]) (y := [.row m0', .row m1', .str nm', .int kd']) (fun z => GH.out (D.str.inj (congrArg (fun z : List D => nth z 2) z)))]; rfl, R1.out⟩
    | true =>
      have Qnm := Lib.hid (show nm = nm' from ((ba_eq_iff _ _).1 hnm))
      cases hkd : kd == kd' with
      | false =>
        have G : kd ≠ kd' := (by simpa using hkd)
        have GH := Lib.hid G
        clear G
        go_wp2_with fail
        go_ret
        exact ⟨by rw [same_no (α := List D) (x := [.row m0, .row m1, .str nm, .int kd]) (y := [.row m0', .row m1', .str nm', .int kd']) (fun z => GH.out (D.int.inj (congrArg (fun z : List D => nth z 3) z)))]; rfl, R1.out⟩
      | true =>
        have Qkd := Lib.hid (show kd = kd' from (by simpa using hkd))
        have E := Lib.hid (show same (α := List D) [.row m0, .row m1, .str nm, .int kd] [.row m0', .row m1', .str nm', .int kd'] = true by
          obtain ⟨rfl, rfl⟩ : m0 = m0' ∧ m1 = m1' := by simpa using QM.out
          obtain rfl := Qnm.out
          obtain rfl := Qkd.out
          exact same_refl _)
        go_wp2_with fail
        go_ret
        exact ⟨by rw [E.out]; rfl, R1.out⟩
theorem efn_F (w0 : World) (l l' : List (List D)) (hs : ∀ z ∈ l, ShF z) (hs' : ∀ z ∈ l', ShF z) : EqFn w0 84 l l' := fun x hx y hy vs ws hv hw W hW => sameField_step w0 x y (hs x hx) (hs' y hy) vs ws hv hw W hW
end Go.Proofs.YtciijpahjjoppaaGreat
end
section
namespace Go.Proofs.YtciijpahjjoppaaGreat
open Go.RowKit Go.Deep

set_option maxRecDepth 100000 in
set_option maxHeartbeats 1000000 in
theorem equalF_any (w0 : World) (a a' : Option Addr) (len len' cap cap' : Nat) (l l' : List (List D)) (hA : At w0 (.slice a len cap) (.row l)) (hA' : At w0 (.slice a' len' cap') (.row l')) (hs : ∀ x ∈ l, ShF x) (hs' : ∀ x ∈ l', ShF x)
    (hf : EqFn w0 84 l l') (W : World) (hW : Below w0.heap.size w0 W) : Calls Tryz.prog 83 #[.slice a len cap, .slice a' len' cap', .func (.func 84) #[] #[]] W (EqPost l l' W) := by
  have HA := Lib.hid hA
  have HA' := Lib.hid hA'
  have HS := Lib.hid hs
  have HS' := Lib.hid hs'
  have HF := Lib.hid hf
  have HW := Lib.hid hW
  have hle := hA.len_le
  have hle' := hA'.len_le
  have HL := Lib.hid hA.len_eq.1
  have HL' := Lib.hid hA'.len_eq.1
  clear hA hA' hs hs' hf hW
  by_cases hn : len = len'
  · subst hn
    go_enter Tryz.func83, Tryz.ntmps83
    go_wp2_with fail
    go_loopw [17] (fun i wr => ∃ k : Nat, k ≤ len ∧ i = .int .i64 k ∧ l.take k = l'.take k ∧ Below W.heap.size W wr) (fun i _ => len - (intOf i).toNat)
    case atStart => exact ⟨0, Nat.zero_le _, rfl, rfl, Below.refl _ _⟩
    case round =>
      obtain ⟨k, hk, rfl, ht, hb⟩ := hrel
      have HT := Lib.hid ht
      have HB := Lib.hid hb
      clear ht hb
      by_cases hlt : k < len
      · obtain ⟨b, o, vs, ds, rfl, hbl, hx, hv, hc⟩ := HA.out.elem hlt
        obtain ⟨b', o', vs', ds', rfl, hbl', hx', hv', hc'⟩ := HA'.out.elem hlt
        have hfn := HF.out ds (List.mem_of_getElem? hx) ds' (List.mem_of_getElem? hx') vs vs' hv hv'
        obtain ⟨m0, m1, nm, kd, m0a, m0c, m1a, m1c, hds, hvs, _⟩ := hv.openF (HS.out _ (List.mem_of_getElem? hx))
        obtain ⟨m0', m1', nm', kd', m0a', m0c', m1a', m1c', hds', hvs', _⟩ := hv'.openF (HS'.out _ (List.mem_of_getElem? hx'))
        subst hvs hvs'
        have hdl : ds.length = 4 := by rw [hds]; rfl
        have hdl' : ds'.length = 4 := by rw [hds']; rfl
        rw [hdl] at hc
        rw [hdl'] at hc'
        clear hds hds' hdl hdl' hv hv'
        have B0 := HW.out.trans (HB.out.mono HW.out.size)
        have c0 := (B0.cell (p := ⟨b, o + k * 4, none⟩) hbl).trans (hc 0 _ rfl)
        have c1 := (B0.cell (p := ⟨b, o + k * 4 + 1, none⟩) hbl).trans (hc 1 _ rfl)
        have c2 := (B0.cell (p := ⟨b, o + k * 4 + 2, none⟩) hbl).trans (hc 2 _ rfl)
        have c3 := (B0.cell (p := ⟨b, o + k * 4 + 3, none⟩) hbl).trans (hc 3 _ rfl)
        have c0' := (B0.cell (p := ⟨b', o' + k * 4, none⟩) hbl').trans (hc' 0 _ rfl)
        have c1' := (B0.cell (p := ⟨b', o' + k * 4 + 1, none⟩) hbl').trans (hc' 1 _ rfl)
        have c2' := (B0.cell (p := ⟨b', o' + k * 4 + 2, none⟩) hbl').trans (hc' 2 _ rfl)
        have c3' := (B0.cell (p := ⟨b', o' + k * 4 + 3, none⟩) hbl').trans (hc' 3 _ rfl)
        have hbw : b < wr.heap.size := Nat.lt_of_lt_of_le hbl B0.size
        have hbw' : b' < wr.heap.size := Nat.lt_of_lt_of_le hbl' B0.size
        have FN := Lib.hid hfn
        have HX := Lib.hid hx
        have HX' := Lib.hid hx'
        have HB0 := Lib.hid B0
        clear hfn hx hx' B0 hc hc'
        go_wp2_with fail
        have B2 := HB0.out.trans (((Below.refl wr.heap.size wr).alloc (Nat.le_refl _) (.cells #[.slice m0a m0.length m0c, .slice m1a m1.length m1c, .string nm, .int .i64 kd] 65)).mono HB0.out.size)
        have B3 := B2.trans (((Below.refl _ (wr.alloc (.cells #[.slice m0a m0.length m0c, .slice m1a m1.length m1c, .string nm, .int .i64 kd] 65))).alloc (Nat.le_refl _) (.cells #[.slice m0a' m0'.length m0c', .slice m1a' m1'.length m1c', .string nm', .int .i64 kd'] 65)).mono B2.size)
        refine (FN.out _ B3).mono ?_
        rintro e w3 ⟨rfl, b3⟩
        have B4 := HB.out.trans ((((Below.refl wr.heap.size wr).alloc (Nat.le_refl _) (.cells #[.slice m0a m0.length m0c, .slice m1a m1.length m1c, .string nm, .int .i64 kd] 65)).alloc (by simp) (.cells #[.slice m0a' m0'.length m0c', .slice m1a' m1'.length m1c', .string nm', .int .i64 kd'] 65)).mono HB.out.size)
        have HB4 := Lib.hid (B4.trans (b3.mono B4.size))
        clear b3 B4 B2 B3 c0 c1 c2 c3 c0' c1' c2' c3'
        cases hsm : same ds ds' with
        | true =>
          have HE := Lib.hid ((same_iff _ _).1 hsm)
          clear hsm
          go_wp2_with fail
          go_roundw
          case rel => exact ⟨k + 1, by omega, by go_num, take_same_succ HX.out (HE.out ▸ HX'.out) HT.out, HB4.out⟩
          case measure => simp [intOf]; omega
        | false =>
          have HE := Lib.hid (same_miss HX.out HX'.out hsm)
          clear hsm
          go_wp2_with fail
          go_ret
          exact ⟨by rw [HE.out]; rfl, HB4.out⟩
      · obtain rfl : k = len := by omega
        go_wp2_with fail
        go_ret
        exact ⟨by rw [same_end (HL.out.trans HL'.out.symm) (by rw [HL.out]; exact HT.out)]; rfl, HB.out⟩
  · have hne : (len == len') = false := by simpa using hn
    have HN := Lib.hid (same_len (l := l) (l' := l') (by rw [HL.out, HL'.out]; exact hn))
    go_enter Tryz.func83, Tryz.ntmps83
    go_wp2_with fail
    go_ret
    exact ⟨by rw [HN.out]; rfl, Below.refl _ _⟩
end Go.Proofs.YtciijpahjjoppaaGreat
end
section
namespace Go.Proofs.YtciijpahjjoppaaGreat
open Go.RowKit Go.Deep
set_option maxRecDepth 100000 in
set_option maxHeartbeats 2000000 in
theorem sameRecord_step (w0 : World) (x y : List D) (hx : ShC x) (hy : ShC y) (vs ws : List Value) (hv : AllAt w0 vs x) (hw : AllAt w0 ws y)
    (W : World) (hW : Below w0.heap.size w0 W) : Calls Tryz.prog 37 #[.agg ⟨vs⟩, .agg ⟨ws⟩] W (EqPost x y W) := by
  obtain ⟨m0, m1, nm, fs, en, m0a, m0c, m1a, m1c, fsa, fsc, ena, enc, rfl, rfl, am0, am1, -, afs, aen, sm0, sm1, sfs, sen⟩ := hv.openC hx
  obtain ⟨m0', m1', nm', fs', en', m0a', m0c', m1a', m1c', fsa', fsc', ena', enc', rfl, rfl, am0', am1', -, afs', aen', sm0', sm1', sfs', sen'⟩ := hw.openC hy
  have Pfs := Lib.hid (efn_F w0 fs fs' sfs sfs')
  have Am0 := Lib.hid am0
  have Am1 := Lib.hid am1
  have Afs := Lib.hid afs
  have Aen := Lib.hid aen
  have Sm0 := Lib.hid sm0
  have Sm1 := Lib.hid sm1
  have Sfs := Lib.hid sfs
  have Sen := Lib.hid sen
  have Am0' := Lib.hid am0'
  have Am1' := Lib.hid am1'
  have Afs' := Lib.hid afs'
  have Aen' := Lib.hid aen'
  have Sm0' := Lib.hid sm0'
  have Sm1' := Lib.hid sm1'
  have Sfs' := Lib.hid sfs'
  have Sen' := Lib.hid sen'
  clear hx hy hv hw am0 am0' am1 am1' afs afs' aen aen' sm0 sm0' sm1 sm1' sfs sfs' sen sen'
  have HW := Lib.hid hW
  clear hW
  go_enter Tryz.func37, Tryz.ntmps37
  go_wp2_with fail
  have R0 := Lib.hid (((Below.refl W.heap.size W).alloc (Nat.le_refl _) (.cells #[.slice m0a m0.length m0c, .slice m1a m1.length m1c, .string nm, .slice fsa fs.length fsc, .slice ena en.length enc] 62)).alloc (by simp) (.cells #[.slice m0a' m0'.length m0c', .slice m1a' m1'.length m1c', .string nm', .slice fsa' fs'.length fsc', .slice ena' en'.length enc'] 62))
  have KA0 := Lib.hid (show ((W.alloc (.cells #[.slice m0a m0.length m0c, .slice m1a m1.length m1c, .string nm, .slice fsa fs.length fsc, .slice ena en.length enc] 62)).alloc (.cells #[.slice m0a' m0'.length m0c', .slice m1a' m1'.length m1c', .string nm', .slice fsa' fs'.length fsc', .slice ena' en'.length enc'] 62)).heap[W.heap.size]? = some (.cells #[.slice m0a m0.length m0c, .slice m1a m1.length m1c, .string nm, .slice fsa fs.length fsc, .slice ena en.length enc] 62) from box_first W (.cells #[.slice m0a m0.length m0c, .slice m1a m1.length m1c, .string nm, .slice fsa fs.length fsc, .slice ena en.length enc] 62) (.cells #[.slice m0a' m0'.length m0c', .slice m1a' m1'.length m1c', .string nm', .slice fsa' fs'.length fsc', .slice ena' en'.length enc'] 62))
  have KB0 := Lib.hid (show ((W.alloc (.cells #[.slice m0a m0.length m0c, .slice m1a m1.length m1c, .string nm, .slice fsa fs.length fsc, .slice ena en.length enc] 62)).alloc (.cells #[.slice m0a' m0'.length m0c', .slice m1a' m1'.length m1c', .string nm', .slice fsa' fs'.length fsc', .slice ena' en'.length enc'] 62)).heap[W.heap.size + 1]? = some (.cells #[.slice m0a' m0'.length m0c', .slice m1a' m1'.length m1c', .string nm', .slice fsa' fs'.length fsc', .slice ena' en'.length enc'] 62) from box_second W (.cells #[.slice m0a m0.length m0c, .slice m1a m1.length m1c, .string nm, .slice fsa fs.length fsc, .slice ena en.length enc] 62) (.cells #[.slice m0a' m0'.length m0c', .slice m1a' m1'.length m1c', .string nm', .slice fsa' fs'.length fsc', .slice ena' en'.length enc'] 62))
  have Z1 := HW.out.trans (R0.out.mono HW.out.size)
  refine (sameMarks_any w0 _ _ _ _ _ _ _ _ _ _ _ _ Am0.out Am1.out Am0'.out Am1'.out Sm0.out Sm1.out Sm0'.out Sm1'.out _ Z1).mono ?_
  rintro e w1 ⟨rfl, b1⟩
  have R1 := Lib.hid (R0.out.trans (b1.mono R0.out.size))
  have KA1 := Lib.hid ((b1.block _ (heap_lt KA0.out)).trans KA0.out)
  have KB1 := Lib.hid ((b1.block _ (heap_lt KB0.out)).trans KB0.out)
  have cA1 := box_cells KA1.out
  have cB1 := box_cells KB1.out
  clear b1 Z1
  cases hM : same (α := List D) [.row m0, .row m1] [.row m0', .row m1'] with
  | false =>
    have GH := Lib.hid (same_neq hM)
    clear hM
    go_wp2_with fail
    go_ret
    exact ⟨by rw [same_no (α := List D) (x := [.row m0, .row m1, .str nm, .row fs, .row en]) (y := [.row m0', .row m1', .str nm', .row fs', .row en']) (fun z => GH.out (congrArg (fun z : List D => (z.drop 0).take 2) z))]; rfl, R1.out⟩
  | true =>
    have QM := Lib.hid ((same_iff _ _).1 hM)
    clear hM
    cases hnm : nm.toList == nm'.toList with
    | false =>
      have G : nm ≠ nm' := (fun z => by subst z; simp at hnm)
      have GH := Lib.hid G
      clear G
      go_wp2_with fail
      go_ret
      exact ⟨by rw [same_no (α := List D) (x := [.row m0, .row m1, .str nm, .row fs, .row en]) (y := [.row m0', .row m1', .str nm', .row fs', .row en']) (fun z => GH.out (D.str.inj (congrArg (fun z : List D => nth z 2) z)))]; rfl, R1.out⟩
    | true =>
      have Qnm := Lib.hid (show nm = nm' from ((ba_eq_iff _ _).1 hnm))
      go_wp2_with fail
      clear cA1 cB1
      have Z2 := HW.out.trans (R1.out.mono HW.out.size)
      refine (equalF_any w0 _ _ _ _ _ _ _ _ Afs.out Afs'.out Sfs.out Sfs'.out Pfs.out _ Z2).mono ?_
      rintro e w2 ⟨rfl, b2⟩
      have R2 := Lib.hid (R1.out.trans (b2.mono R1.out.size))
      have KA2 := Lib.hid ((b2.block _ (heap_lt KA1.out)).trans KA1.out)
      have KB2 := Lib.hid ((b2.block _ (heap_lt KB1.out)).trans KB1.out)
      have cA2 := box_cells KA2.out
      have cB2 := box_cells KB2.out
      clear b2 Z2
      cases hfs : same fs fs' with
      | false =>
        have GH := Lib.hid (same_neq hfs)
        clear hfs
        go_wp2_with fail
        go_ret
        exact ⟨by rw [same_no (α := List D) (x := [.row m0, .row m1, .str nm, .row fs, .row en]) (y := [.row m0', .row m1', .str nm', .row fs', .row en']) (fun z => GH.out (D.row.inj (congrArg (fun z : List D => nth z 3) z)))]; rfl, R2.out⟩
      | true =>
        have Qfs := Lib.hid ((same_iff _ _).1 hfs)
        clear hfs
        go_wp2_with fail
        clear cA2 cB2
        have Z3 := HW.out.trans (R2.out.mono HW.out.size)
        refine (equalT_any w0 _ _ _ _ _ _ _ _ Aen.out Aen'.out Sen.out Sen'.out _ Z3).mono ?_
        rintro e w3 ⟨rfl, b3⟩
        have R3 := Lib.hid (R2.out.trans (b3.mono R2.out.size))
        have KA3 := Lib.hid ((b3.block _ (heap_lt KA2.out)).trans KA2.out)
        have KB3 := Lib.hid ((b3.block _ (heap_lt KB2.out)).trans KB2.out)
        have cA3 := box_cells KA3.out
        have cB3 := box_cells KB3.out
        clear b3 Z3
        cases hen : same en en' with
        | false =>
          have GH := Lib.hid (same_neq hen)
          clear hen
          go_wp2_with fail
          go_ret
          exact ⟨by rw [same_no (α := List D) (x := [.row m0, .row m1, .str nm, .row fs, .row en]) (y := [.row m0', .row m1', .str nm', .row fs', .row en']) (fun z => GH.out (D.row.inj (congrArg (fun z : List D => nth z 4) z)))]; rfl, R3.out⟩
        | true =>
          have Qen := Lib.hid ((same_iff _ _).1 hen)
          clear hen
          have E := Lib.hid (show same (α := List D) [.row m0, .row m1, .str nm, .row fs, .row en] [.row m0', .row m1', .str nm', .row fs', .row en'] = true by
            obtain ⟨rfl, rfl⟩ : m0 = m0' ∧ m1 = m1' := by simpa using QM.out
            obtain rfl := Qnm.out
            obtain rfl := Qfs.out
            obtain rfl := Qen.out
            exact same_refl _)
          go_wp2_with fail
          go_ret
          exact ⟨by rw [E.out]; rfl, R3.out⟩
theorem efn_C (w0 : World) (l l' : List (List D)) (hs : ∀ z ∈ l, ShC z) (hs' : ∀ z ∈ l', ShC z) : EqFn w0 37 l l' := fun x hx y hy vs ws hv hw W hW => sameRecord_step w0 x y (hs x hx) (hs' y hy) vs ws hv hw W hW
end Go.Proofs.YtciijpahjjoppaaGreat
end
section
namespace Go.Proofs.YtciijpahjjoppaaGreat
open Go.RowKit Go.Deep

set_option maxRecDepth 100000 in
set_option maxHeartbeats 1000000 in
theorem equalC_any (w0 : World) (a a' : Option Addr) (len len' cap cap' : Nat) (l l' : List (List D)) (hA : At w0 (.slice a len cap) (.row l)) (hA' : At w0 (.slice a' len' cap') (.row l')) (hs : ∀ x ∈ l, ShC x) (hs' : ∀ x ∈ l', ShC x)
    (hf : EqFn w0 37 l l') (W : World) (hW : Below w0.heap.size w0 W) : Calls Tryz.prog 36 #[.slice a len cap, .slice a' len' cap', .func (.func 37) #[] #[]] W (EqPost l l' W) := by
  have HA := Lib.hid hA
  have HA' := Lib.hid hA'
  have HS := Lib.hid hs
  have HS' := Lib.hid hs'
  have HF := Lib.hid hf
  have HW := Lib.hid hW
  have hle := hA.len_le
  have hle' := hA'.len_le
  have HL := Lib.hid hA.len_eq.1
  have HL' := Lib.hid hA'.len_eq.1
  clear hA hA' hs hs' hf hW
  by_cases hn : len = len'
  · subst hn
    go_enter Tryz.func36, Tryz.ntmps36
    go_wp2_with fail
    go_loopw [17] (fun i wr => ∃ k : Nat, k ≤ len ∧ i = .int .i64 k ∧ l.take k = l'.take k ∧ Below W.heap.size W wr) (fun i _ => len - (intOf i).toNat)
    case atStart => exact ⟨0, Nat.zero_le _, rfl, rfl, Below.refl _ _⟩
    case round =>
      obtain ⟨k, hk, rfl, ht, hb⟩ := hrel
      have HT := Lib.hid ht
      have HB := Lib.hid hb
      clear ht hb
      by_cases hlt : k < len
      · obtain ⟨b, o, vs, ds, rfl, hbl, hx, hv, hc⟩ := HA.out.elem hlt
        obtain ⟨b', o', vs', ds', rfl, hbl', hx', hv', hc'⟩ := HA'.out.elem hlt
        have hfn := HF.out ds (List.mem_of_getElem? hx) ds' (List.mem_of_getElem? hx') vs vs' hv hv'
        obtain ⟨m0, m1, nm, fs, en, m0a, m0c, m1a, m1c, fsa, fsc, ena, enc, hds, hvs, _⟩ := hv.openC (HS.out _ (List.mem_of_getElem? hx))
        obtain ⟨m0', m1', nm', fs', en', m0a', m0c', m1a', m1c', fsa', fsc', ena', enc', hds', hvs', _⟩ := hv'.openC (HS'.out _ (List.mem_of_getElem? hx'))
        subst hvs hvs'
        have hdl : ds.length = 5 := by rw [hds]; rfl
        have hdl' : ds'.length = 5 := by rw [hds']; rfl
        rw [hdl] at hc
        rw [hdl'] at hc'
        clear hds hds' hdl hdl' hv hv'
        have B0 := HW.out.trans (HB.out.mono HW.out.size)
        have c0 := (B0.cell (p := ⟨b, o + k * 5, none⟩) hbl).trans (hc 0 _ rfl)
        have c1 := (B0.cell (p := ⟨b, o + k * 5 + 1, none⟩) hbl).trans (hc 1 _ rfl)
        have c2 := (B0.cell (p := ⟨b, o + k * 5 + 2, none⟩) hbl).trans (hc 2 _ rfl)
        have c3 := (B0.cell (p := ⟨b, o + k * 5 + 3, none⟩) hbl).trans (hc 3 _ rfl)
        have c4 := (B0.cell (p := ⟨b, o + k * 5 + 4, none⟩) hbl).trans (hc 4 _ rfl)
        have c0' := (B0.cell (p := ⟨b', o' + k * 5, none⟩) hbl').trans (hc' 0 _ rfl)
        have c1' := (B0.cell (p := ⟨b', o' + k * 5 + 1, none⟩) hbl').trans (hc' 1 _ rfl)
        have c2' := (B0.cell (p := ⟨b', o' + k * 5 + 2, none⟩) hbl').trans (hc' 2 _ rfl)
        have c3' := (B0.cell (p := ⟨b', o' + k * 5 + 3, none⟩) hbl').trans (hc' 3 _ rfl)
        have c4' := (B0.cell (p := ⟨b', o' + k * 5 + 4, none⟩) hbl').trans (hc' 4 _ rfl)
        have hbw : b < wr.heap.size := Nat.lt_of_lt_of_le hbl B0.size
        have hbw' : b' < wr.heap.size := Nat.lt_of_lt_of_le hbl' B0.size
        have FN := Lib.hid hfn
        have HX := Lib.hid hx
        have HX' := Lib.hid hx'
        have HB0 := Lib.hid B0
        clear hfn hx hx' B0 hc hc'
        go_wp2_with fail
        have B2 := HB0.out.trans (((Below.refl wr.heap.size wr).alloc (Nat.le_refl _) (.cells #[.slice m0a m0.length m0c, .slice m1a m1.length m1c, .string nm, .slice fsa fs.length fsc, .slice ena en.length enc] 62)).mono HB0.out.size)
        have B3 := B2.trans (((Below.refl _ (wr.alloc (.cells #[.slice m0a m0.length m0c, .slice m1a m1.length m1c, .string nm, .slice fsa fs.length fsc, .slice ena en.length enc] 62))).alloc (Nat.le_refl _) (.cells #[.slice m0a' m0'.length m0c', .slice m1a' m1'.length m1c', .string nm', .slice fsa' fs'.length fsc', .slice ena' en'.length enc'] 62)).mono B2.size)
        refine (FN.out _ B3).mono ?_
        rintro e w3 ⟨rfl, b3⟩
        have B4 := HB.out.trans ((((Below.refl wr.heap.size wr).alloc (Nat.le_refl _) (.cells #[.slice m0a m0.length m0c, .slice m1a m1.length m1c, .string nm, .slice fsa fs.length fsc, .slice ena en.length enc] 62)).alloc (by simp) (.cells #[.slice m0a' m0'.length m0c', .slice m1a' m1'.length m1c', .string nm', .slice fsa' fs'.length fsc', .slice ena' en'.length enc'] 62)).mono HB.out.size)
        have HB4 := Lib.hid (B4.trans (b3.mono B4.size))
        clear b3 B4 B2 B3 c0 c1 c2 c3 c4 c0' c1' c2' c3' c4'
        cases hsm : same ds ds' with
        | true =>
          have HE := Lib.hid ((same_iff _ _).1 hsm)
          clear hsm
          go_wp2_with fail
          go_roundw
          case rel => exact ⟨k + 1, by omega, by go_num, take_same_succ HX.out (HE.out ▸ HX'.out) HT.out, HB4.out⟩
          case measure => simp [intOf]; omega
        | false =>
          have HE := Lib.hid (same_miss HX.out HX'.out hsm)
          clear hsm
          go_wp2_with fail
          go_ret
          exact ⟨by rw [HE.out]; rfl, HB4.out⟩
      · obtain rfl : k = len := by omega
        go_wp2_with fail
        go_ret
        exact ⟨by rw [same_end (HL.out.trans HL'.out.symm) (by rw [HL.out]; exact HT.out)]; rfl, HB.out⟩
  · have hne : (len == len') = false := by simpa using hn
    have HN := Lib.hid (same_len (l := l) (l' := l') (by rw [HL.out, HL'.out]; exact hn))
    go_enter Tryz.func36, Tryz.ntmps36
    go_wp2_with fail
    go_ret
    exact ⟨by rw [HN.out]; rfl, Below.refl _ _⟩
end Go.Proofs.YtciijpahjjoppaaGreat
end
section
namespace Go.Proofs.YtciijpahjjoppaaGreat
open Go.RowKit Go.Deep
set_option maxRecDepth 100000 in
set_option maxHeartbeats 1000000 in
theorem equalP_any (w0 : World) (a a' : Option Addr) (len len' cap cap' : Nat) (l l' : List (List D)) (hA : At w0 (.slice a len cap) (.row l)) (hA' : At w0 (.slice a' len' cap') (.row l')) (hs : ∀ x ∈ l, ShP x) (hs' : ∀ x ∈ l', ShP x)
    (W : World) (hW : Below w0.heap.size w0 W) : Calls Tryz.prog 85 #[.slice a len cap, .slice a' len' cap'] W (EqPost l l' W) := by
  have HA := Lib.hid hA
  have HA' := Lib.hid hA'
  have HS := Lib.hid hs
  have HS' := Lib.hid hs'
  have HW := Lib.hid hW
  have hle := hA.len_le
  have hle' := hA'.len_le
  have HL := Lib.hid hA.len_eq.1
  have HL' := Lib.hid hA'.len_eq.1
  clear hA hA' hs hs' hW
  by_cases hn : len = len'
  · subst hn
    go_enter Tryz.func85, Tryz.ntmps85
    go_wp2_with fail
    go_loopw [13] (fun i wr => ∃ k : Nat, k ≤ len ∧ i = .int .i64 k ∧ l.take k = l'.take k ∧ Below W.heap.size W wr) (fun i _ => len - (intOf i).toNat)
    case atStart => exact ⟨0, Nat.zero_le _, rfl, rfl, Below.refl _ _⟩
    case round =>
      obtain ⟨k, hk, rfl, ht, hb⟩ := hrel
      have HT := Lib.hid ht
      have HB := Lib.hid hb
      clear ht hb
      by_cases hlt : k < len
      · obtain ⟨b, o, vs, ds, rfl, hbl, hx, hv, hc⟩ := HA.out.elem hlt
        obtain ⟨b', o', vs', ds', rfl, hbl', hx', hv', hc'⟩ := HA'.out.elem hlt
        obtain ⟨nm, kd, sz, tn, md, rfl, rfl, _⟩ := hv.openP (HS.out _ (List.mem_of_getElem? hx))
        obtain ⟨nm', kd', sz', tn', md', rfl, rfl, _⟩ := hv'.openP (HS'.out _ (List.mem_of_getElem? hx'))
        have B0 := HW.out.trans (HB.out.mono HW.out.size)
        have hc : ∀ (i : Nat) (v : Value), [Value.string nm, .int .i64 kd, .int .i64 sz, .string tn, .int .i64 md][i]? = some v → w0.cell? ⟨b, o + k * 5 + i, none⟩ = some v := hc
        have hc' : ∀ (i : Nat) (v : Value), [Value.string nm', .int .i64 kd', .int .i64 sz', .string tn', .int .i64 md'][i]? = some v → w0.cell? ⟨b', o' + k * 5 + i, none⟩ = some v := hc'
        have c0 := (B0.cell (p := ⟨b, o + k * 5, none⟩) hbl).trans (hc 0 _ rfl)
        have c1 := (B0.cell (p := ⟨b, o + k * 5 + 1, none⟩) hbl).trans (hc 1 _ rfl)
        have c2 := (B0.cell (p := ⟨b, o + k * 5 + 2, none⟩) hbl).trans (hc 2 _ rfl)
        have c3 := (B0.cell (p := ⟨b, o + k * 5 + 3, none⟩) hbl).trans (hc 3 _ rfl)
        have c4 := (B0.cell (p := ⟨b, o + k * 5 + 4, none⟩) hbl).trans (hc 4 _ rfl)
        have c0' := (B0.cell (p := ⟨b', o' + k * 5, none⟩) hbl').trans (hc' 0 _ rfl)
        have c1' := (B0.cell (p := ⟨b', o' + k * 5 + 1, none⟩) hbl').trans (hc' 1 _ rfl)
        have c2' := (B0.cell (p := ⟨b', o' + k * 5 + 2, none⟩) hbl').trans (hc' 2 _ rfl)
        have c3' := (B0.cell (p := ⟨b', o' + k * 5 + 3, none⟩) hbl').trans (hc' 3 _ rfl)
        have c4' := (B0.cell (p := ⟨b', o' + k * 5 + 4, none⟩) hbl').trans (hc' 4 _ rfl)
        have hgd : Tryz.prog.eqGuardType Tryz.prog.depth 133 = false := by kernel_rfl
        have HX := Lib.hid hx
        have HX' := Lib.hid hx'
        clear hx hx' B0 hc hc' hv hv'
        cases hsm : pmSame nm nm' kd kd' sz sz' tn tn' md md' with
        | true =>
          have HE := Lib.hid (show ([.str nm, .int kd, .int sz, .str tn, .int md] : List D) = [.str nm', .int kd', .int sz', .str tn', .int md'] by obtain ⟨rfl, ⟨rfl, rfl, rfl⟩, rfl⟩ := pmSame_iff.1 hsm; rfl)
          have TYF := fun w => (pm_neq nm nm' kd kd' sz sz' tn tn' md md' w).trans (by rw [hsm, Bool.not_true])
          clear hsm
          go_wp2_with fail
          go_quiet (fail)
          go_wp2_with fail
          go_roundw
          case rel => exact ⟨k + 1, by omega, by go_num, take_same_succ HX.out (HE.out ▸ HX'.out) HT.out, below_drewE HB.out _⟩
          case measure => simp [intOf]; omega
        | false =>
          have HE := Lib.hid (same_miss HX.out HX'.out (same_no fun e => by
            have : pmSame nm nm' kd kd' sz sz' tn tn' md md' = true := pmSame_iff.2 (by simp at e; exact ⟨e.1, ⟨e.2.1, e.2.2.1, e.2.2.2.1⟩, e.2.2.2.2⟩)
            rw [hsm] at this
            cases this))
          have TYF := fun w => (pm_neq nm nm' kd kd' sz sz' tn tn' md md' w).trans (by rw [hsm, Bool.not_false])
          clear hsm
          go_wp2_with fail
          go_quiet (fail)
          go_wp2_with fail
          go_ret
          exact ⟨by rw [HE.out]; rfl, below_drewE HB.out _⟩
      · obtain rfl : k = len := by omega
        go_wp2_with fail
        go_ret
        exact ⟨by rw [same_end (HL.out.trans HL'.out.symm) (by rw [HL.out]; exact HT.out)]; rfl, HB.out⟩
  · have hne : (len == len') = false := by simpa using hn
    have HN := Lib.hid (same_len (l := l) (l' := l') (by rw [HL.out, HL'.out]; exact hn))
    go_enter Tryz.func85, Tryz.ntmps85
    go_wp2_with fail
    go_ret
    exact ⟨by rw [HN.out]; rfl, Below.refl _ _⟩
end Go.Proofs.YtciijpahjjoppaaGreat
end
section
namespace Go.Proofs.YtciijpahjjoppaaGreat
open Go.RowKit Go.Deep

set_option maxRecDepth 100000 in
set_option maxHeartbeats 1000000 in
theorem equalE_any (w0 : World) (a a' : Option Addr) (len len' cap cap' : Nat) (l l' : List (List D)) (hA : At w0 (.slice a len cap) (.row l)) (hA' : At w0 (.slice a' len' cap') (.row l')) (hs : ∀ x ∈ l, ShE x) (hs' : ∀ x ∈ l', ShE x)
    (hf : EqFn w0 16 l l') (W : World) (hW : Below w0.heap.size w0 W) : Calls Tryz.prog 48 #[.slice a len cap, .slice a' len' cap', .func (.func 16) #[] #[]] W (EqPost l l' W) := by
  have HA := Lib.hid hA
  have HA' := Lib.hid hA'
  have HS := Lib.hid hs
  have HS' := Lib.hid hs'
  have HF := Lib.hid hf
  have HW := Lib.hid hW
  have hle := hA.len_le
  have hle' := hA'.len_le
  have HL := Lib.hid hA.len_eq.1
  have HL' := Lib.hid hA'.len_eq.1
  clear hA hA' hs hs' hf hW
  by_cases hn : len = len'
  · subst hn
    go_enter Tryz.func48, Tryz.ntmps48
    go_wp2_with fail
    go_loopw [17] (fun i wr => ∃ k : Nat, k ≤ len ∧ i = .int .i64 k ∧ l.take k = l'.take k ∧ Below W.heap.size W wr) (fun i _ => len - (intOf i).toNat)
    case atStart => exact ⟨0, Nat.zero_le _, rfl, rfl, Below.refl _ _⟩
    case round =>
      obtain ⟨k, hk, rfl, ht, hb⟩ := hrel
      have HT := Lib.hid ht
      have HB := Lib.hid hb
      clear ht hb
      by_cases hlt : k < len
      · obtain ⟨b, o, vs, ds, rfl, hbl, hx, hv, hc⟩ := HA.out.elem hlt
        obtain ⟨b', o', vs', ds', rfl, hbl', hx', hv', hc'⟩ := HA'.out.elem hlt
        have hfn := HF.out ds (List.mem_of_getElem? hx) ds' (List.mem_of_getElem? hx') vs vs' hv hv'
        obtain ⟨op, n, nm, fd, kl, kla, klc, hds, hvs, _⟩ := hv.openE (HS.out _ (List.mem_of_getElem? hx))
        obtain ⟨op', n', nm', fd', kl', kla', klc', hds', hvs', _⟩ := hv'.openE (HS'.out _ (List.mem_of_getElem? hx'))
        subst hvs hvs'
        have hdl : ds.length = 5 := by rw [hds]; rfl
        have hdl' : ds'.length = 5 := by rw [hds']; rfl
        rw [hdl] at hc
        rw [hdl'] at hc'
        clear hds hds' hdl hdl' hv hv'
        have B0 := HW.out.trans (HB.out.mono HW.out.size)
        have c0 := (B0.cell (p := ⟨b, o + k * 5, none⟩) hbl).trans (hc 0 _ rfl)
        have c1 := (B0.cell (p := ⟨b, o + k * 5 + 1, none⟩) hbl).trans (hc 1 _ rfl)
        have c2 := (B0.cell (p := ⟨b, o + k * 5 + 2, none⟩) hbl).trans (hc 2 _ rfl)
        have c3 := (B0.cell (p := ⟨b, o + k * 5 + 3, none⟩) hbl).trans (hc 3 _ rfl)
        have c4 := (B0.cell (p := ⟨b, o + k * 5 + 4, none⟩) hbl).trans (hc 4 _ rfl)
        have c0' := (B0.cell (p := ⟨b', o' + k * 5, none⟩) hbl').trans (hc' 0 _ rfl)
        have c1' := (B0.cell (p := ⟨b', o' + k * 5 + 1, none⟩) hbl').trans (hc' 1 _ rfl)
        have c2' := (B0.cell (p := ⟨b', o' + k * 5 + 2, none⟩) hbl').trans (hc' 2 _ rfl)
        have c3' := (B0.cell (p := ⟨b', o' + k * 5 + 3, none⟩) hbl').trans (hc' 3 _ rfl)
        have c4' := (B0.cell (p := ⟨b', o' + k * 5 + 4, none⟩) hbl').trans (hc' 4 _ rfl)
        have hbw : b < wr.heap.size := Nat.lt_of_lt_of_le hbl B0.size
        have hbw' : b' < wr.heap.size := Nat.lt_of_lt_of_le hbl' B0.size
        have FN := Lib.hid hfn
        have HX := Lib.hid hx
        have HX' := Lib.hid hx'
        have HB0 := Lib.hid B0
        clear hfn hx hx' B0 hc hc'
        go_wp2_with fail
        have B2 := HB0.out.trans (((Below.refl wr.heap.size wr).alloc (Nat.le_refl _) (.cells #[.int .i64 op, .int .i64 n, .string nm, .string fd, .slice kla kl.length klc] 24)).mono HB0.out.size)
        have B3 := B2.trans (((Below.refl _ (wr.alloc (.cells #[.int .i64 op, .int .i64 n, .string nm, .string fd, .slice kla kl.length klc] 24))).alloc (Nat.le_refl _) (.cells #[.int .i64 op', .int .i64 n', .string nm', .string fd', .slice kla' kl'.length klc'] 24)).mono B2.size)
        refine (FN.out _ B3).mono ?_
        rintro e w3 ⟨rfl, b3⟩
        have B4 := HB.out.trans ((((Below.refl wr.heap.size wr).alloc (Nat.le_refl _) (.cells #[.int .i64 op, .int .i64 n, .string nm, .string fd, .slice kla kl.length klc] 24)).alloc (by simp) (.cells #[.int .i64 op', .int .i64 n', .string nm', .string fd', .slice kla' kl'.length klc'] 24)).mono HB.out.size)
        have HB4 := Lib.hid (B4.trans (b3.mono B4.size))
        clear b3 B4 B2 B3 c0 c1 c2 c3 c4 c0' c1' c2' c3' c4'
        cases hsm : same ds ds' with
        | true =>
          have HE := Lib.hid ((same_iff _ _).1 hsm)
          clear hsm
          go_wp2_with fail
          go_roundw
          case rel => exact ⟨k + 1, by omega, by go_num, take_same_succ HX.out (HE.out ▸ HX'.out) HT.out, HB4.out⟩
          case measure => simp [intOf]; omega
        | false =>
          have HE := Lib.hid (same_miss HX.out HX'.out hsm)
          clear hsm
          go_wp2_with fail
          go_ret
          exact ⟨by rw [HE.out]; rfl, HB4.out⟩
      · obtain rfl : k = len := by omega
        go_wp2_with fail
        go_ret
        exact ⟨by rw [same_end (HL.out.trans HL'.out.symm) (by rw [HL.out]; exact HT.out)]; rfl, HB.out⟩
  · have hne : (len == len') = false := by simpa using hn
    have HN := Lib.hid (same_len (l := l) (l' := l') (by rw [HL.out, HL'.out]; exact hn))
    go_enter Tryz.func48, Tryz.ntmps48
    go_wp2_with fail
    go_ret
    exact ⟨by rw [HN.out]; rfl, Below.refl _ _⟩
end Go.Proofs.YtciijpahjjoppaaGreat
end
section
namespace Go.Proofs.YtciijpahjjoppaaGreat
open Go.RowKit Go.Deep
set_option maxRecDepth 100000 in
set_option maxHeartbeats 2000000 in
theorem sameExpr_step (w0 : World) (x y : List D) (hx : ShE x) (hy : ShE y) (vs ws : List Value) (hv : AllAt w0 vs x) (hw : AllAt w0 ws y) (fkl : ∀ l l', D.row l ∈ x → D.row l' ∈ y → (∀ z ∈ l, ShE z) → (∀ z ∈ l', ShE z) → EqFn w0 16 l l')
    (W : World) (hW : Below w0.heap.size w0 W) : Calls Tryz.prog 16 #[.agg ⟨vs⟩, .agg ⟨ws⟩] W (EqPost x y W) := by
  obtain ⟨op, n, nm, fd, kl, kla, klc, rfl, rfl, -, -, -, -, akl, skl⟩ := hv.openE hx
  obtain ⟨op', n', nm', fd', kl', kla', klc', rfl, rfl, -, -, -, -, akl', skl'⟩ := hw.openE hy
  have Pkl := Lib.hid (fkl kl kl' (by simp) (by simp) skl skl')
  have Akl := Lib.hid akl
  have Skl := Lib.hid skl
  have Akl' := Lib.hid akl'
  have Skl' := Lib.hid skl'
  clear hx hy hv hw akl akl' skl skl' fkl
  have HW := Lib.hid hW
  clear hW
  cases hop : op == op' with
  | false =>
    have G : op ≠ op' := (by simpa using hop)
    have GH := Lib.hid G
    clear G
    go_enter Tryz.func16, Tryz.ntmps16
    go_wp2_with fail
    go_ret
    exact ⟨by rw [same_no (α := List D) (x := [.int op, .int n, .str nm, .str fd, .row kl]) (y := [.int op', .int n', .str nm', .str fd', .row kl']) (fun z => GH.out (D.int.inj (congrArg (fun z : List D => nth z 0) z)))]; rfl, ((Below.refl _ _).alloc (Nat.le_refl _) _).alloc (by simp) _⟩
  | true =>
    have Qop := Lib.hid (show op = op' from (by simpa using hop))
    cases hn : n == n' with
    | false =>
      have G : n ≠ n' := (by simpa using hn)
      have GH := Lib.hid G
      clear G
      go_enter Tryz.func16, Tryz.ntmps16
      go_wp2_with fail
      go_ret
      exact ⟨by rw [same_no (α := List D) (x := [.int op, .int n, .str nm, .str fd, .row kl]) (y := [.int op', .int n', .str nm', .str fd', .row kl']) (fun z => GH.out (D.int.inj (congrArg (fun z : List D => nth z 1) z)))]; rfl, ((Below.refl _ _).alloc (Nat.le_refl _) _).alloc (by simp) _⟩
    | true =>
      have Qn := Lib.hid (show n = n' from (by simpa using hn))
      cases hnm : nm.toList == nm'.toList with
      | false =>
        have G : nm ≠ nm' := (fun z => by subst z; simp at hnm)
        have GH := Lib.hid G
        clear G
        go_enter Tryz.func16, Tryz.ntmps16
        go_wp2_with fail
        go_ret
        exact ⟨by rw [same_no (α := List D) (x := [.int op, .int n, .str nm, .str fd, .row kl]) (y := [.int op', .int n', .str nm', .str fd', .row kl']) (fun z => GH.out (D.str.inj (congrArg (fun z : List D => nth z 2) z)))]; rfl, ((Below.refl _ _).alloc (Nat.le_refl _) _).alloc (by simp) _⟩
      | true =>
        have Qnm := Lib.hid (show nm = nm' from ((ba_eq_iff _ _).1 hnm))
        cases hfd : fd.toList == fd'.toList with
        | false =>
          have G : fd ≠ fd' := (fun z => by subst z; simp at hfd)
          have GH := Lib.hid G
          clear G
          go_enter Tryz.func16, Tryz.ntmps16
          go_wp2_with fail
          go_ret
          exact ⟨by rw [same_no (α := List D) (x := [.int op, .int n, .str nm, .str fd, .row kl]) (y := [.int op', .int n', .str nm', .str fd', .row kl']) (fun z => GH.out (D.str.inj (congrArg (fun z : List D => nth z 3) z)))]; rfl, ((Below.refl _ _).alloc (Nat.le_refl _) _).alloc (by simp) _⟩
        | true =>
          have Qfd := Lib.hid (show fd = fd' from ((ba_eq_iff _ _).1 hfd))
          go_enter Tryz.func16, Tryz.ntmps16
          go_wp2_with fail
          have R0 := Lib.hid (((Below.refl W.heap.size W).alloc (Nat.le_refl _) (.cells #[.int .i64 op, .int .i64 n, .string nm, .string fd, .slice kla kl.length klc] 24)).alloc (by simp) (.cells #[.int .i64 op', .int .i64 n', .string nm', .string fd', .slice kla' kl'.length klc'] 24))
          have KA0 := Lib.hid (show ((W.alloc (.cells #[.int .i64 op, .int .i64 n, .string nm, .string fd, .slice kla kl.length klc] 24)).alloc (.cells #[.int .i64 op', .int .i64 n', .string nm', .string fd', .slice kla' kl'.length klc'] 24)).heap[W.heap.size]? = some (.cells #[.int .i64 op, .int .i64 n, .string nm, .string fd, .slice kla kl.length klc] 24) from box_first W (.cells #[.int .i64 op, .int .i64 n, .string nm, .string fd, .slice kla kl.length klc] 24) (.cells #[.int .i64 op', .int .i64 n', .string nm', .string fd', .slice kla' kl'.length klc'] 24))
          have KB0 := Lib.hid (show ((W.alloc (.cells #[.int .i64 op, .int .i64 n, .string nm, .string fd, .slice kla kl.length klc] 24)).alloc (.cells #[.int .i64 op', .int .i64 n', .string nm', .string fd', .slice kla' kl'.length klc'] 24)).heap[W.heap.size + 1]? = some (.cells #[.int .i64 op', .int .i64 n', .string nm', .string fd', .slice kla' kl'.length klc'] 24) from box_second W (.cells #[.int .i64 op, .int .i64 n, .string nm, .string fd, .slice kla kl.length klc] 24) (.cells #[.int .i64 op', .int .i64 n', .string nm', .string fd', .slice kla' kl'.length klc'] 24))
          have Z1 := HW.out.trans (R0.out.mono HW.out.size)
          refine (equalE_any w0 _ _ _ _ _ _ _ _ Akl.out Akl'.out Skl.out Skl'.out Pkl.out _ Z1).mono ?_
          rintro e w1 ⟨rfl, b1⟩
          have R1 := Lib.hid (R0.out.trans (b1.mono R0.out.size))
          have KA1 := Lib.hid ((b1.block _ (heap_lt KA0.out)).trans KA0.out)
          have KB1 := Lib.hid ((b1.block _ (heap_lt KB0.out)).trans KB0.out)
          have cA1 := box_cells KA1.out
          have cB1 := box_cells KB1.out
          clear b1 Z1
          cases hkl : same kl kl' with
          | false =>
            have GH := Lib.hid (same_neq hkl)
            clear hkl
            go_wp2_with fail
            go_ret
            exact ⟨by rw [same_no (α := List D) (x := [.int op, .int n, .str nm, .str fd, .row kl]) (y := [.int op', .int n', .str nm', .str fd', .row kl']) (fun z => GH.out (D.row.inj (congrArg (fun z : List D => nth z 4) z)))]; rfl, R1.out⟩
          | true =>
            have Qkl := Lib.hid ((same_iff _ _).1 hkl)
            clear hkl
            have E := Lib.hid (show same (α := List D) [.int op, .int n, .str nm, .str fd, .row kl] [.int op', .int n', .str nm', .str fd', .row kl'] = true by
              obtain rfl := Qop.out
              obtain rfl := Qn.out
              obtain rfl := Qnm.out
              obtain rfl := Qfd.out
              obtain rfl := Qkl.out
              exact same_refl _)
            go_wp2_with fail
            go_ret
            exact ⟨by rw [E.out]; rfl, R1.out⟩
end Go.Proofs.YtciijpahjjoppaaGreat
end
section
namespace Go.Proofs.YtciijpahjjoppaaGreat
open Go.RowKit Go.Deep

theorem tyList_no {kd kd' sz sz' : Int} {tn tn' : ByteArray} (h : tySame kd kd' sz sz' tn tn' = false) : ([.int kd, .int sz, .str tn] : List D) ≠ [.int kd', .int sz', .str tn'] := fun e => by
  have : tySame kd kd' sz sz' tn tn' = true := tySame_iff.2 (by simpa using e)
  rw [h] at this
  cases this
theorem size_in {x z : List D} {l : List (List D)} (hl : D.row l ∈ x) (hz : z ∈ l) : SizeOf.sizeOf z < SizeOf.sizeOf x := by
  have h1 := List.sizeOf_lt_of_mem hl
  have h2 := List.sizeOf_lt_of_mem hz
  have h3 : SizeOf.sizeOf (D.row l) = 1 + SizeOf.sizeOf l := by simp
  omega
theorem size_pos (x : List D) : 0 < SizeOf.sizeOf x := by cases x <;> simp <;> omega
theorem sameExpr_upto (w0 : World) (n : Nat) : ∀ x y : List D, SizeOf.sizeOf x ≤ n → ShE x → ShE y → ∀ vs ws, AllAt w0 vs x → AllAt w0 ws y → ∀ W, Below w0.heap.size w0 W → Calls Tryz.prog 16 #[.agg ⟨vs⟩, .agg ⟨ws⟩] W (EqPost x y W) := by
  induction n with
  | zero => intro x y h; have := size_pos x; omega
  | succ n ih =>
    intro x y hn hx hy vs ws hv hw W hW
    exact sameExpr_step w0 x y hx hy vs ws hv hw (fun l l' hl _ hs hs' z hz z' hz' vs ws hv hw W hW => ih z z' (by have := size_in hl hz; omega) (hs z hz) (hs' z' hz') vs ws hv hw W hW) W hW
theorem sameExpr_any (w0 : World) (x y : List D) (hx : ShE x) (hy : ShE y) (vs ws : List Value) (hv : AllAt w0 vs x) (hw : AllAt w0 ws y) (W : World) (hW : Below w0.heap.size w0 W) : Calls Tryz.prog 16 #[.agg ⟨vs⟩, .agg ⟨ws⟩] W (EqPost x y W) :=
  sameExpr_upto w0 _ x y (Nat.le_refl _) hx hy vs ws hv hw W hW
theorem efn_E (w0 : World) (l l' : List (List D)) (hs : ∀ z ∈ l, ShE z) (hs' : ∀ z ∈ l', ShE z) : EqFn w0 16 l l' := fun x hx y hy vs ws hv hw W hW => sameExpr_any w0 x y (hs x hx) (hs' y hy) vs ws hv hw W hW
end Go.Proofs.YtciijpahjjoppaaGreat
end
section
namespace Go.Proofs.YtciijpahjjoppaaGreat
open Go.RowKit Go.Deep
set_option maxRecDepth 100000 in
set_option maxHeartbeats 2000000 in
theorem sameVariable_step (w0 : World) (x y : List D) (hx : ShV x) (hy : ShV y) (vs ws : List Value) (hv : AllAt w0 vs x) (hw : AllAt w0 ws y)
    (W : World) (hW : Below w0.heap.size w0 W) : Calls Tryz.prog 39 #[.agg ⟨vs⟩, .agg ⟨ws⟩] W (EqPost x y W) := by
  obtain ⟨m0, m1, nm, kd, sz, tn, m0a, m0c, m1a, m1c, rfl, rfl, am0, am1, -, -, -, -, sm0, sm1⟩ := hv.openV hx
  obtain ⟨m0', m1', nm', kd', sz', tn', m0a', m0c', m1a', m1c', rfl, rfl, am0', am1', -, -, -, -, sm0', sm1'⟩ := hw.openV hy
  have Am0 := Lib.hid am0
  have Am1 := Lib.hid am1
  have Sm0 := Lib.hid sm0
  have Sm1 := Lib.hid sm1
  have Am0' := Lib.hid am0'
  have Am1' := Lib.hid am1'
  have Sm0' := Lib.hid sm0'
  have Sm1' := Lib.hid sm1'
  clear hx hy hv hw am0 am0' am1 am1' sm0 sm0' sm1 sm1'
  have HW := Lib.hid hW
  clear hW
  go_enter Tryz.func39, Tryz.ntmps39
  go_wp2_with fail
  have R0 := Lib.hid (((Below.refl W.heap.size W).alloc (Nat.le_refl _) (.cells #[.slice m0a m0.length m0c, .slice m1a m1.length m1c, .string nm, .int .i64 kd, .int .i64 sz, .string tn] 75)).alloc (by simp) (.cells #[.slice m0a' m0'.length m0c', .slice m1a' m1'.length m1c', .string nm', .int .i64 kd', .int .i64 sz', .string tn'] 75))
  have KA0 := Lib.hid (show ((W.alloc (.cells #[.slice m0a m0.length m0c, .slice m1a m1.length m1c, .string nm, .int .i64 kd, .int .i64 sz, .string tn] 75)).alloc (.cells #[.slice m0a' m0'.length m0c', .slice m1a' m1'.length m1c', .string nm', .int .i64 kd', .int .i64 sz', .string tn'] 75)).heap[W.heap.size]? = some (.cells #[.slice m0a m0.length m0c, .slice m1a m1.length m1c, .string nm, .int .i64 kd, .int .i64 sz, .string tn] 75) from box_first W (.cells #[.slice m0a m0.length m0c, .slice m1a m1.length m1c, .string nm, .int .i64 kd, .int .i64 sz, .string tn] 75) (.cells #[.slice m0a' m0'.length m0c', .slice m1a' m1'.length m1c', .string nm', .int .i64 kd', .int .i64 sz', .string tn'] 75))
  have KB0 := Lib.hid (show ((W.alloc (.cells #[.slice m0a m0.length m0c, .slice m1a m1.length m1c, .string nm, .int .i64 kd, .int .i64 sz, .string tn] 75)).alloc (.cells #[.slice m0a' m0'.length m0c', .slice m1a' m1'.length m1c', .string nm', .int .i64 kd', .int .i64 sz', .string tn'] 75)).heap[W.heap.size + 1]? = some (.cells #[.slice m0a' m0'.length m0c', .slice m1a' m1'.length m1c', .string nm', .int .i64 kd', .int .i64 sz', .string tn'] 75) from box_second W (.cells #[.slice m0a m0.length m0c, .slice m1a m1.length m1c, .string nm, .int .i64 kd, .int .i64 sz, .string tn] 75) (.cells #[.slice m0a' m0'.length m0c', .slice m1a' m1'.length m1c', .string nm', .int .i64 kd', .int .i64 sz', .string tn'] 75))
  have Z1 := HW.out.trans (R0.out.mono HW.out.size)
  refine (sameMarks_any w0 _ _ _ _ _ _ _ _ _ _ _ _ Am0.out Am1.out Am0'.out Am1'.out Sm0.out Sm1.out Sm0'.out Sm1'.out _ Z1).mono ?_
  rintro e w1 ⟨rfl, b1⟩
  have R1 := Lib.hid (R0.out.trans (b1.mono R0.out.size))
  have KA1 := Lib.hid ((b1.block _ (heap_lt KA0.out)).trans KA0.out)
  have KB1 := Lib.hid ((b1.block _ (heap_lt KB0.out)).trans KB0.out)
  have cA1 := box_cells KA1.out
  have cB1 := box_cells KB1.out
  clear b1 Z1
  cases hM : same (α := List D) [.row m0, .row m1] [.row m0', .row m1'] with
  | false =>
    have GH := Lib.hid (same_neq hM)
    clear hM
    go_wp2_with fail
    go_ret
    exact ⟨by rw [same_no (α := List D) (x := [.row m0, .row m1, .str nm, .int kd, .int sz, .str tn]) (y := [.row m0', .row m1', .str nm', .int kd', .int sz', .str tn']) (fun z => GH.out (congrArg (fun z : List D => (z.drop 0).take 2) z))]; rfl, R1.out⟩
  | true =>
    have QM := Lib.hid ((same_iff _ _).1 hM)
    clear hM
    cases hnm : nm.toList == nm'.toList with
    | false =>
      have G : nm ≠ nm' := (fun z => by subst z; simp at hnm)
      have GH := Lib.hid G
      clear G
      go_wp2_with fail
      go_ret
      exact ⟨by rw [same_no (α := List D) (x := [.row m0, .row m1, .str nm, .int kd, .int sz, .str tn]) (y := [.row m0', .row m1', .str nm', .int kd', .int sz', .str tn']) (fun z => GH.out (D.str.inj (congrArg (fun z : List D => nth z 2) z)))]; rfl, R1.out⟩
    | true =>
      have Qnm := Lib.hid (show nm = nm' from ((ba_eq_iff _ _).1 hnm))
      cases hTY : tySame kd kd' sz sz' tn tn' with
      | false =>
        have TYF := fun w => (ty_eql kd kd' sz sz' tn tn' w).trans (by rw [hTY])
        have hgd : Tryz.prog.eqGuardType Tryz.prog.depth 73 = false := by kernel_rfl
        have GH := Lib.hid (tyList_no hTY)
        clear hTY
        go_wp2_with fail
        go_ret
        exact ⟨by rw [same_no (α := List D) (x := [.row m0, .row m1, .str nm, .int kd, .int sz, .str tn]) (y := [.row m0', .row m1', .str nm', .int kd', .int sz', .str tn']) (fun z => GH.out (congrArg (fun z : List D => (z.drop 3).take 3) z))]; rfl, R1.out⟩
      | true =>
        have TYF := fun w => (ty_eql kd kd' sz sz' tn tn' w).trans (by rw [hTY])
        have hgd : Tryz.prog.eqGuardType Tryz.prog.depth 73 = false := by kernel_rfl
        have QTY := Lib.hid (tySame_iff.1 hTY)
        clear hTY
        have E := Lib.hid (show same (α := List D) [.row m0, .row m1, .str nm, .int kd, .int sz, .str tn] [.row m0', .row m1', .str nm', .int kd', .int sz', .str tn'] = true by
          obtain ⟨rfl, rfl⟩ : m0 = m0' ∧ m1 = m1' := by simpa using QM.out
          obtain rfl := Qnm.out
          obtain ⟨rfl, rfl, rfl⟩ : kd = kd' ∧ sz = sz' ∧ tn = tn' := QTY.out
          exact same_refl _)
        go_wp2_with fail
        go_ret
        exact ⟨by rw [E.out]; rfl, R1.out⟩
theorem efn_V (w0 : World) (l l' : List (List D)) (hs : ∀ z ∈ l, ShV z) (hs' : ∀ z ∈ l', ShV z) : EqFn w0 39 l l' := fun x hx y hy vs ws hv hw W hW => sameVariable_step w0 x y (hs x hx) (hs' y hy) vs ws hv hw W hW
end Go.Proofs.YtciijpahjjoppaaGreat
end
section
namespace Go.Proofs.YtciijpahjjoppaaGreat
open Go.RowKit Go.Deep

set_option maxRecDepth 100000 in
set_option maxHeartbeats 1000000 in
theorem equalV_any (w0 : World) (a a' : Option Addr) (len len' cap cap' : Nat) (l l' : List (List D)) (hA : At w0 (.slice a len cap) (.row l)) (hA' : At w0 (.slice a' len' cap') (.row l')) (hs : ∀ x ∈ l, ShV x) (hs' : ∀ x ∈ l', ShV x)
    (hf : EqFn w0 39 l l') (W : World) (hW : Below w0.heap.size w0 W) : Calls Tryz.prog 38 #[.slice a len cap, .slice a' len' cap', .func (.func 39) #[] #[]] W (EqPost l l' W) := by
  have HA := Lib.hid hA
  have HA' := Lib.hid hA'
  have HS := Lib.hid hs
  have HS' := Lib.hid hs'
  have HF := Lib.hid hf
  have HW := Lib.hid hW
  have hle := hA.len_le
  have hle' := hA'.len_le
  have HL := Lib.hid hA.len_eq.1
  have HL' := Lib.hid hA'.len_eq.1
  clear hA hA' hs hs' hf hW
  by_cases hn : len = len'
  · subst hn
    go_enter Tryz.func38, Tryz.ntmps38
    go_wp2_with fail
    go_loopw [17] (fun i wr => ∃ k : Nat, k ≤ len ∧ i = .int .i64 k ∧ l.take k = l'.take k ∧ Below W.heap.size W wr) (fun i _ => len - (intOf i).toNat)
    case atStart => exact ⟨0, Nat.zero_le _, rfl, rfl, Below.refl _ _⟩
    case round =>
      obtain ⟨k, hk, rfl, ht, hb⟩ := hrel
      have HT := Lib.hid ht
      have HB := Lib.hid hb
      clear ht hb
      by_cases hlt : k < len
      · obtain ⟨b, o, vs, ds, rfl, hbl, hx, hv, hc⟩ := HA.out.elem hlt
        obtain ⟨b', o', vs', ds', rfl, hbl', hx', hv', hc'⟩ := HA'.out.elem hlt
        have hfn := HF.out ds (List.mem_of_getElem? hx) ds' (List.mem_of_getElem? hx') vs vs' hv hv'
        obtain ⟨m0, m1, nm, kd, sz, tn, m0a, m0c, m1a, m1c, hds, hvs, _⟩ := hv.openV (HS.out _ (List.mem_of_getElem? hx))
        obtain ⟨m0', m1', nm', kd', sz', tn', m0a', m0c', m1a', m1c', hds', hvs', _⟩ := hv'.openV (HS'.out _ (List.mem_of_getElem? hx'))
        subst hvs hvs'
        have hdl : ds.length = 6 := by rw [hds]; rfl
        have hdl' : ds'.length = 6 := by rw [hds']; rfl
        rw [hdl] at hc
        rw [hdl'] at hc'
        clear hds hds' hdl hdl' hv hv'
        have B0 := HW.out.trans (HB.out.mono HW.out.size)
        have c0 := (B0.cell (p := ⟨b, o + k * 6, none⟩) hbl).trans (hc 0 _ rfl)
        have c1 := (B0.cell (p := ⟨b, o + k * 6 + 1, none⟩) hbl).trans (hc 1 _ rfl)
        have c2 := (B0.cell (p := ⟨b, o + k * 6 + 2, none⟩) hbl).trans (hc 2 _ rfl)
        have c3 := (B0.cell (p := ⟨b, o + k * 6 + 3, none⟩) hbl).trans (hc 3 _ rfl)
        have c4 := (B0.cell (p := ⟨b, o + k * 6 + 4, none⟩) hbl).trans (hc 4 _ rfl)
        have c5 := (B0.cell (p := ⟨b, o + k * 6 + 5, none⟩) hbl).trans (hc 5 _ rfl)
        have c0' := (B0.cell (p := ⟨b', o' + k * 6, none⟩) hbl').trans (hc' 0 _ rfl)
        have c1' := (B0.cell (p := ⟨b', o' + k * 6 + 1, none⟩) hbl').trans (hc' 1 _ rfl)
        have c2' := (B0.cell (p := ⟨b', o' + k * 6 + 2, none⟩) hbl').trans (hc' 2 _ rfl)
        have c3' := (B0.cell (p := ⟨b', o' + k * 6 + 3, none⟩) hbl').trans (hc' 3 _ rfl)
        have c4' := (B0.cell (p := ⟨b', o' + k * 6 + 4, none⟩) hbl').trans (hc' 4 _ rfl)
        have c5' := (B0.cell (p := ⟨b', o' + k * 6 + 5, none⟩) hbl').trans (hc' 5 _ rfl)
        have hbw : b < wr.heap.size := Nat.lt_of_lt_of_le hbl B0.size
        have hbw' : b' < wr.heap.size := Nat.lt_of_lt_of_le hbl' B0.size
        have FN := Lib.hid hfn
        have HX := Lib.hid hx
        have HX' := Lib.hid hx'
        have HB0 := Lib.hid B0
        clear hfn hx hx' B0 hc hc'
        go_wp2_with fail
        have B2 := HB0.out.trans (((Below.refl wr.heap.size wr).alloc (Nat.le_refl _) (.cells #[.slice m0a m0.length m0c, .slice m1a m1.length m1c, .string nm, .int .i64 kd, .int .i64 sz, .string tn] 75)).mono HB0.out.size)
        have B3 := B2.trans (((Below.refl _ (wr.alloc (.cells #[.slice m0a m0.length m0c, .slice m1a m1.length m1c, .string nm, .int .i64 kd, .int .i64 sz, .string tn] 75))).alloc (Nat.le_refl _) (.cells #[.slice m0a' m0'.length m0c', .slice m1a' m1'.length m1c', .string nm', .int .i64 kd', .int .i64 sz', .string tn'] 75)).mono B2.size)
        refine (FN.out _ B3).mono ?_
        rintro e w3 ⟨rfl, b3⟩
        have B4 := HB.out.trans ((((Below.refl wr.heap.size wr).alloc (Nat.le_refl _) (.cells #[.slice m0a m0.length m0c, .slice m1a m1.length m1c, .string nm, .int .i64 kd, .int .i64 sz, .string tn] 75)).alloc (by simp) (.cells #[.slice m0a' m0'.length m0c', .slice m1a' m1'.length m1c', .string nm', .int .i64 kd', .int .i64 sz', .string tn'] 75)).mono HB.out.size)
        have HB4 := Lib.hid (B4.trans (b3.mono B4.size))
        clear b3 B4 B2 B3 c0 c1 c2 c3 c4 c5 c0' c1' c2' c3' c4' c5'
        cases hsm : same ds ds' with
        | true =>
          have HE := Lib.hid ((same_iff _ _).1 hsm)
          clear hsm
          go_wp2_with fail
          go_roundw
          case rel => exact ⟨k + 1, by omega, by go_num, take_same_succ HX.out (HE.out ▸ HX'.out) HT.out, HB4.out⟩
          case measure => simp [intOf]; omega
        | false =>
          have HE := Lib.hid (same_miss HX.out HX'.out hsm)
          clear hsm
          go_wp2_with fail
          go_ret
          exact ⟨by rw [HE.out]; rfl, HB4.out⟩
      · obtain rfl : k = len := by omega
        go_wp2_with fail
        go_ret
        exact ⟨by rw [same_end (HL.out.trans HL'.out.symm) (by rw [HL.out]; exact HT.out)]; rfl, HB.out⟩
  · have hne : (len == len') = false := by simpa using hn
    have HN := Lib.hid (same_len (l := l) (l' := l') (by rw [HL.out, HL'.out]; exact hn))
    go_enter Tryz.func38, Tryz.ntmps38
    go_wp2_with fail
    go_ret
    exact ⟨by rw [HN.out]; rfl, Below.refl _ _⟩
end Go.Proofs.YtciijpahjjoppaaGreat
end
section
namespace Go.Proofs.YtciijpahjjoppaaGreat
open Go.RowKit Go.Deep
theorem ShS.lenS {ds : List D} (h : ShS ds) : ds.length = 16 := by cases h; rfl

set_option maxRecDepth 100000 in
set_option maxHeartbeats 1000000 in
theorem equalS_any (w0 : World) (a a' : Option Addr) (len len' cap cap' : Nat) (l l' : List (List D)) (hA : At w0 (.slice a len cap) (.row l)) (hA' : At w0 (.slice a' len' cap') (.row l')) (hs : ∀ x ∈ l, ShS x) (hs' : ∀ x ∈ l', ShS x)
    (hf : EqFn w0 43 l l') (W : World) (hW : Below w0.heap.size w0 W) : Calls Tryz.prog 42 #[.slice a len cap, .slice a' len' cap', .func (.func 43) #[] #[]] W (EqPost l l' W) := by
  have HA := Lib.hid hA
  have HA' := Lib.hid hA'
  have HS := Lib.hid hs
  have HS' := Lib.hid hs'
  have HF := Lib.hid hf
  have HW := Lib.hid hW
  have hle := hA.len_le
  have hle' := hA'.len_le
  have HL := Lib.hid hA.len_eq.1
  have HL' := Lib.hid hA'.len_eq.1
  clear hA hA' hs hs' hf hW
  by_cases hn : len = len'
  · subst hn
    go_enter Tryz.func42, Tryz.ntmps42
    go_wp2_with fail
    go_loopw [17] (fun i wr => ∃ k : Nat, k ≤ len ∧ i = .int .i64 k ∧ l.take k = l'.take k ∧ Below W.heap.size W wr) (fun i _ => len - (intOf i).toNat)
    case atStart => exact ⟨0, Nat.zero_le _, rfl, rfl, Below.refl _ _⟩
    case round =>
      obtain ⟨k, hk, rfl, ht, hb⟩ := hrel
      have HT := Lib.hid ht
      have HB := Lib.hid hb
      clear ht hb
      by_cases hlt : k < len
      · obtain ⟨b, o, vs, ds, rfl, hbl, hx, hv, hc⟩ := HA.out.elem hlt
        obtain ⟨b', o', vs', ds', rfl, hbl', hx', hv', hc'⟩ := HA'.out.elem hlt
        have hfn := HF.out ds (List.mem_of_getElem? hx) ds' (List.mem_of_getElem? hx') vs vs' hv hv'
        have hdl : ds.length = 16 := (HS.out _ (List.mem_of_getElem? hx)).lenS
        have hdl' : ds'.length = 16 := (HS'.out _ (List.mem_of_getElem? hx')).lenS
        rw [hdl] at hc
        rw [hdl'] at hc'
        have hvl := Lib.hid (hv.len.trans hdl)
        have hvl' := Lib.hid (hv'.len.trans hdl')
        have hvo := Lib.hid hv.one
        have hvo' := Lib.hid hv'.one
        clear hdl hdl' hv hv'
        have B0 := HW.out.trans (HB.out.mono HW.out.size)
        have hbw : b < wr.heap.size := Nat.lt_of_lt_of_le hbl B0.size
        have hbw' : b' < wr.heap.size := Nat.lt_of_lt_of_le hbl' B0.size
        have C0 := Lib.hid (show ∀ j v, vs[j]? = some v → wr.cell? ⟨b, o + k * 16 + j, none⟩ = some v from fun j v hv => (B0.cell (p := ⟨b, o + k * 16 + j, none⟩) hbl).trans (hc j v hv))
        have N1 := (Below.refl wr.heap.size wr).alloc (Nat.le_refl _) (.cells ⟨vs⟩ 84)
        have N2 := N1.alloc (by simp) (.cells ⟨vs'⟩ 84)
        have C1 := Lib.hid (show ∀ j v, vs'[j]? = some v → (wr.alloc (.cells ⟨vs⟩ 84)).cell? ⟨b', o' + k * 16 + j, none⟩ = some v from fun j v hv => (N1.cell (p := ⟨b', o' + k * 16 + j, none⟩) hbw').trans ((B0.cell (p := ⟨b', o' + k * 16 + j, none⟩) hbl').trans (hc' j v hv)))
        have C2 := Lib.hid (show ∀ j v, vs[j]? = some v → ((wr.alloc (.cells ⟨vs⟩ 84)).alloc (.cells ⟨vs'⟩ 84)).cell? ⟨wr.heap.size, 0 + j, none⟩ = some v from fun j v hv => by
          rw [((Below.refl (wr.alloc (.cells ⟨vs⟩ 84)).heap.size (wr.alloc (.cells ⟨vs⟩ 84))).alloc (Nat.le_refl _) (.cells ⟨vs'⟩ 84)).cell (p := ⟨wr.heap.size, 0 + j, none⟩) (by simp), box_cells (heap_new wr (.cells ⟨vs⟩ 84))]
          simpa using hv)
        have C3 := Lib.hid (show ∀ j v, vs'[j]? = some v → ((wr.alloc (.cells ⟨vs⟩ 84)).alloc (.cells ⟨vs'⟩ 84)).cell? ⟨wr.heap.size + 1, 0 + j, none⟩ = some v from fun j v hv => by
          have := heap_new (wr.alloc (.cells ⟨vs⟩ 84)) (.cells ⟨vs'⟩ 84)
          rw [World.size_alloc] at this
          rw [box_cells this]
          simpa using hv)
        have FN := Lib.hid (hfn _ (B0.trans (N2.mono B0.size)))
        have HR := Lib.hid (HB.out.trans (N2.mono HB.out.size))
        have HX := Lib.hid hx
        have HX' := Lib.hid hx'
        clear hfn hx hx' B0 hc hc' N1 N2
        go_wp2_with (first
          | ((with_reducible refine wp_loadAgg (o := ⟨some 21, _, _, _, _, _⟩) rfl (.tmp 20) 84 rfl 16 Tryz.isAgg84 Tryz.sizeOf84 b (o + k * 16) ?_ vs hvl.out C0.out ?_); rfl)
          | ((with_reducible refine wp_storeNew (o := ⟨none, .store 84 (.tmp 8) (.tmp 21), _, _, _, _⟩) rfl (.tmp 8) (.tmp 21) 84 rfl 16 Tryz.sizeOf84 _ ?_ ?_ vs ?_ hvl.out hvo.out ?_); rfl; rfl; rfl)
          | ((with_reducible refine wp_loadAgg (o := ⟨some 25, _, _, _, _, _⟩) rfl (.tmp 24) 84 rfl 16 Tryz.isAgg84 Tryz.sizeOf84 b' (o' + k * 16) ?_ vs' hvl'.out C1.out ?_); rfl)
          | ((with_reducible refine wp_storeNew (o := ⟨none, .store 84 (.tmp 9) (.tmp 25), _, _, _, _⟩) rfl (.tmp 9) (.tmp 25) 84 rfl 16 Tryz.sizeOf84 _ ?_ ?_ vs' ?_ hvl'.out hvo'.out ?_); rfl; (rw [World.size_alloc]; rfl); rfl)
          | ((with_reducible refine wp_loadAgg (o := ⟨some 27, _, _, _, _, _⟩) rfl (.tmp 8) 84 rfl 16 Tryz.isAgg84 Tryz.sizeOf84 wr.heap.size 0 ?_ vs hvl.out C2.out ?_); rfl)
          | ((with_reducible refine wp_loadAgg (o := ⟨some 28, _, _, _, _, _⟩) rfl (.tmp 9) 84 rfl 16 Tryz.isAgg84 Tryz.sizeOf84 (wr.heap.size + 1) 0 ?_ vs' hvl'.out C3.out ?_); rfl))
        refine FN.out.mono ?_
        rintro e w3 ⟨rfl, b3⟩
        have HB4 := Lib.hid (HR.out.trans (b3.mono HR.out.size))
        clear b3
        cases hsm : same ds ds' with
        | true =>
          have HE := Lib.hid ((same_iff _ _).1 hsm)
          clear hsm
          go_wp2_with fail
          go_roundw
          case rel => exact ⟨k + 1, by omega, by go_num, take_same_succ HX.out (HE.out ▸ HX'.out) HT.out, HB4.out⟩
          case measure => simp [intOf]; omega
        | false =>
          have HE := Lib.hid (same_miss HX.out HX'.out hsm)
          clear hsm
          go_wp2_with fail
          go_ret
          exact ⟨by rw [HE.out]; rfl, HB4.out⟩
      · obtain rfl : k = len := by omega
        go_wp2_with fail
        go_ret
        exact ⟨by rw [same_end (HL.out.trans HL'.out.symm) (by rw [HL.out]; exact HT.out)]; rfl, HB.out⟩
  · have hne : (len == len') = false := by simpa using hn
    have HN := Lib.hid (same_len (l := l) (l' := l') (by rw [HL.out, HL'.out]; exact hn))
    go_enter Tryz.func42, Tryz.ntmps42
    go_wp2_with fail
    go_ret
    exact ⟨by rw [HN.out]; rfl, Below.refl _ _⟩
end Go.Proofs.YtciijpahjjoppaaGreat
end
section
namespace Go.Proofs.YtciijpahjjoppaaGreat
open Go.RowKit Go.Deep

set_option maxRecDepth 100000 in
set_option maxHeartbeats 1000000 in
theorem equalR_any (w0 : World) (a a' : Option Addr) (len len' cap cap' : Nat) (l l' : List (List D)) (hA : At w0 (.slice a len cap) (.row l)) (hA' : At w0 (.slice a' len' cap') (.row l')) (hs : ∀ x ∈ l, ShR x) (hs' : ∀ x ∈ l', ShR x)
    (hf : EqFn w0 41 l l') (W : World) (hW : Below w0.heap.size w0 W) : Calls Tryz.prog 40 #[.slice a len cap, .slice a' len' cap', .func (.func 41) #[] #[]] W (EqPost l l' W) := by
  have HA := Lib.hid hA
  have HA' := Lib.hid hA'
  have HS := Lib.hid hs
  have HS' := Lib.hid hs'
  have HF := Lib.hid hf
  have HW := Lib.hid hW
  have hle := hA.len_le
  have hle' := hA'.len_le
  have HL := Lib.hid hA.len_eq.1
  have HL' := Lib.hid hA'.len_eq.1
  clear hA hA' hs hs' hf hW
  by_cases hn : len = len'
  · subst hn
    go_enter Tryz.func40, Tryz.ntmps40
    go_wp2_with fail
    go_loopw [17] (fun i wr => ∃ k : Nat, k ≤ len ∧ i = .int .i64 k ∧ l.take k = l'.take k ∧ Below W.heap.size W wr) (fun i _ => len - (intOf i).toNat)
    case atStart => exact ⟨0, Nat.zero_le _, rfl, rfl, Below.refl _ _⟩
    case round =>
      obtain ⟨k, hk, rfl, ht, hb⟩ := hrel
      have HT := Lib.hid ht
      have HB := Lib.hid hb
      clear ht hb
      by_cases hlt : k < len
      · obtain ⟨b, o, vs, ds, rfl, hbl, hx, hv, hc⟩ := HA.out.elem hlt
        obtain ⟨b', o', vs', ds', rfl, hbl', hx', hv', hc'⟩ := HA'.out.elem hlt
        have hfn := HF.out ds (List.mem_of_getElem? hx) ds' (List.mem_of_getElem? hx') vs vs' hv hv'
        obtain ⟨m0, m1, nm, rs, ps, vr, inn, bd, en, m0a, m0c, m1a, m1c, psa, psc, vra, vrc, inna, innc, bda, bdc, ena, enc, hds, hvs, _⟩ := hv.openR (HS.out _ (List.mem_of_getElem? hx))
        obtain ⟨m0', m1', nm', rs', ps', vr', inn', bd', en', m0a', m0c', m1a', m1c', psa', psc', vra', vrc', inna', innc', bda', bdc', ena', enc', hds', hvs', _⟩ := hv'.openR (HS'.out _ (List.mem_of_getElem? hx'))
        subst hvs hvs'
        have hdl : ds.length = 9 := by rw [hds]; rfl
        have hdl' : ds'.length = 9 := by rw [hds']; rfl
        rw [hdl] at hc
        rw [hdl'] at hc'
        clear hds hds' hdl hdl' hv hv'
        have B0 := HW.out.trans (HB.out.mono HW.out.size)
        have c0 := (B0.cell (p := ⟨b, o + k * 9, none⟩) hbl).trans (hc 0 _ rfl)
        have c1 := (B0.cell (p := ⟨b, o + k * 9 + 1, none⟩) hbl).trans (hc 1 _ rfl)
        have c2 := (B0.cell (p := ⟨b, o + k * 9 + 2, none⟩) hbl).trans (hc 2 _ rfl)
        have c3 := (B0.cell (p := ⟨b, o + k * 9 + 3, none⟩) hbl).trans (hc 3 _ rfl)
        have c4 := (B0.cell (p := ⟨b, o + k * 9 + 4, none⟩) hbl).trans (hc 4 _ rfl)
        have c5 := (B0.cell (p := ⟨b, o + k * 9 + 5, none⟩) hbl).trans (hc 5 _ rfl)
        have c6 := (B0.cell (p := ⟨b, o + k * 9 + 6, none⟩) hbl).trans (hc 6 _ rfl)
        have c7 := (B0.cell (p := ⟨b, o + k * 9 + 7, none⟩) hbl).trans (hc 7 _ rfl)
        have c8 := (B0.cell (p := ⟨b, o + k * 9 + 8, none⟩) hbl).trans (hc 8 _ rfl)
        have c0' := (B0.cell (p := ⟨b', o' + k * 9, none⟩) hbl').trans (hc' 0 _ rfl)
        have c1' := (B0.cell (p := ⟨b', o' + k * 9 + 1, none⟩) hbl').trans (hc' 1 _ rfl)
        have c2' := (B0.cell (p := ⟨b', o' + k * 9 + 2, none⟩) hbl').trans (hc' 2 _ rfl)
        have c3' := (B0.cell (p := ⟨b', o' + k * 9 + 3, none⟩) hbl').trans (hc' 3 _ rfl)
        have c4' := (B0.cell (p := ⟨b', o' + k * 9 + 4, none⟩) hbl').trans (hc' 4 _ rfl)
        have c5' := (B0.cell (p := ⟨b', o' + k * 9 + 5, none⟩) hbl').trans (hc' 5 _ rfl)
        have c6' := (B0.cell (p := ⟨b', o' + k * 9 + 6, none⟩) hbl').trans (hc' 6 _ rfl)
        have c7' := (B0.cell (p := ⟨b', o' + k * 9 + 7, none⟩) hbl').trans (hc' 7 _ rfl)
        have c8' := (B0.cell (p := ⟨b', o' + k * 9 + 8, none⟩) hbl').trans (hc' 8 _ rfl)
        have hbw : b < wr.heap.size := Nat.lt_of_lt_of_le hbl B0.size
        have hbw' : b' < wr.heap.size := Nat.lt_of_lt_of_le hbl' B0.size
        have FN := Lib.hid hfn
        have HX := Lib.hid hx
        have HX' := Lib.hid hx'
        have HB0 := Lib.hid B0
        clear hfn hx hx' B0 hc hc'
        go_wp2_with fail
        have B2 := HB0.out.trans (((Below.refl wr.heap.size wr).alloc (Nat.le_refl _) (.cells #[.slice m0a m0.length m0c, .slice m1a m1.length m1c, .string nm, .int .i64 rs, .slice psa ps.length psc, .slice vra vr.length vrc, .slice inna inn.length innc, .slice bda bd.length bdc, .slice ena en.length enc] 80)).mono HB0.out.size)
        have B3 := B2.trans (((Below.refl _ (wr.alloc (.cells #[.slice m0a m0.length m0c, .slice m1a m1.length m1c, .string nm, .int .i64 rs, .slice psa ps.length psc, .slice vra vr.length vrc, .slice inna inn.length innc, .slice bda bd.length bdc, .slice ena en.length enc] 80))).alloc (Nat.le_refl _) (.cells #[.slice m0a' m0'.length m0c', .slice m1a' m1'.length m1c', .string nm', .int .i64 rs', .slice psa' ps'.length psc', .slice vra' vr'.length vrc', .slice inna' inn'.length innc', .slice bda' bd'.length bdc', .slice ena' en'.length enc'] 80)).mono B2.size)
        refine (FN.out _ B3).mono ?_
        rintro e w3 ⟨rfl, b3⟩
        have B4 := HB.out.trans ((((Below.refl wr.heap.size wr).alloc (Nat.le_refl _) (.cells #[.slice m0a m0.length m0c, .slice m1a m1.length m1c, .string nm, .int .i64 rs, .slice psa ps.length psc, .slice vra vr.length vrc, .slice inna inn.length innc, .slice bda bd.length bdc, .slice ena en.length enc] 80)).alloc (by simp) (.cells #[.slice m0a' m0'.length m0c', .slice m1a' m1'.length m1c', .string nm', .int .i64 rs', .slice psa' ps'.length psc', .slice vra' vr'.length vrc', .slice inna' inn'.length innc', .slice bda' bd'.length bdc', .slice ena' en'.length enc'] 80)).mono HB.out.size)
        have HB4 := Lib.hid (B4.trans (b3.mono B4.size))
        clear b3 B4 B2 B3 c0 c1 c2 c3 c4 c5 c6 c7 c8 c0' c1' c2' c3' c4' c5' c6' c7' c8'
        cases hsm : same ds ds' with
        | true =>
          have HE := Lib.hid ((same_iff _ _).1 hsm)
          clear hsm
          go_wp2_with fail
          go_roundw
          case rel => exact ⟨k + 1, by omega, by go_num, take_same_succ HX.out (HE.out ▸ HX'.out) HT.out, HB4.out⟩
          case measure => simp [intOf]; omega
        | false =>
          have HE := Lib.hid (same_miss HX.out HX'.out hsm)
          clear hsm
          go_wp2_with fail
          go_ret
          exact ⟨by rw [HE.out]; rfl, HB4.out⟩
      · obtain rfl : k = len := by omega
        go_wp2_with fail
        go_ret
        exact ⟨by rw [same_end (HL.out.trans HL'.out.symm) (by rw [HL.out]; exact HT.out)]; rfl, HB.out⟩
  · have hne : (len == len') = false := by simpa using hn
    have HN := Lib.hid (same_len (l := l) (l' := l') (by rw [HL.out, HL'.out]; exact hn))
    go_enter Tryz.func40, Tryz.ntmps40
    go_wp2_with fail
    go_ret
    exact ⟨by rw [HN.out]; rfl, Below.refl _ _⟩
end Go.Proofs.YtciijpahjjoppaaGreat
end
section
namespace Go.Proofs.YtciijpahjjoppaaGreat
open Go.RowKit Go.Deep

theorem wpStill_loadAgg {ops : Array Oper} {rest : List Oper} {o : Oper} {a : Act} {Q : Act → Prop} (hgd : o.guard = none) (x : Operand) (T : TypeId) (ho : o.op = .load T x) (k : Nat) (hag : ∀ w, (isAgg T).run Tryz.prog w = .ok true w) (hsz : ∀ w, (sizeOf T).run Tryz.prog w = .ok k w)
    {w : World} (b off : Nat) (hx : a.eval x = .pointer (some ⟨b, off, none⟩)) (vs : List Value) (hlen : vs.length = k) (hc : ∀ j v, vs[j]? = some v → w.cell? ⟨b, off + j, none⟩ = some v)
    (hk : wpStill Tryz.prog ops w Q rest (a.put o.dst (.agg ⟨vs⟩))) : wpStill Tryz.prog ops w Q (o :: rest) a := by
  refine wpStill_step fun K hK => ?_
  simp only [Region.wanted, hgd, if_true]
  unfold Oper.still execOp
  simp only [ho, hx]
  rw [Sem.run_bind, run_loadAgg hag hsz hlen (fun j v hv => by rw [add_mid2]; exact hc j v hv)]
  exact ⟨rfl, hK _ hk⟩
end Go.Proofs.YtciijpahjjoppaaGreat
end
section
namespace Go.Proofs.YtciijpahjjoppaaGreat
open Go.RowKit Go.Deep Go.Sort
def RowsEq (w0 : World) (F : Nat) (l l' : List (List D)) : Prop := ∀ (a a' : Option Addr) (len len' cap cap' : Nat), At w0 (.slice a len cap) (.row l) → At w0 (.slice a' len' cap') (.row l') → ∀ W, Below w0.heap.size w0 W → Calls Tryz.prog F #[.slice a len cap, .slice a' len' cap'] W (EqPost l l' W)
theorem texts_rows (w0 : World) (l l' : List (List D)) (hs : ∀ x ∈ l, ShT x) (hs' : ∀ x ∈ l', ShT x) : RowsEq w0 18 l l' := fun a a' len len' cap cap' hA hA' W hW => texts_any w0 a a' len len' cap cap' l l' hA hA' hs hs' W hW
theorem cells_regrown {w : World} {n : Nat} {cs : Array Value} {t : TypeId} {fz : Nat × Nat} (h : w.heap[n]? = some (.cells cs t fz)) (d : Nat) (os : Array Obj) (i : Nat) : (grow (redrawn w d) os).cell? ⟨n, i, none⟩ = cs[i]? := by
  rw [(below_regrown w d os).cell (p := ⟨n, i, none⟩) (heap_lt h)]
  exact box_cells h i
end Go.Proofs.YtciijpahjjoppaaGreat
end
section
namespace Go.Proofs.YtciijpahjjoppaaGreat
open Go.RowKit Go.Deep Go.Sort
set_option maxRecDepth 100000 in
set_option maxHeartbeats 2000000 in
theorem refExpr_step (w0 : World) (x y : List D) (hx : ShE x) (hy : ShE y) (vs ws : List Value) (hv : AllAt w0 vs x) (hw : AllAt w0 ws y) (fkl : ∀ l l', D.row l ∈ x → D.row l' ∈ y → (∀ z ∈ l, ShE z) → (∀ z ∈ l', ShE z) → RowsEq w0 49 l l')
    (W : World) (hW : Below w0.heap.size w0 W) : Calls Tryz.prog 17 #[.agg ⟨vs⟩, .agg ⟨ws⟩] W (EqPost x y W) := by
  obtain ⟨op, n, nm, fd, kl, kla, klc, rfl, rfl, -, -, -, -, akl, skl⟩ := hv.openE hx
  obtain ⟨op', n', nm', fd', kl', kla', klc', rfl, rfl, -, -, -, -, akl', skl'⟩ := hw.openE hy
  have Pkl := Lib.hid (fkl kl kl' (by simp) (by simp) skl skl')
  have Akl := Lib.hid akl
  have Akl' := Lib.hid akl'
  clear hx hy hv hw akl akl' skl skl' fkl
  have HW := Lib.hid hW
  clear hW
  cases hop : op == op' with
  | false =>
    have GH := Lib.hid (show op ≠ op' from (by simpa using hop))
    go_enter Tryz.func17, Tryz.ntmps17
    go_wp2_with fail
    go_ret
    exact ⟨by rw [same_no (α := List D) (x := [.int op, .int n, .str nm, .str fd, .row kl]) (y := [.int op', .int n', .str nm', .str fd', .row kl']) (fun z => GH.out (D.int.inj (congrArg (fun z : List D => nth z 0) z)))]; rfl, ((Below.refl _ _).alloc (Nat.le_refl _) _).alloc (by simp) _⟩
  | true =>
    have Qop := Lib.hid (show op = op' from (by simpa using hop))
    cases hn : n == n' with
    | false =>
      have GH := Lib.hid (show n ≠ n' from (by simpa using hn))
      go_enter Tryz.func17, Tryz.ntmps17
      go_wp2_with fail
      go_ret
      exact ⟨by rw [same_no (α := List D) (x := [.int op, .int n, .str nm, .str fd, .row kl]) (y := [.int op', .int n', .str nm', .str fd', .row kl']) (fun z => GH.out (D.int.inj (congrArg (fun z : List D => nth z 1) z)))]; rfl, ((Below.refl _ _).alloc (Nat.le_refl _) _).alloc (by simp) _⟩
    | true =>
      have Qn := Lib.hid (show n = n' from (by simpa using hn))
      cases hnm : nm.toList == nm'.toList with
      | false =>
        have GH := Lib.hid (show nm ≠ nm' from (fun z => by subst z; simp at hnm))
        go_enter Tryz.func17, Tryz.ntmps17
        go_wp2_with fail
        go_ret
        exact ⟨by rw [same_no (α := List D) (x := [.int op, .int n, .str nm, .str fd, .row kl]) (y := [.int op', .int n', .str nm', .str fd', .row kl']) (fun z => GH.out (D.str.inj (congrArg (fun z : List D => nth z 2) z)))]; rfl, ((Below.refl _ _).alloc (Nat.le_refl _) _).alloc (by simp) _⟩
      | true =>
        have Qnm := Lib.hid (show nm = nm' from ((ba_eq_iff _ _).1 hnm))
        cases hfd : fd.toList == fd'.toList with
        | false =>
          have GH := Lib.hid (show fd ≠ fd' from (fun z => by subst z; simp at hfd))
          go_enter Tryz.func17, Tryz.ntmps17
          go_wp2_with fail
          go_ret
          exact ⟨by rw [same_no (α := List D) (x := [.int op, .int n, .str nm, .str fd, .row kl]) (y := [.int op', .int n', .str nm', .str fd', .row kl']) (fun z => GH.out (D.str.inj (congrArg (fun z : List D => nth z 3) z)))]; rfl, ((Below.refl _ _).alloc (Nat.le_refl _) _).alloc (by simp) _⟩
        | true =>
          have Qfd := Lib.hid (show fd = fd' from ((ba_eq_iff _ _).1 hfd))
          go_enter Tryz.func17, Tryz.ntmps17
          go_wp2_with fail
          have R0 := Lib.hid (((Below.refl W.heap.size W).alloc (Nat.le_refl _) (.cells #[.int .i64 op, .int .i64 n, .string nm, .string fd, .slice kla kl.length klc] 24)).alloc (by simp) (.cells #[.int .i64 op', .int .i64 n', .string nm', .string fd', .slice kla' kl'.length klc'] 24))
          have KA0 := Lib.hid (box_first W (.cells #[.int .i64 op, .int .i64 n, .string nm, .string fd, .slice kla kl.length klc] 24) (.cells #[.int .i64 op', .int .i64 n', .string nm', .string fd', .slice kla' kl'.length klc'] 24))
          have KB0 := Lib.hid (box_second W (.cells #[.int .i64 op, .int .i64 n, .string nm, .string fd, .slice kla kl.length klc] 24) (.cells #[.int .i64 op', .int .i64 n', .string nm', .string fd', .slice kla' kl'.length klc'] 24))
          have Z1 := HW.out.trans (R0.out.mono HW.out.size)
          refine (Pkl.out _ _ _ _ _ _ Akl.out Akl'.out _ Z1).mono ?_
          rintro e w1 ⟨rfl, b1⟩
          have R1 := Lib.hid (R0.out.trans (b1.mono R0.out.size))
          have KA1 := Lib.hid ((b1.block _ (heap_lt KA0.out)).trans KA0.out)
          have KB1 := Lib.hid ((b1.block _ (heap_lt KB0.out)).trans KB0.out)
          have cA1 := box_cells KA1.out
          have cB1 := box_cells KB1.out
          clear b1 Z1
          cases hkl : same kl kl' with
          | false =>
            have GH := Lib.hid (same_neq hkl)
            clear hkl
            go_wp2_with fail
            go_ret
            exact ⟨by rw [same_no (α := List D) (x := [.int op, .int n, .str nm, .str fd, .row kl]) (y := [.int op', .int n', .str nm', .str fd', .row kl']) (fun z => GH.out (D.row.inj (congrArg (fun z : List D => nth z 4) z)))]; rfl, R1.out⟩
          | true =>
            have Qkl := Lib.hid ((same_iff _ _).1 hkl)
            clear hkl
            have E := Lib.hid (show same (α := List D) [.int op, .int n, .str nm, .str fd, .row kl] [.int op', .int n', .str nm', .str fd', .row kl'] = true by
              obtain rfl := Qop.out
              obtain rfl := Qn.out
              obtain rfl := Qnm.out
              obtain rfl := Qfd.out
              obtain rfl := Qkl.out
              exact same_refl _)
            go_wp2_with fail
            go_ret
            exact ⟨by rw [E.out]; rfl, R1.out⟩
set_option maxRecDepth 100000 in
set_option maxHeartbeats 4000000 in
theorem refExprs_step (w0 : World) (l l' : List (List D)) (hs : ∀ x ∈ l, ShE x) (hs' : ∀ x ∈ l', ShE x) (hf : EqFn w0 17 l l') : RowsEq w0 49 l l' := by
  intro a a' len len' cap cap' hA hA' W hW
  have HF := Lib.hid hf
  have HA := Lib.hid hA
  have HA' := Lib.hid hA'
  have HS := Lib.hid hs
  have HS' := Lib.hid hs'
  have HW := Lib.hid hW
  have hle := hA.len_le
  have hle' := hA'.len_le
  have HL := Lib.hid hA.len_eq.1
  have HL' := Lib.hid hA'.len_eq.1
  clear hA hA' hs hs' hW hf
  by_cases hn : len = len'
  · subst hn
    go_enter Tryz.func49, Tryz.ntmps49
    go_wp2_with fail
    go_loopw [5] (fun i wr => ∃ k : Nat, k ≤ len ∧ i = .int .i64 k ∧ l.take k = l'.take k ∧ Below W.heap.size W wr) (fun i _ => len - (intOf i).toNat)
    case atStart => exact ⟨0, Nat.zero_le _, rfl, rfl, Below.refl _ _⟩
    case round =>
      obtain ⟨k, hk, rfl, ht, hb⟩ := hrel
      have HT := Lib.hid ht
      have HB := Lib.hid hb
      clear ht hb
      by_cases hlt : k < len
      · obtain ⟨b, o, vs, ds, rfl, hbl, hx, hv, hc⟩ := HA.out.elem hlt
        obtain ⟨b', o', vs', ds', rfl, hbl', hx', hv', hc'⟩ := HA'.out.elem hlt
        have B0 := HW.out.trans (HB.out.mono HW.out.size)
        have hbw : b < wr.heap.size := Nat.lt_of_lt_of_le hbl B0.size
        have hbw' : b' < wr.heap.size := Nat.lt_of_lt_of_le hbl' B0.size
        have HX := Lib.hid hx
        have HX' := Lib.hid hx'
        have SX := Lib.hid (HS.out _ (List.mem_of_getElem? hx))
        have SX' := Lib.hid (HS'.out _ (List.mem_of_getElem? hx'))
        have hfn := HF.out ds (List.mem_of_getElem? hx) ds' (List.mem_of_getElem? hx') vs vs' hv hv'
        obtain ⟨op, n, nm, fd, kl, kla, klc, hds, rfl, _⟩ := hv.openE SX.out
        obtain ⟨op', n', nm', fd', kl', kla', klc', hds', rfl, _⟩ := hv'.openE SX'.out
        have hdl : ds.length = 5 := by rw [hds]; rfl
        have hdl' : ds'.length = 5 := by rw [hds']; rfl
        rw [hdl] at hc
        rw [hdl'] at hc'
        clear hds hds' hdl hdl' hv hv'
        have c0 := cell_regrown ((B0.cell (p := ⟨b, o + k * 5, none⟩) hbl).trans (hc 0 _ rfl))
        have c1 := cell_regrown ((B0.cell (p := ⟨b, o + k * 5 + 1, none⟩) hbl).trans (hc 1 _ rfl))
        have c2 := cell_regrown ((B0.cell (p := ⟨b, o + k * 5 + 2, none⟩) hbl).trans (hc 2 _ rfl))
        have c3 := cell_regrown ((B0.cell (p := ⟨b, o + k * 5 + 3, none⟩) hbl).trans (hc 3 _ rfl))
        have c4 := cell_regrown ((B0.cell (p := ⟨b, o + k * 5 + 4, none⟩) hbl).trans (hc 4 _ rfl))
        have c0' := cell_regrown ((B0.cell (p := ⟨b', o' + k * 5, none⟩) hbl').trans (hc' 0 _ rfl))
        have c1' := cell_regrown ((B0.cell (p := ⟨b', o' + k * 5 + 1, none⟩) hbl').trans (hc' 1 _ rfl))
        have c2' := cell_regrown ((B0.cell (p := ⟨b', o' + k * 5 + 2, none⟩) hbl').trans (hc' 2 _ rfl))
        have c3' := cell_regrown ((B0.cell (p := ⟨b', o' + k * 5 + 3, none⟩) hbl').trans (hc' 3 _ rfl))
        have c4' := cell_regrown ((B0.cell (p := ⟨b', o' + k * 5 + 4, none⟩) hbl').trans (hc' 4 _ rfl))
        cases hsm : same ds ds' with
        | true =>
          have cF : ∀ d os, Calls Tryz.prog 17 #[.agg #[.int .i64 op, .int .i64 n, .string nm, .string fd, .slice kla kl.length klc], .agg #[.int .i64 op', .int .i64 n', .string nm', .string fd', .slice kla' kl'.length klc']] (grow (redrawn wr d) os) fun e w'' => e = .returned (.bool true) ∧ ∃ p : Regrown, w'' = grow (redrawn wr p.d) p.os := fun d os => by
            have := hfn _ (B0.trans ((below_regrown wr d os).mono B0.size))
            unfold EqPost at this
            rw [hsm] at this
            exact Calls.regrown_of this
          have CF := Lib.hid cF
          have HSM := Lib.hid hsm
          clear cF hfn hx hx' hc hc' B0 hsm
          go_wp2_with fail
          refine wp_region_quiet_below (by kernel_rfl) (by kernel_rfl) ?_
          repeat (first | go_big_quiet_step ((with_reducible exact CF.out _ _)) | quiet_step ((with_reducible exact CF.out _ _)))
          refine wpQuiet_nil ?_
          intro _ hw'
          obtain ⟨⟨dq, osq⟩, hw''⟩ := hw'
          subst hw''
          have HB4 := Lib.hid (HB.out.trans ((below_regrown wr dq osq).mono HB.out.size))
          go_wp2_with fail
          go_roundw
          case rel => exact ⟨k + 1, by omega, by go_num, take_same_succ HX.out ((same_iff _ _).1 HSM.out ▸ HX'.out) HT.out, HB4.out⟩
          case measure => simp [intOf]; omega
        | false =>
          have cF : ∀ d os, Calls Tryz.prog 17 #[.agg #[.int .i64 op, .int .i64 n, .string nm, .string fd, .slice kla kl.length klc], .agg #[.int .i64 op', .int .i64 n', .string nm', .string fd', .slice kla' kl'.length klc']] (grow (redrawn wr d) os) fun e w'' => e = .returned (.bool false) ∧ ∃ p : Regrown, w'' = grow (redrawn wr p.d) p.os := fun d os => by
            have := hfn _ (B0.trans ((below_regrown wr d os).mono B0.size))
            unfold EqPost at this
            rw [hsm] at this
            exact Calls.regrown_of this
          have CF := Lib.hid cF
          have HSM := Lib.hid hsm
          clear cF hfn hx hx' hc hc' B0 hsm
          go_wp2_with fail
          refine wp_region_quiet_below (by kernel_rfl) (by kernel_rfl) ?_
          repeat (first | go_big_quiet_step ((with_reducible exact CF.out _ _)) | quiet_step ((with_reducible exact CF.out _ _)))
          refine wpQuiet_nil ?_
          intro _ hw'
          obtain ⟨⟨dq, osq⟩, hw''⟩ := hw'
          subst hw''
          have HB4 := Lib.hid (HB.out.trans ((below_regrown wr dq osq).mono HB.out.size))
          go_wp2_with fail
          go_ret
          exact ⟨by rw [same_miss HX.out HX'.out HSM.out]; rfl, HB4.out⟩
      · obtain rfl : k = len := by omega
        go_wp2_with fail
        go_ret
        exact ⟨by rw [same_end (HL.out.trans HL'.out.symm) (by rw [HL.out]; exact HT.out)]; rfl, HB.out⟩
  · have hne : (len == len') = false := by simpa using hn
    have HN := Lib.hid (same_len (l := l) (l' := l') (by rw [HL.out, HL'.out]; exact hn))
    go_enter Tryz.func49, Tryz.ntmps49
    go_wp2_with fail
    go_ret
    exact ⟨by rw [HN.out]; rfl, Below.refl _ _⟩
theorem refExprs_upto (w0 : World) (n : Nat) : ∀ l l' : List (List D), SizeOf.sizeOf l ≤ n → (∀ z ∈ l, ShE z) → (∀ z ∈ l', ShE z) → RowsEq w0 49 l l' := by
  induction n with
  | zero => intro l l' h; cases l <;> simp at h <;> omega
  | succ n ih =>
    intro l l' hn hs hs'
    refine refExprs_step w0 l l' hs hs' fun x hx y hy vs ws hv hw W hW => ?_
    refine refExpr_step w0 x y (hs x hx) (hs' y hy) vs ws hv hw (fun m m' hm _ hsm hsm' => ih m m' ?_ hsm hsm') W hW
    have h1 := List.sizeOf_lt_of_mem hx
    have h2 := List.sizeOf_lt_of_mem hm
    have h3 : SizeOf.sizeOf (D.row m) = 1 + SizeOf.sizeOf m := by simp
    omega
theorem refExprs_any (w0 : World) (l l' : List (List D)) (hs : ∀ z ∈ l, ShE z) (hs' : ∀ z ∈ l', ShE z) : RowsEq w0 49 l l' := refExprs_upto w0 _ l l' (Nat.le_refl _) hs hs'
theorem refSameE_any (w0 : World) (x y : List D) (hx : ShE x) (hy : ShE y) (vs ws : List Value) (hv : AllAt w0 vs x) (hw : AllAt w0 ws y) (W : World) (hW : Below w0.heap.size w0 W) : Calls Tryz.prog 17 #[.agg ⟨vs⟩, .agg ⟨ws⟩] W (EqPost x y W) :=
  refExpr_step w0 x y hx hy vs ws hv hw (fun m m' _ _ hsm hsm' => refExprs_any w0 m m' hsm hsm') W hW
end Go.Proofs.YtciijpahjjoppaaGreat
end
section
namespace Go.Proofs.YtciijpahjjoppaaGreat
open Go.RowKit Go.Deep Go.Sort
set_option maxRecDepth 100000 in
set_option maxHeartbeats 2000000 in
theorem refMarks_any (w0 : World) (m0a m1a m0a' m1a' : Option Addr) (m0c m1c m0c' m1c' : Nat) (m0 m1 m0' m1' : List (List D)) (am0 : At w0 (.slice m0a m0.length m0c) (.row m0)) (am1 : At w0 (.slice m1a m1.length m1c) (.row m1)) (am0' : At w0 (.slice m0a' m0'.length m0c') (.row m0')) (am1' : At w0 (.slice m1a' m1'.length m1c') (.row m1')) (sm0 : ∀ x ∈ m0, ShT x) (sm1 : ∀ x ∈ m1, ShT x) (sm0' : ∀ x ∈ m0', ShT x) (sm1' : ∀ x ∈ m1', ShT x)
    (W : World) (hW : Below w0.heap.size w0 W) : Calls Tryz.prog 44 #[.agg #[.slice m0a m0.length m0c, .slice m1a m1.length m1c], .agg #[.slice m0a' m0'.length m0c', .slice m1a' m1'.length m1c']] W (EqPost (α := List D) [.row m0, .row m1] [.row m0', .row m1'] W) := by
  have Pm0 := Lib.hid (texts_rows w0 m0 m0' sm0 sm0')
  have Am0 := Lib.hid am0
  have Am0' := Lib.hid am0'
  have Pm1 := Lib.hid (texts_rows w0 m1 m1' sm1 sm1')
  have Am1 := Lib.hid am1
  have Am1' := Lib.hid am1'
  clear am0 am1 am0' am1' sm0 sm1 sm0' sm1'
  have HW := Lib.hid hW
  clear hW
  go_enter Tryz.func44, Tryz.ntmps44
  go_wp2_with fail
  have R0 := Lib.hid (((Below.refl W.heap.size W).alloc (Nat.le_refl _) (.cells #[.slice m0a m0.length m0c, .slice m1a m1.length m1c] 59)).alloc (by simp) (.cells #[.slice m0a' m0'.length m0c', .slice m1a' m1'.length m1c'] 59))
  have KA0 := Lib.hid (box_first W (.cells #[.slice m0a m0.length m0c, .slice m1a m1.length m1c] 59) (.cells #[.slice m0a' m0'.length m0c', .slice m1a' m1'.length m1c'] 59))
  have KB0 := Lib.hid (box_second W (.cells #[.slice m0a m0.length m0c, .slice m1a m1.length m1c] 59) (.cells #[.slice m0a' m0'.length m0c', .slice m1a' m1'.length m1c'] 59))
  have Z1 := HW.out.trans (R0.out.mono HW.out.size)
  refine (Pm0.out _ _ _ _ _ _ Am0.out Am0'.out _ Z1).mono ?_
  rintro e w1 ⟨rfl, b1⟩
  have R1 := Lib.hid (R0.out.trans (b1.mono R0.out.size))
  have KA1 := Lib.hid ((b1.block _ (heap_lt KA0.out)).trans KA0.out)
  have KB1 := Lib.hid ((b1.block _ (heap_lt KB0.out)).trans KB0.out)
  have cA1 := box_cells KA1.out
  have cB1 := box_cells KB1.out
  clear b1 Z1
  cases hm0 : same m0 m0' with
  | false =>
    have GH := Lib.hid (same_neq hm0)
    clear hm0
    go_wp2_with fail
    go_ret
    exact ⟨by rw [same_no (α := List D) (x := [.row m0, .row m1]) (y := [.row m0', .row m1']) (fun z => GH.out (D.row.inj (congrArg (fun z : List D => nth z 0) z)))]; rfl, R1.out⟩
  | true =>
    have Qm0 := Lib.hid ((same_iff _ _).1 hm0)
    clear hm0
    go_wp2_with fail
    clear cA1 cB1
    have Z2 := HW.out.trans (R1.out.mono HW.out.size)
    refine (Pm1.out _ _ _ _ _ _ Am1.out Am1'.out _ Z2).mono ?_
    rintro e w2 ⟨rfl, b2⟩
    have R2 := Lib.hid (R1.out.trans (b2.mono R1.out.size))
    have KA2 := Lib.hid ((b2.block _ (heap_lt KA1.out)).trans KA1.out)
    have KB2 := Lib.hid ((b2.block _ (heap_lt KB1.out)).trans KB1.out)
    have cA2 := box_cells KA2.out
    have cB2 := box_cells KB2.out
    clear b2 Z2
    cases hm1 : same m1 m1' with
    | false =>
      have GH := Lib.hid (same_neq hm1)
      clear hm1
      go_wp2_with fail
      go_ret
      exact ⟨by rw [same_no (α := List D) (x := [.row m0, .row m1]) (y := [.row m0', .row m1']) (fun z => GH.out (D.row.inj (congrArg (fun z : List D => nth z 1) z)))]; rfl, R2.out⟩
    | true =>
      have Qm1 := Lib.hid ((same_iff _ _).1 hm1)
      clear hm1
      have E := Lib.hid (show same (α := List D) [.row m0, .row m1] [.row m0', .row m1'] = true by
        obtain rfl := Qm0.out
        obtain rfl := Qm1.out
        exact same_refl _)
      go_wp2_with fail
      go_ret
      exact ⟨by rw [E.out]; rfl, R2.out⟩
end Go.Proofs.YtciijpahjjoppaaGreat
end
section
namespace Go.Proofs.YtciijpahjjoppaaGreat
open Go.RowKit Go.Deep Go.Sort

/-- Two boxes, both filled. -/
theorem twoBoxes (w : World) (T : TypeId) (z : Array Value) (p p' : Nat) (hp : (p = w.heap.size ∧ p' = w.heap.size + 1) ∨ (p = w.heap.size + 1 ∧ p' = w.heap.size)) (vs vs' : List Value) (h1 : vs.length = z.size) (h2 : vs'.length = z.size) :
    ((((w.alloc (.cells z T)).alloc (.cells z T)).setCells p 0 vs).setCells p' 0 vs').heap[p]? = some (.cells ⟨vs⟩ T) ∧ ((((w.alloc (.cells z T)).alloc (.cells z T)).setCells p 0 vs).setCells p' 0 vs').heap[p']? = some (.cells ⟨vs'⟩ T) ∧
    Below w.heap.size w ((((w.alloc (.cells z T)).alloc (.cells z T)).setCells p 0 vs).setCells p' 0 vs') ∧ ((w.alloc (.cells z T)).alloc (.cells z T)).heap[p]? = some (.cells z T) ∧ (((w.alloc (.cells z T)).alloc (.cells z T)).setCells p 0 vs).heap[p']? = some (.cells z T) := by
  have b := ((Below.refl w.heap.size w).alloc (Nat.le_refl _) (.cells z T)).alloc (by simp) (.cells z T)
  have k1 : ((w.alloc (.cells z T)).alloc (.cells z T)).heap[p]? = some (.cells z T) := by
    rcases hp with ⟨rfl, _⟩ | ⟨rfl, _⟩
    · exact box_first w _ _
    · exact box_second w _ _
  have k2 : ((w.alloc (.cells z T)).alloc (.cells z T)).heap[p']? = some (.cells z T) := by
    rcases hp with ⟨_, rfl⟩ | ⟨_, rfl⟩
    · exact box_second w _ _
    · exact box_first w _ _
  have hne : p' ≠ p := by omega
  have e1 := setCells_heap vs [] z.toList ((w.alloc (.cells z T)).alloc (.cells z T)) p k1 (by simpa using h1)
  have k3 : (((w.alloc (.cells z T)).alloc (.cells z T)).setCells p 0 vs).heap[p']? = some (.cells z T) := (setCells_other vs _ _ 0 _ hne).trans k2
  have e2 := setCells_heap vs' [] z.toList (((w.alloc (.cells z T)).alloc (.cells z T)).setCells p 0 vs) p' k3 (by simpa using h2)
  refine ⟨(setCells_other vs' _ _ 0 _ (Ne.symm hne)).trans e1, e2, ?_, k1, k3⟩
  have o1 := setCells_os vs ((w.alloc (.cells z T)).alloc (.cells z T)) p 0
  have o2 := setCells_os vs' (((w.alloc (.cells z T)).alloc (.cells z T)).setCells p 0 vs) p' 0
  refine ⟨(o2.1.trans o1.1).trans b.os, (o2.2.1.trans o1.2.1).trans b.tape, (o2.2.2.trans o1.2.2).trans b.output, ?_, fun k hk => ?_⟩
  · rw [setCells_size, setCells_size]; exact b.size
  · rw [setCells_other vs' _ _ 0 k (by omega), setCells_other vs _ _ 0 k (by omega)]; exact b.block k hk
theorem wpOp_value {ops : Array Oper} {Q : Exit → Act → World → Prop} {i : Nat} {K : Act → World → Prop} {a : Act} {w w' : World} {o : Oper} {v : Value} (ho : ops[i]? = some o) (hg : o.guard = none) (hr : (execOp a.eval o).run Tryz.prog w = .ok (.value v) w') (hk : K (a.put o.dst v) w') : wpOp Tryz.prog ops Q i K a w := by
  unfold wpOp
  rw [ho]
  simp only [Region.wanted, hg, if_true]
  refine .inl ?_
  unfold Oper.wp
  rw [hr]
  exact hk
theorem wpOp_skip {ops : Array Oper} {Q : Exit → Act → World → Prop} {i : Nat} {K : Act → World → Prop} {a : Act} {w w' : World} {o : Oper} (ho : ops[i]? = some o) (hg : o.guard = none) (hr : (execOp a.eval o).run Tryz.prog w = .ok .skip w') (hk : K (a.put o.dst undef) w') : wpOp Tryz.prog ops Q i K a w := by
  unfold wpOp
  rw [ho]
  simp only [Region.wanted, hg, if_true]
  refine .inl ?_
  unfold Oper.wp
  rw [hr]
  exact hk
theorem run_allocT {T : TypeId} {z : Array Value} (hz : ∀ w, (zeroValue T).run Tryz.prog w = .ok (.agg z) w) (o : Oper) (ho : o.op = .alloc T) (a : Act) (w : World) : (execOp a.eval o).run Tryz.prog w = .ok (.value (.pointer (some ⟨w.heap.size, 0, none⟩))) (w.alloc (.cells z T)) := by
  unfold execOp
  simp only [ho]
  simp [Instr.alloc, newVar, newRow, Value.cells, hz, go_sem]
structure PairOps (ops : Array Oper) (listed : Array Bool) (T : TypeId) (l0 l1 i8 i9 i10 i11 : Nat) (o8 o9 o10 o11 : Oper) : Prop where
  h8 : ops[i8]? = some o8
  h9 : ops[i9]? = some o9
  h10 : ops[i10]? = some o10
  h11 : ops[i11]? = some o11
  g8 : o8.guard = none
  g9 : o9.guard = none
  g10 : o10.guard = none
  g11 : o11.guard = none
  p8 : o8.op = .alloc T
  p9 : o9.op = .alloc T
  p10 : o10.op = .store T (.tmp 6) (.tmp l0)
  p11 : o11.op = .store T (.tmp 7) (.tmp l1)
  d8 : o8.dst = some 6
  d9 : o9.dst = some 7
  d10 : o10.dst = none
  d11 : o11.dst = none
  r0 : Region.ready .any ops listed = [i8, i9]
  r8 : Region.ready .any ops (listed.setIfInBounds i8 true) = [i9]
  r9 : Region.ready .any ops (listed.setIfInBounds i9 true) = [i8]
  r89 : Region.ready .any ops ((listed.setIfInBounds i8 true).setIfInBounds i9 true) = [i10]
  r98 : Region.ready .any ops ((listed.setIfInBounds i9 true).setIfInBounds i8 true) = [i10]
  r10 : Region.ready .any ops (((listed.setIfInBounds i8 true).setIfInBounds i9 true).setIfInBounds i10 true) = [i11]
  r10' : Region.ready .any ops (((listed.setIfInBounds i9 true).setIfInBounds i8 true).setIfInBounds i10 true) = [i11]
  r11 : Region.ready .any ops ((((listed.setIfInBounds i8 true).setIfInBounds i9 true).setIfInBounds i10 true).setIfInBounds i11 true) = []
  r11' : Region.ready .any ops ((((listed.setIfInBounds i9 true).setIfInBounds i8 true).setIfInBounds i10 true).setIfInBounds i11 true) = []
theorem put_comm (a : Act) (v v' : Value) : (a.put (some 7) v').put (some 6) v = (a.put (some 6) v).put (some 7) v' := by
  unfold Act.put
  simp only
  congr 1
  exact Array.setIfInBounds_comm _ _ (by decide)
theorem eval_put {a : Act} {d l : Nat} {v : Value} (h : l ≠ d) : (a.put (some d) v).eval (.tmp l) = a.eval (.tmp l) := by
  unfold Act.eval Act.put
  simp [Ne.symm h]
theorem eval_put_same {a : Act} {d : Nat} {v : Value} (h : d < a.tmps.size) : (a.put (some d) v).eval (.tmp d) = v := by
  unfold Act.eval Act.put
  simp [h]
theorem run_loadT {T : TypeId} {k : Nat} (hag : ∀ w, (isAgg T).run Tryz.prog w = .ok true w) (hsz : ∀ w, (sizeOf T).run Tryz.prog w = .ok k w) {o : Oper} {x : Operand} (ho : o.op = .load T x) {a : Act} {b off : Nat} (hx : a.eval x = .pointer (some ⟨b, off, none⟩)) {vs : List Value} (hlen : vs.length = k) {W : World} (hc : ∀ j v, vs[j]? = some v → W.cell? ⟨b, off + j, none⟩ = some v) : (execOp a.eval o).run Tryz.prog W = .ok (.value (.agg ⟨vs⟩)) W := by
  unfold execOp
  simp only [ho, hx]
  rw [Sem.run_bind, run_loadAgg hag hsz hlen (fun j v hv => by rw [add_mid2]; exact hc j v hv)]
  rfl
theorem run_storeT {T : TypeId} {k : Nat} (hsz : ∀ w, (sizeOf T).run Tryz.prog w = .ok k w) {z : Array Value} (hk : z.size = k) {vs : List Value} (hv : vs.length = k) (h1 : ∀ v ∈ vs, v.oneCell' = true) {o : Oper} {x y : Operand} (ho : o.op = .store T x y) {a : Act} {w : World} {p : Nat} (hx : a.eval x = .pointer (some ⟨p, 0, none⟩)) (hy : a.eval y = .agg ⟨vs⟩) (hp : w.heap[p]? = some (.cells z T)) : (execOp a.eval o).run Tryz.prog w = .ok .skip (w.setCells p 0 vs) := by
  have h := run_storeOld (w := w) (b := p) hsz hv (zs := z.toList) (by simpa using hk) (T' := T) hp h1
  unfold execOp
  simp only [ho, hx, hy]
  rw [Sem.run_bind, h]
  rfl
section
variable {ops : Array Oper} {Q : Exit → Act → World → Prop} {S : World → Prop} {listed : Array Bool} {A : Act} {w : World} {T : TypeId} {k : Nat} {z : Array Value} {l0 l1 i8 i9 i10 i11 : Nat} {o8 o9 o10 o11 : Oper} {vs vs' : List Value}
theorem pair_stores (L : Array Bool) (ho : PairOps ops listed T l0 l1 i8 i9 i10 i11 o8 o9 o10 o11) (hsz : ∀ w, (sizeOf T).run Tryz.prog w = .ok k w) (hk : z.size = k) (A6 : 6 < A.tmps.size) (A7 : 7 < A.tmps.size) (n0 : l0 ≠ 6 ∧ l0 ≠ 7) (n1 : l1 ≠ 6 ∧ l1 ≠ 7)
    (e0 : A.eval (.tmp l0) = .agg ⟨vs⟩) (e1 : A.eval (.tmp l1) = .agg ⟨vs'⟩) (hv : vs.length = k) (hv' : vs'.length = k) (h1 : ∀ v ∈ vs, v.oneCell' = true) (h1' : ∀ v ∈ vs', v.oneCell' = true) (hS : ∀ W, Below w.heap.size w W → S W)
    (r1 : Region.ready .any ops L = [i10]) (r2 : Region.ready .any ops (L.setIfInBounds i10 true) = [i11]) (r3 : Region.ready .any ops ((L.setIfInBounds i10 true).setIfInBounds i11 true) = [])
    (p p' : Nat) (hp : (p = w.heap.size ∧ p' = w.heap.size + 1) ∨ (p = w.heap.size + 1 ∧ p' = w.heap.size))
    (K : ∀ p p' wb, w.heap.size ≤ p → w.heap.size ≤ p' → wb.heap[p]? = some (.cells ⟨vs⟩ T) → wb.heap[p']? = some (.cells ⟨vs'⟩ T) → Below w.heap.size w wb → Q .normal ((A.put (some 6) (.pointer (some ⟨p, 0, none⟩))).put (some 7) (.pointer (some ⟨p', 0, none⟩))) wb) (fuel : Nat) :
    wpAnyH Tryz.prog .any ops Q S (fuel + 1 + 1) L ((A.put (some 6) (.pointer (some ⟨p, 0, none⟩))).put (some 7) (.pointer (some ⟨p', 0, none⟩))) ((w.alloc (.cells z T)).alloc (.cells z T)) := by
  obtain ⟨t1, t2, t3, t4, t5⟩ := twoBoxes w T z p p' hp vs vs' (hv.trans hk.symm) (hv'.trans hk.symm)
  have A7' : 7 < (A.put (some 6) (.pointer (some ⟨p, 0, none⟩))).tmps.size := by unfold Act.put; simpa using A7
  have s1 : Below w.heap.size w (((w.alloc (.cells z T)).alloc (.cells z T)).setCells p 0 vs) := by
    have b := ((Below.refl w.heap.size w).alloc (Nat.le_refl _) (.cells z T)).alloc (by simp) (.cells z T)
    have o1 := setCells_os vs ((w.alloc (.cells z T)).alloc (.cells z T)) p 0
    exact ⟨o1.1.trans b.os, o1.2.1.trans b.tape, o1.2.2.trans b.output, by rw [setCells_size]; exact b.size, fun c hc => (setCells_other vs _ _ 0 c (by omega)).trans (b.block c hc)⟩
  refine wpAnyH_all r1 (by simp) fun i hi => ?_
  obtain rfl := List.mem_singleton.1 hi
  refine wpOp_skip ho.h10 ho.g10 (run_storeT hsz hk hv h1 ho.p10 ?_ ?_ t4) ?_
  · rw [eval_put (by decide), eval_put_same A6]
  · rw [eval_put n0.2, eval_put n0.1, e0]
  · rw [ho.d10]
    refine ⟨hS _ s1, ?_⟩
    refine wpAnyH_all r2 (by simp) fun i hi => ?_
    obtain rfl := List.mem_singleton.1 hi
    refine wpOp_skip ho.h11 ho.g11 (run_storeT hsz hk hv' h1' ho.p11 ?_ ?_ t5) ?_
    · exact eval_put_same A7'
    · show ((A.put (some 6) _).put (some 7) _).eval (.tmp l1) = _
      rw [eval_put n1.2, eval_put n1.1, e1]
    · rw [ho.d11]
      exact ⟨hS _ t3, wpAnyH_done r3 (K p p' _ (by omega) (by omega) t1 t2 t3) _⟩
/-- The law. -/
theorem pair_tail (ho : PairOps ops listed T l0 l1 i8 i9 i10 i11 o8 o9 o10 o11) (hz : ∀ w, (zeroValue T).run Tryz.prog w = .ok (.agg z) w) (hsz : ∀ w, (sizeOf T).run Tryz.prog w = .ok k w) (hk : z.size = k) (A6 : 6 < A.tmps.size) (A7 : 7 < A.tmps.size) (n0 : l0 ≠ 6 ∧ l0 ≠ 7) (n1 : l1 ≠ 6 ∧ l1 ≠ 7)
    (e0 : A.eval (.tmp l0) = .agg ⟨vs⟩) (e1 : A.eval (.tmp l1) = .agg ⟨vs'⟩) (hv : vs.length = k) (hv' : vs'.length = k) (h1 : ∀ v ∈ vs, v.oneCell' = true) (h1' : ∀ v ∈ vs', v.oneCell' = true) (hS : ∀ W, Below w.heap.size w W → S W)
    (K : ∀ p p' wb, w.heap.size ≤ p → w.heap.size ≤ p' → wb.heap[p]? = some (.cells ⟨vs⟩ T) → wb.heap[p']? = some (.cells ⟨vs'⟩ T) → Below w.heap.size w wb → Q .normal ((A.put (some 6) (.pointer (some ⟨p, 0, none⟩))).put (some 7) (.pointer (some ⟨p', 0, none⟩))) wb) (fuel : Nat) :
    wpAnyH Tryz.prog .any ops Q S (fuel + 1 + 1 + 1 + 1) listed A w := by
  have b1 := (Below.refl w.heap.size w).alloc (Nat.le_refl _) (.cells z T)
  have b2 := b1.alloc (by simp) (.cells z T)
  refine wpAnyH_all ho.r0 (by simp) fun i hi => ?_
  rcases List.mem_cons.1 hi with rfl | hi
  · refine wpOp_value ho.h8 ho.g8 (run_allocT hz o8 ho.p8 _ _) ?_
    rw [ho.d8]
    refine ⟨hS _ b1, wpAnyH_all ho.r8 (by simp) fun i hi => ?_⟩
    obtain rfl := List.mem_singleton.1 hi
    refine wpOp_value ho.h9 ho.g9 (run_allocT hz o9 ho.p9 _ _) ?_
    rw [ho.d9, World.size_alloc]
    exact ⟨hS _ b2, pair_stores _ ho hsz hk A6 A7 n0 n1 e0 e1 hv hv' h1 h1' hS ho.r89 ho.r10 ho.r11 _ _ (.inl ⟨rfl, rfl⟩) K fuel⟩
  · obtain rfl := List.mem_singleton.1 hi
    refine wpOp_value ho.h9 ho.g9 (run_allocT hz o9 ho.p9 _ _) ?_
    rw [ho.d9]
    refine ⟨hS _ b1, wpAnyH_all ho.r9 (by simp) fun i hi => ?_⟩
    obtain rfl := List.mem_singleton.1 hi
    refine wpOp_value ho.h8 ho.g8 (run_allocT hz o8 ho.p8 _ _) ?_
    rw [ho.d8, World.size_alloc, put_comm]
    exact ⟨hS _ b2, pair_stores _ ho hsz hk A6 A7 n0 n1 e0 e1 hv hv' h1 h1' hS ho.r98 ho.r10' ho.r11' _ _ (.inr ⟨rfl, rfl⟩) K fuel⟩
end
end Go.Proofs.YtciijpahjjoppaaGreat
end
