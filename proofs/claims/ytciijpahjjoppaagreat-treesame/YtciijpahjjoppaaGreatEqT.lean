/-
  Rows of texts compared (slices.Equal, the reference's SameTexts); types and parameters compared: walked.
-/
import Derived.Test.YtciijpahjjoppaaGreatLst
import Derived.Test.YtciijpahjjoppaaGreatBas
import Derived.Laws.StructEq
import Derived.Shelf.SlicesE.Kit
namespace Go.Proofs.YtciijpahjjoppaaGreat
open Go.RowKit Go.Deep

theorem below_drewN {B : Nat} {a w : World} (h : Below B a w) (n : Nat) : Below B a (w.drewN n) := ⟨h.os, h.tape, h.output, h.size, h.block⟩
def tRow (ss : List ByteArray) : List (List D) := ss.map fun s => [.str s]
theorem tRow_inj {ss tt : List ByteArray} (h : tRow ss = tRow tt) : ss = tt := by
  unfold tRow at h
  induction ss generalizing tt with
  | nil => cases tt with
    | nil => rfl
    | cons => simp at h
  | cons s ss ih => cases tt with
    | nil => simp at h
    | cons t tt =>
      simp at h
      rw [h.1, ih (by simpa using h.2)]
theorem same_tRow (ss tt : List ByteArray) : same (tRow ss) (tRow tt) = sameL ss tt := by
  by_cases h : ss = tt
  · subst h; rw [same_refl, sameL_refl]
  · rw [same_no (fun e => h (tRow_inj e)), sameL_no h]
theorem texts_of {l : List (List D)} (hs : ∀ x ∈ l, ShT x) : ∃ ss, l = tRow ss := by
  induction l with
  | nil => exact ⟨[], rfl⟩
  | cons x l ih =>
    obtain ⟨ss, rfl⟩ := ih fun y hy => hs y (List.mem_cons_of_mem _ hy)
    cases hs x (List.mem_cons_self ..) with
    | mk s => exact ⟨s :: ss, rfl⟩
theorem At.strs {w : World} {a : Option Addr} {len cap : Nat} {l : List (List D)} (h : At w (.slice a len cap) (.row l)) (hs : ∀ x ∈ l, ShT x) : ∃ ss, l = tRow ss ∧ IsStrs w a len cap ss := by
  obtain ⟨ss, rfl⟩ := texts_of hs
  have hl := h.len_eq
  have hl1 : ss.length = len := by simpa [tRow] using hl.1
  have key : ∀ j, j < len → ∃ b o x, a = some ⟨b, o, none⟩ ∧ b < w.heap.size ∧ ss[j]? = some x ∧ x.size ≤ maxLen ∧ w.cell? ⟨b, o + j, none⟩ = some (.string x) := by
    intro j hj
    obtain ⟨b, o, vs, ds, ha, hb, hx, hv, hc⟩ := h.elem hj
    unfold tRow at hx
    rw [List.getElem?_map] at hx
    obtain ⟨s, hs1, hs2⟩ := Option.map_eq_some_iff.1 hx
    subst hs2
    match vs, hv with
    | [v], ⟨h0, _⟩ =>
      obtain ⟨rfl, hz⟩ := h0.str_inv
      have := hc 0 _ rfl
      exact ⟨b, o, s, ha, hb, hs1, hz, by simpa using this⟩
  refine ⟨ss, rfl, hl1, hl.2.1, hl.2.2, fun x hx => ?_, ?_⟩
  · obtain ⟨j, hj, rfl⟩ := List.mem_iff_getElem.1 hx
    obtain ⟨_, _, x, _, _, hx', hz, _⟩ := key j (by omega)
    rw [List.getElem?_eq_getElem hj] at hx'
    cases hx'
    exact hz
  · by_cases h0 : len = 0
    · exact .inl h0
    · right
      obtain ⟨b, o, x, ha, hb, _⟩ := key 0 (by omega)
      refine ⟨b, o, ha, hb, fun j x hx => ?_⟩
      have hj : j < len := by rw [← hl1]; exact (List.getElem?_eq_some_iff.1 hx).1
      obtain ⟨b', o', x', ha', _, hx', _, hc⟩ := key j hj
      rw [ha] at ha'
      cases ha'
      rw [hx] at hx'
      cases hx'
      exact hc
theorem texts_any (w0 : World) (a a' : Option Addr) (len len' cap cap' : Nat) (l l' : List (List D)) (hA : At w0 (.slice a len cap) (.row l)) (hA' : At w0 (.slice a' len' cap') (.row l')) (hs : ∀ x ∈ l, ShT x) (hs' : ∀ x ∈ l', ShT x)
    (W : World) (hW : Below w0.heap.size w0 W) : Calls Tryz.prog 18 #[.slice a len cap, .slice a' len' cap'] W (EqPost l l' W) := by
  obtain ⟨ss, rfl, h1⟩ := hA.strs hs
  obtain ⟨tt, rfl, h2⟩ := hA'.strs hs'
  refine (sameTexts_any a a' len cap len' cap' ss tt W (h1.below hW) (h2.below hW)).mono ?_
  rintro e w' ⟨rfl, q, rfl⟩
  exact ⟨by rw [same_tRow], below_drewN (Below.refl _ _) _⟩
set_option maxHeartbeats 400000 in
theorem equalTexts_any (a a' : Option Addr) (len cap len' cap' : Nat) (xs ys : List ByteArray) (w : World) (hS : IsStrs w a len cap xs) (hS' : IsStrs w a' len' cap' ys) :
    Calls Tryz.prog 35 #[.slice a len cap, .slice a' len' cap'] w fun e w' => e = .returned (.bool (sameL xs ys)) ∧ ∃ n, w' = w.drewN n := by
  have HS := Lib.hid hS
  have HS' := Lib.hid hS'
  have hcap := hS.len_le
  have hcap' := hS'.len_le
  clear hS hS'
  generalize hr : sameL xs ys = r
  have HR := Lib.hid hr
  clear hr
  by_cases hl : len = len'
  · subst hl
    go_enter Tryz.func35, Tryz.ntmps35
    go_wp2_with fail
    go_loopw [13] (fun i wr => ∃ k n : Nat, k ≤ len ∧ i = .int .i64 k ∧ xs.take k = ys.take k ∧ wr = w.drewN n) (fun i _ => len - (intOf i).toNat)
    case atStart => exact ⟨0, 0, Nat.zero_le _, rfl, rfl, rfl⟩
    case round =>
      obtain ⟨k, n, hk, rfl, hno, rfl⟩ := hrel
      have HN := Lib.hid hno
      clear hno
      by_cases hlt : k < len
      · obtain ⟨b, o, x, rfl, hx, hxs, hc⟩ := HS.out.at hlt
        obtain ⟨b', o', y, rfl, hy, hys, hc'⟩ := HS'.out.at hlt
        have HX := Lib.hid hx
        have HY := Lib.hid hy
        clear hx hy
        cases hb : x.toList == y.toList with
        | true =>
          have HT : xs.take (k + 1) = ys.take (k + 1) := by rw [take_snoc HX.out, take_snoc HY.out, HN.out, (beq_iff x y).1 hb]
          have HT := Lib.hid HT
          go_wp2_with fail
          go_quiet (fail)
          go_wp2_with fail
          go_roundw
          case rel => exact ⟨k + 1, _, by omega, by go_num, HT.out, by first | rfl | exact World.drewN_drewN _ _ _⟩
          case measure => simp [intOf]; omega
        | false =>
          obtain rfl : r = false := by
            rw [← HR.out]
            refine sameL_no fun e => (beq_false x y).1 hb ?_
            have := HX.out
            rw [e, HY.out] at this
            exact (Option.some.inj this).symm
          go_wp2_with fail
          go_quiet (fail)
          go_wp2_with fail
          go_ret
          exact ⟨rfl, _, by first | rfl | exact World.drewN_drewN _ _ _⟩
      · obtain rfl : r = true := by
          rw [← HR.out, sameL_iff]
          have := HN.out
          rw [List.take_of_length_le (by rw [HS.out.1]; omega), List.take_of_length_le (by rw [HS'.out.1]; omega)] at this
          exact this
        go_wp2_with fail
        go_ret
        exact ⟨rfl, _, rfl⟩
  · obtain rfl : r = false := by
      rw [← HR.out]
      refine sameL_no fun e => hl ?_
      rw [← HS.out.1, ← HS'.out.1, e]
    have hne : ((len : Int) == (len' : Int)) = false := by simp; omega
    go_enter Tryz.func35, Tryz.ntmps35
    go_wp2_with fail
    go_ret
    exact ⟨rfl, 0, rfl⟩
theorem equalT_any (w0 : World) (a a' : Option Addr) (len len' cap cap' : Nat) (l l' : List (List D)) (hA : At w0 (.slice a len cap) (.row l)) (hA' : At w0 (.slice a' len' cap') (.row l')) (hs : ∀ x ∈ l, ShT x) (hs' : ∀ x ∈ l', ShT x)
    (W : World) (hW : Below w0.heap.size w0 W) : Calls Tryz.prog 35 #[.slice a len cap, .slice a' len' cap'] W (EqPost l l' W) := by
  obtain ⟨ss, rfl, h1⟩ := hA.strs hs
  obtain ⟨tt, rfl, h2⟩ := hA'.strs hs'
  refine (equalTexts_any a a' len cap len' cap' ss tt W (h1.below hW) (h2.below hW)).mono ?_
  rintro e w' ⟨rfl, q, rfl⟩
  exact ⟨by rw [same_tRow], below_drewN (Below.refl _ _) _⟩

/-- Two types compared. -/
def tySame (kd kd' sz sz' : Int) (tn tn' : ByteArray) : Bool := kd == kd' && sz == sz' && tn.toList == tn'.toList
theorem ty_equalIn (d : Nat) (kd kd' sz sz' : Int) (tn tn' : ByteArray) (w : World) : Sem.run Tryz.prog (Op.equalIn (d + 1 + 1) 73 (.agg #[.int .i64 kd, .int .i64 sz, .string tn]) (.agg #[.int .i64 kd', .int .i64 sz', .string tn'])) w = .ok (tySame kd kd' sz sz' tn tn') w := by
  have hS : Tryz.prog.underlying 73 = some (.struct (Tryz.prog.fieldsOf 73)) := by kernel_rfl
  have hp : Tryz.prog.stoodInHeld 73 = false := by kernel_rfl
  have u3 := Tryz.underlying3
  have a3 := Tryz.isAgg3
  have z3 := Tryz.sizeOf3
  have u9 := Tryz.underlying9
  have a9 := Tryz.isAgg9
  have z9 := Tryz.sizeOf9
  rw [run_equalIn_agg w (d + 1) 73 _ _ hS hp]
  clear hS hp
  simp only [Program.fieldsOf, Tryz.underlying73]
  go_simp
  unfold tySame
  cases h1 : kd == kd' <;> cases h2 : sz == sz' <;> cases h3 : tn.toList == tn'.toList <;> simp_all
theorem ty_eql (kd kd' sz sz' : Int) (tn tn' : ByteArray) (w : World) : Sem.run Tryz.prog (binOp .eql 73 (.agg #[.int .i64 kd, .int .i64 sz, .string tn]) (.agg #[.int .i64 kd', .int .i64 sz', .string tn'])) w = .ok (.bool (tySame kd kd' sz sz' tn tn')) w := by
  rw [run_eql_struct, show (10000 : Nat) = 9998 + 1 + 1 from rfl, ty_equalIn]
  rfl
def pmSame (nm nm' : ByteArray) (kd kd' sz sz' : Int) (tn tn' : ByteArray) (md md' : Int) : Bool := nm.toList == nm'.toList && tySame kd kd' sz sz' tn tn' && md == md'
theorem pm_neq (nm nm' : ByteArray) (kd kd' sz sz' : Int) (tn tn' : ByteArray) (md md' : Int) (w : World) : Sem.run Tryz.prog (binOp .neq 133 (.agg #[.string nm, .int .i64 kd, .int .i64 sz, .string tn, .int .i64 md]) (.agg #[.string nm', .int .i64 kd', .int .i64 sz', .string tn', .int .i64 md'])) w = .ok (.bool (!pmSame nm nm' kd kd' sz sz' tn tn' md md')) w := by
  have hS : Tryz.prog.underlying 133 = some (.struct (Tryz.prog.fieldsOf 133)) := by kernel_rfl
  have hp : Tryz.prog.stoodInHeld 133 = false := by kernel_rfl
  have u3 := Tryz.underlying3
  have a3 := Tryz.isAgg3
  have z3 := Tryz.sizeOf3
  have u9 := Tryz.underlying9
  have a9 := Tryz.isAgg9
  have z9 := Tryz.sizeOf9
  have a73 := Tryz.isAgg73
  have z73 := Tryz.sizeOf73
  have hty := ty_equalIn 9997 kd kd' sz sz' tn tn'
  rw [run_neq_struct, show (10000 : Nat) = 9999 + 1 from rfl, run_equalIn_agg w 9999 133 _ _ hS hp]
  clear hS hp
  simp only [Program.fieldsOf, Tryz.underlying133]
  go_simp
  unfold pmSame
  cases h1 : nm.toList == nm'.toList <;> cases h2 : tySame kd kd' sz sz' tn tn' <;> cases h3 : md == md' <;> simp_all
theorem tySame_iff {kd kd' sz sz' : Int} {tn tn' : ByteArray} : tySame kd kd' sz sz' tn tn' = true ↔ kd = kd' ∧ sz = sz' ∧ tn = tn' := by
  unfold tySame
  rw [Bool.and_eq_true, Bool.and_eq_true, ba_eq_iff]
  simp [and_assoc]
theorem pmSame_iff {nm nm' : ByteArray} {kd kd' sz sz' : Int} {tn tn' : ByteArray} {md md' : Int} : pmSame nm nm' kd kd' sz sz' tn tn' md md' = true ↔ nm = nm' ∧ (kd = kd' ∧ sz = sz' ∧ tn = tn') ∧ md = md' := by
  unfold pmSame
  rw [Bool.and_eq_true, Bool.and_eq_true, ba_eq_iff, tySame_iff]
  simp [and_assoc]
end Go.Proofs.YtciijpahjjoppaaGreat
