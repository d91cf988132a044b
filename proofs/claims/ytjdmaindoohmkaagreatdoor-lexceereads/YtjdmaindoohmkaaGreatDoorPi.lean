/-
  strconv.ParseInt(s, 16, 64) of digits of base 16, walked.
-/
import Derived.Test.YtjdmaindoohmkaaGreatDoorBts
import Derived.Lib.IfaceNeq
namespace Go.Proofs.YtjdmaindoohmkaaGreatDoor
open Go.RowKit Go.Sort

def valH (l : List UInt8) : Nat := l.foldl (fun n c => n * 16 + hexV c) 0
theorem valH_take {l : List UInt8} {k : Nat} {c : UInt8} (h : l[k]? = some c) : valH (l.take (k + 1)) = valH (l.take k) * 16 + hexV c := by
  unfold valH
  rw [List.take_add_one, h, List.foldl_append]; rfl
theorem valH_mono (l : List UInt8) (k : Nat) : valH (l.take k) ≤ valH l := by
  have go : ∀ (r : List UInt8) (a : Nat), a ≤ r.foldl (fun n c => n * 16 + hexV c) a := by
    intro r
    induction r with
    | nil => intro a; exact Nat.le_refl _
    | cons c q ih =>
      intro a
      rw [List.foldl_cons]
      have := ih (a * 16 + hexV c)
      omega
  have e : valH l = (l.drop k).foldl (fun n c => n * 16 + hexV c) (valH (l.take k)) := by
    unfold valH
    rw [← List.foldl_append, List.take_append_drop]
  rw [e]; exact go _ _
theorem hex_cases (c : UInt8) (h : isHex c = true) : (48 ≤ c.toNat ∧ c.toNat ≤ 57 ∧ hexV c = c.toNat - 48) ∨ (97 ≤ c.toNat ∧ c.toNat ≤ 102 ∧ hexV c = c.toNat - 87) := by
  unfold isHex at h
  cases hd : isDig c with
  | true =>
    left
    have h1 := hd
    unfold isDig at h1
    simp at h1
    exact ⟨h1.1, h1.2, by unfold hexV; rw [if_pos hd]⟩
  | false =>
    right
    rw [hd, Bool.false_or] at h
    simp at h
    exact ⟨h.1, h.2, by unfold hexV; rw [hd, if_neg (by decide)]⟩
set_option maxHeartbeats 400000 in
theorem lower_hex (n : Int) (w : World) (h1 : 97 ≤ n) (h2 : n ≤ 102) : Calls Tryz.prog 89 #[.int .u8 n] w fun e w' => e = .returned (.int .u8 n) ∧ w = w' := by
  have hc : n = 97 ∨ n = 98 ∨ n = 99 ∨ n = 100 ∨ n = 101 ∨ n = 102 := by omega
  rcases hc with rfl | rfl | rfl | rfl | rfl | rfl
  all_goals
    go_enter Tryz.func89, Tryz.ntmps89
    go_wp2_with fail
    go_ret
    exact ⟨rfl, rfl⟩
/-- What ParseUint leaves. -/
def UintPost (l : List UInt8) (w : World) (e : Ending) (w' : World) : Prop :=
  ((e = .returned (.tuple #[.int .u64 (valH l : Nat), .nilIface]) ∧ valH l < 18446744073709551616) ∨ (e = .returned (.tuple #[.int .u64 18446744073709551615, .iface 112 (.int .i64 1)]) ∧ 1152921504606846976 ≤ valH l)) ∧ Below w.heap.size w w'
set_option maxRecDepth 100000 in
set_option maxHeartbeats 4000000 in
theorem parseUint_any (l : List UInt8) (w : World) (hl : ∀ c ∈ l, isHex c = true) (h0 : l ≠ []) (hz : l.length ≤ 100000) :
    Calls Tryz.prog 81 #[.string ⟨l.toArray⟩, .int .i64 16, .int .i64 64] w (UintPost l w) := by
  unfold UintPost
  have hsz : (ByteArray.mk l.toArray).size = l.length := by have := len_size (ByteArray.mk l.toArray); simpa using this.symm
  have hemp : (ByteArray.mk l.toArray).toList.isEmpty = false := by
    rw [← decide_eq_emptyBytes]
    exact decide_eq_false (fun h => h0 (by have := congrArg (fun b : ByteArray => b.data.toList) h; simpa using this))
  obtain ⟨cap, W1, hcv, hcap, hba, hbl⟩ := conv_any w l
  have BA := Lib.hid hba
  have BL := Lib.hid hbl
  have HL := Lib.hid hl
  generalize hlen : l.length = n at hcv hcap hz
  have HN := Lib.hid hlen
  generalize ByteArray.mk l.toArray = t at hemp hcv hsz
  have hmv : IntKind.u64.wrap (IntKind.u64.wrap 18446744073709551616 - 1) = 18446744073709551615 := by
    rw [IntKind.wrap_u64, IntKind.wrap_u64]
    decide
  clear hba hbl hl h0 hlen
  go_enter Tryz.func81, Tryz.ntmps81
  go_wp2_with fail
  go_loop [12, 13, 101] (fun vu vn vi => ∃ (k : Nat) (a : Int), vu = .bool false ∧ vn = .int .u64 a ∧ vi = .int .i64 k ∧ k ≤ n ∧ Hid (a = (valH (l.take k) : Int) ∧ valH (l.take k) < 18446744073709551616)) (fun _ _ vi => n - (intOf vi).toNat)
  case atStart => exact ⟨0, 0, rfl, rfl, rfl, Nat.zero_le _, Lib.hid ⟨rfl, by simp [valH]⟩⟩
  case round =>
    obtain ⟨k, a, rfl, rfl, rfl, hk, hh⟩ := hrel
    obtain ⟨ha, hacc⟩ := hh.out
    clear hh
    have a0 : 0 ≤ a := by omega
    have a1 : a < 18446744073709551616 := by omega
    by_cases hkn : k < n
    · obtain ⟨c, hc⟩ : ∃ c, l[k]? = some c := ⟨l[k]'(by rw [HN.out]; exact hkn), List.getElem?_eq_getElem _⟩
      have hcell := BA.out.cells k c hc
      have hst := valH_take hc
      have hcs := hex_cases c (HL.out c (List.mem_of_getElem? hc))
      have hmo := valH_mono l k
      have hc256 : c.toNat < 256 := c.toNat_lt
      clear hc
      by_cases hcut : 1152921504606846976 ≤ valH (l.take k)
      · have icut : 1152921504606846976 ≤ a := by omega
        have G := Lib.hid (show 1152921504606846976 ≤ valH l by omega)
        clear hst hmo ha hacc hcut
        rcases hcs with ⟨d0, d1, _⟩ | ⟨d0, d1, _⟩
        · have i0 : (48 : Int) ≤ (c.toNat : Int) := by omega
          have i1 : (c.toNat : Int) ≤ 57 := by omega
          clear d0 d1
          go_wp2_with fail
          go_ret2
          exact ⟨.inr ⟨rfl, G.out⟩, BL.out⟩
        · have i0 : (97 : Int) ≤ (c.toNat : Int) := by omega
          have i1 : (c.toNat : Int) ≤ 102 := by omega
          have LW := Lib.hid fun W => lower_hex (c.toNat : Int) W i0 i1
          clear d0 d1
          go_wp2_with (go_at_call 89; refine (LW.out _).mono ?_; rintro e w' ⟨rfl, rfl⟩)
          go_ret2
          exact ⟨.inr ⟨rfl, G.out⟩, BL.out⟩
      · have icut : a < 1152921504606846976 := by omega
        rcases hcs with ⟨d0, d1, hv⟩ | ⟨d0, d1, hv⟩
        · have i0 : (48 : Int) ≤ (c.toNat : Int) := by omega
          have i1 : (c.toNat : Int) ≤ 57 := by omega
          have G := Lib.hid (show a * 16 + ((c.toNat : Int) - 48) = (valH (l.take (k + 1)) : Int) ∧ valH (l.take (k + 1)) < 18446744073709551616 by omega)
          have iov : a * 16 + ((c.toNat : Int) - 48) < 18446744073709551616 := by omega
          clear hst hmo ha hacc hcut d0 d1 hv
          go_wp2_with fail
          refine ⟨⟨k + 1, a * 16 + ((c.toNat : Int) - 48), rfl, (by first | rfl | (congr 1; omega)), (by first | rfl | (congr 1; omega)), by omega, G⟩, by simp [intOf]; omega⟩
        · have i0 : (97 : Int) ≤ (c.toNat : Int) := by omega
          have i1 : (c.toNat : Int) ≤ 102 := by omega
          have LW := Lib.hid fun W => lower_hex (c.toNat : Int) W i0 i1
          have G := Lib.hid (show a * 16 + ((c.toNat : Int) - 97 + 10) = (valH (l.take (k + 1)) : Int) ∧ valH (l.take (k + 1)) < 18446744073709551616 by omega)
          have iov : a * 16 + ((c.toNat : Int) - 97 + 10) < 18446744073709551616 := by omega
          clear hst hmo ha hacc hcut d0 d1 hv
          go_wp2_with (go_at_call 89; refine (LW.out _).mono ?_; rintro e w' ⟨rfl, rfl⟩)
          refine ⟨⟨k + 1, a * 16 + ((c.toNat : Int) - 97 + 10), rfl, (by first | rfl | (congr 1; omega)), (by first | rfl | (congr 1; omega)), by omega, G⟩, by simp [intOf]; omega⟩
    · have hkk : k = n := by omega
      subst hkk
      have e : l.take k = l := List.take_of_length_le (by rw [HN.out]; exact Nat.le_refl _)
      rw [e] at ha hacc
      subst ha
      have G := Lib.hid hacc
      clear hacc a0 a1
      go_wp2_with fail
      go_ret2
      exact ⟨.inl ⟨rfl, G.out⟩, BL.out⟩
/-- What the inner ParseInt leaves. -/
def IntPost (l : List UInt8) (w : World) (e : Ending) (w' : World) : Prop :=
  (e = .returned (.tuple #[.int .i64 (valH l : Nat), .nilIface]) ∨ (e = .returned (.tuple #[.int .i64 9223372036854775807, .iface 112 (.int .i64 1)]) ∧ 1152921504606846976 ≤ valH l)) ∧ Below w.heap.size w w'
theorem comp301 : (Tryz.prog.info? 112).map (·.comparable) = some true := by kernel_rfl
set_option maxRecDepth 100000 in
set_option maxHeartbeats 2000000 in
theorem parseIn_any (l : List UInt8) (w : World) (hl : ∀ c ∈ l, isHex c = true) (h0 : l ≠ []) (hz : l.length ≤ 100000) :
    Calls Tryz.prog 72 #[.string ⟨l.toArray⟩, .int .i64 16, .int .i64 64] w (IntPost l w) := by
  unfold IntPost
  have hU := parseUint_any l w hl h0 hz
  have hsz : (ByteArray.mk l.toArray).size = l.length := by have := len_size (ByteArray.mk l.toArray); simpa using this.symm
  have hpos : 0 < (ByteArray.mk l.toArray).size := by rw [hsz]; exact List.length_pos_iff.2 h0
  have hemp : (ByteArray.mk l.toArray).toList.isEmpty = false := by
    rw [← decide_eq_emptyBytes]
    exact decide_eq_false (fun h => h0 (by have := congrArg (fun b : ByteArray => b.data.toList) h; simpa using this))
  have hb0 := bt_eq (ByteArray.mk l.toArray) 0 hpos
  have hcs := hex_cases (bt ⟨l.toArray⟩ 0) (hl _ (by
    cases l with
    | nil => exact absurd rfl h0
    | cons c r => simp [bt]))
  have hlb := UInt8.toNat_lt (bt ⟨l.toArray⟩ 0)
  have d1 : (((bt ⟨l.toArray⟩ 0).toNat : Int) == 43) = false := by simp; omega
  have d2 : (((bt ⟨l.toArray⟩ 0).toNat : Int) == 45) = false := by simp; omega
  have hq1 : ∀ W, (binOp .neq 88 (.iface 112 (.int .i64 1)) (.iface 112 (.int .i64 1))).run Tryz.prog W = .ok (.bool false) W := fun W => Lib.run_neq_iface_int W 1 1 Tryz.underlying88 comp301 Tryz.underlying112
  clear hcs
  generalize bt ⟨l.toArray⟩ 0 = c0 at hb0 hlb d1 d2
  unfold UintPost at hU
  generalize ByteArray.mk l.toArray = t at hU hsz hpos hemp hb0
  have HU := Lib.hid hU
  clear hU hl h0
  generalize hv : valH l = v at HU
  clear hv
  go_enter Tryz.func72, Tryz.ntmps72
  go_wp2_with fail
  refine HU.out.mono ?_
  rintro e w1 ⟨(⟨rfl, hlt⟩ | ⟨rfl, hge⟩), b1⟩
  · have B1 := Lib.hid b1
    obtain ⟨a, ha⟩ : ∃ a : Int, a = (v : Int) := ⟨_, rfl⟩
    rw [← ha]
    have a0 : 0 ≤ a := by omega
    have a1 : a < 18446744073709551616 := by omega
    by_cases hout : 9223372036854775808 ≤ v
    · have iout : 9223372036854775808 ≤ a := by omega
      have G := Lib.hid (show 1152921504606846976 ≤ v by omega)
      clear hout hlt ha b1
      go_wp2_with fail
      go_ret2
      exact ⟨.inr ⟨rfl, G.out⟩, B1.out⟩
    · have iin : a < 9223372036854775808 := by omega
      have HA := Lib.hid ha
      clear hout hlt ha b1
      go_wp2_with fail
      go_ret2
      exact ⟨.inl (by rw [HA.out]; rfl), B1.out⟩
  · have B1 := Lib.hid b1
    have G := Lib.hid hge
    clear b1 hge
    go_wp2_with fail
    go_ret2
    exact ⟨.inr ⟨rfl, G.out⟩, B1.out⟩
set_option maxHeartbeats 1000000 in
theorem parse_none (w : World) : Calls Tryz.prog 72 #[.string ⟨#[]⟩, .int .i64 16, .int .i64 64] w fun e w' => e = .returned (.tuple #[.int .i64 0, .iface 112 (.int .i64 2)]) ∧ w = w' := by
  go_enter Tryz.func72, Tryz.ntmps72
  go_wp2_with fail
  go_ret2
  exact ⟨rfl, rfl⟩
/-- What ParseInt leaves: the number, or a number and an error. -/
def ParsePost (l : List UInt8) (w : World) (e : Ending) (w' : World) : Prop :=
  (e = .returned (.tuple #[.int .i64 (valH l : Nat), .nilIface]) ∨ ((∃ n tp q, e = .returned (.tuple #[.int .i64 n, .iface tp q])) ∧ (l = [] ∨ 1152921504606846976 ≤ valH l))) ∧ Below w.heap.size w w'
set_option maxHeartbeats 1000000 in
theorem parse_any (l : List UInt8) (w : World) (hl : ∀ c ∈ l, isHex c = true) (hz : l.length ≤ 100000) (hv : VarOk w) :
    Calls Tryz.prog 55 #[.string ⟨l.toArray⟩, .int .i64 16, .int .i64 64] w (ParsePost l w) := by
  unfold ParsePost
  have hsz : (ByteArray.mk l.toArray).size = l.length := by have := len_size (ByteArray.mk l.toArray); simpa using this.symm
  by_cases h0 : l = []
  · subst h0
    obtain ⟨tp, pe, hs⟩ := hv.syn
    have HT := Lib.hid fun W hW => Tryz.strconv_toError_syntax ⟨#[80, 97, 114, 115, 101, 73, 110, 116]⟩ ⟨#[]⟩ 16 64 (.iface tp pe) W (by decide) hW (.inr ⟨_, _, rfl⟩)
    have HS := Lib.hid hs
    clear hs hv
    go_enter Tryz.func55, Tryz.ntmps55
    go_wp2_with fail
    refine (parse_none _).mono ?_
    rintro e w1 ⟨rfl, rfl⟩
    go_wp2_with fail
    refine (HT.out _ HS.out).mono ?_
    rintro e w2 ⟨N, rfl, _, _, b2⟩
    have B2 := Lib.hid b2
    clear b2
    go_wp2_with fail
    go_ret2
    exact ⟨.inr ⟨⟨_, _, _, rfl⟩, .inl (by simp)⟩, B2.out⟩
  · have hI := parseIn_any l w hl h0 hz
    unfold IntPost at hI
    have HI := Lib.hid hI
    obtain ⟨tp, pe, hs⟩ := hv.rng
    have HT := Lib.hid fun W hW => Tryz.strconv_toError_range ⟨#[80, 97, 114, 115, 101, 73, 110, 116]⟩ ⟨l.toArray⟩ 16 64 (.iface tp pe) W (by rw [hsz]; omega) hW (.inr ⟨_, _, rfl⟩)
    have hlt := hv.lt.2
    have HS := Lib.hid hs
    clear hs hv hl h0 hI
    generalize ByteArray.mk l.toArray = t at HI HT hsz
    generalize valH l = v at HI
    go_enter Tryz.func55, Tryz.ntmps55
    go_wp2_with fail
    refine HI.out.mono ?_
    rintro e w1 ⟨(rfl | ⟨rfl, hge⟩), b1⟩
    · have B1 := Lib.hid b1
      clear b1
      go_wp2_with fail
      go_ret2
      exact ⟨.inl rfl, B1.out⟩
    · have B1 := Lib.hid b1
      have G := Lib.hid hge
      have S1 := Lib.hid ((cell_eq (o := 0) (b1.block _ hlt)).trans HS.out)
      clear b1 hge
      go_wp2_with fail
      refine (HT.out _ S1.out).mono ?_
      rintro e w2 ⟨N, rfl, _, _, b2⟩
      have B2 := Lib.hid (B1.out.trans (b2.mono B1.out.size))
      clear b2
      go_wp2_with fail
      go_ret2
      exact ⟨.inr ⟨⟨_, _, _, rfl⟩, .inr G.out⟩, B2.out⟩
end Go.Proofs.YtjdmaindoohmkaaGreatDoor
