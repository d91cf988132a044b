/-
  checker.up and checker.firstUp: walked.
-/
import Derived.Test.YtciijpahjjoppaaGreatExa
namespace Go.Proofs.YtciijpahjjoppaaGreat
open Go.RowKit Go.Deep Go.Maps

def upE (d op n : Int) (nm fd : ByteArray) (len : Nat) : Bool := (op == 25) && ((n == 0) && (fd.toList.isEmpty && (decide (len = 0) && okName d nm)))
set_option maxRecDepth 100000 in
set_option maxHeartbeats 1000000 in
theorem up_any (d ar op n : Int) (nm fd : ByteArray) (a : Option Addr) (len cap : Nat) (w : World) (hs : nm.size ≤ maxLen) :
    Calls Tryz.prog 99 #[.agg #[.int .i64 d, .int .i64 ar], .agg #[.int .i64 op, .int .i64 n, .string nm, .string fd, .slice a len cap]] w fun e w' => e = .returned (.bool (upE d op n nm fd len)) ∧ Below w.heap.size w w' := by
  have R1 := Lib.hid (((Below.refl w.heap.size w).alloc (Nat.le_refl _) (.cells #[.int .i64 d, .int .i64 ar] 51)).alloc (by simp) (.cells #[.int .i64 op, .int .i64 n, .string nm, .string fd, .slice a len cap] 24))
  cases h1 : op == 25 with
  | false =>
    have HO := Lib.hid (show upE d op n nm fd len = false by unfold upE; rw [h1]; rfl)
    go_enter Tryz.func99, Tryz.ntmps99
    go_wp2_with fail
    go_ret
    exact ⟨by rw [HO.out]; rfl, R1.out⟩
  | true =>
  cases h2 : n == 0 with
  | false =>
    have HO := Lib.hid (show upE d op n nm fd len = false by unfold upE; rw [h1, h2]; rfl)
    go_enter Tryz.func99, Tryz.ntmps99
    go_wp2_with fail
    go_ret
    exact ⟨by rw [HO.out]; rfl, R1.out⟩
  | true =>
  cases h3 : fd.toList.isEmpty with
  | false =>
    have HO := Lib.hid (show upE d op n nm fd len = false by unfold upE; rw [h1, h2, h3]; rfl)
    go_enter Tryz.func99, Tryz.ntmps99
    go_wp2_with fail
    go_ret
    exact ⟨by rw [HO.out]; rfl, R1.out⟩
  | true =>
  by_cases h4 : len = 0
  · have HO := Lib.hid (show upE d op n nm fd len = okName d nm by unfold upE; rw [h1, h2, h3, h4]; rfl)
    subst h4
    go_enter Tryz.func99, Tryz.ntmps99
    go_wp2_with fail
    refine (cname_any d ar nm _ hs).mono ?_
    rintro e w1 ⟨rfl, b1⟩
    have B1 := Lib.hid (R1.out.trans (b1.mono (by simp; omega)))
    clear b1
    generalize hr : okName d nm = r
    rw [hr] at HO
    go_wp2_with fail
    go_ret
    exact ⟨by rw [HO.out]; rfl, B1.out⟩
  · have HO := Lib.hid (show upE d op n nm fd len = false by unfold upE; rw [h1, h2, h3, decide_eq_false h4]; rfl)
    have h5 : ((len : Int) == 0) = false := by simpa using h4
    go_enter Tryz.func99, Tryz.ntmps99
    go_wp2_with fail
    go_ret
    exact ⟨by rw [HO.out]; rfl, R1.out⟩

def isUp : List D → Bool
  | .int op :: _ => op == 25
  | _ => false
def firstU (d : Int) (l : List (List D)) : Nat := if d == 1 then l.findIdx isUp else l.length
theorem firstU_le (d : Int) (l : List (List D)) : firstU d l ≤ l.length := by
  unfold firstU
  split
  · exact List.findIdx_le_length
  · exact Nat.le_refl _
theorem firstU_hit {d : Int} {l : List (List D)} {k : Nat} {x : List D} (hd : (d == 1) = true) (hx : l[k]? = some x) (ht : ∀ y ∈ l.take k, isUp y = false) (hu : isUp x = true) : firstU d l = k := by
  unfold firstU
  rw [hd, if_pos rfl]
  obtain ⟨hk, rfl⟩ := List.getElem?_eq_some_iff.1 hx
  rw [List.findIdx_eq hk]
  refine ⟨hu, fun j hj => ht _ ?_⟩
  exact List.mem_take_iff_getElem.2 ⟨j, by omega, rfl⟩
theorem firstU_none {d : Int} {l : List (List D)} (hd : (d == 1) = true) (ht : ∀ y ∈ l.take l.length, isUp y = false) : firstU d l = l.length := by
  unfold firstU
  rw [hd, if_pos rfl]
  rw [List.take_length] at ht
  exact List.findIdx_eq_length.2 ht
theorem noUp_succ {l : List (List D)} {k : Nat} {x : List D} (hx : l[k]? = some x) (ht : ∀ y ∈ l.take k, isUp y = false) (hu : isUp x = false) : ∀ y ∈ l.take (k + 1), isUp y = false := by
  intro y hy
  rw [List.take_add_one, hx] at hy
  rcases List.mem_append.1 hy with h | h
  · exact ht y h
  · have : y = x := by simpa using h
    rw [this]; exact hu
set_option maxRecDepth 100000 in
set_option maxHeartbeats 1000000 in
theorem firstUp_any (w0 : World) (d ar : Int) (a : Option Addr) (len cap : Nat) (l : List (List D)) (hA : At w0 (.slice a len cap) (.row l)) (hs : ∀ x ∈ l, ShE x) (W : World) (hW : Below w0.heap.size w0 W) :
    Calls Tryz.prog 97 #[.agg #[.int .i64 d, .int .i64 ar], .slice a len cap] W fun e W' => e = .returned (.int .i64 (firstU d l : Nat)) ∧ Below W.heap.size W W' := by
  have HA := Lib.hid hA
  have HS := Lib.hid hs
  have HW := Lib.hid hW
  have hle := hA.len_le
  have HL := Lib.hid hA.len_eq.1
  have R1 := Lib.hid ((Below.refl W.heap.size W).alloc (Nat.le_refl _) (.cells #[.int .i64 d, .int .i64 ar] 51))
  clear hA hs hW
  cases hd : d == 1 with
  | false =>
    have HO := Lib.hid (show firstU d l = len by unfold firstU; rw [hd]; exact HL.out)
    go_enter Tryz.func97, Tryz.ntmps97
    go_wp2_with fail
    go_ret
    exact ⟨by rw [HO.out]; rfl, R1.out⟩
  | true =>
    go_enter Tryz.func97, Tryz.ntmps97
    go_wp2_with fail
    go_loopw [12] (fun i wr => ∃ k : Nat, k ≤ len ∧ i = .int .i64 k ∧ (∀ y ∈ l.take k, isUp y = false) ∧ Below W.heap.size W wr) (fun i _ => len - (intOf i).toNat)
    case atStart => exact ⟨0, Nat.zero_le _, rfl, by simp, R1.out⟩
    case round =>
      obtain ⟨k, hk, rfl, ht, hb⟩ := hrel
      have HT := Lib.hid ht
      have HB := Lib.hid hb
      have HD := Lib.hid hd
      clear ht hb
      by_cases hlt : k < len
      · obtain ⟨b, o, vs, ds, rfl, hbl, hx, hv, hc⟩ := HA.out.elem hlt
        obtain ⟨op, n, nm, fd, kl, kla, klc, hds, hvs, _⟩ := hv.openE (HS.out _ (List.mem_of_getElem? hx))
        subst hvs
        have hdl : ds.length = 5 := by rw [hds]; rfl
        rw [hdl] at hc
        have B0 := HW.out.trans (HB.out.mono HW.out.size)
        have c0 := (B0.cell (p := ⟨b, o + k * 5, none⟩) hbl).trans (hc 0 _ rfl)
        have c1 := (B0.cell (p := ⟨b, o + k * 5 + 1, none⟩) hbl).trans (hc 1 _ rfl)
        have c2 := (B0.cell (p := ⟨b, o + k * 5 + 2, none⟩) hbl).trans (hc 2 _ rfl)
        have c3 := (B0.cell (p := ⟨b, o + k * 5 + 3, none⟩) hbl).trans (hc 3 _ rfl)
        have c4 := (B0.cell (p := ⟨b, o + k * 5 + 4, none⟩) hbl).trans (hc 4 _ rfl)
        have hbw : b < wr.heap.size := Nat.lt_of_lt_of_le hbl B0.size
        have HX := Lib.hid hx
        have HU := Lib.hid (show isUp ds = (op == 25) by rw [hds]; rfl)
        have HR := Lib.hid (HB.out.alloc HB.out.size (.cells #[.int .i64 op, .int .i64 n, .string nm, .string fd, .slice kla kl.length klc] 24))
        clear hx hds hdl hc B0 hv
        cases hu : op == 25 with
        | true =>
          have HE := Lib.hid (firstU_hit HD.out HX.out HT.out (HU.out.trans hu))
          go_wp2_with fail
          go_ret
          exact ⟨by rw [HE.out]; rfl, HR.out⟩
        | false =>
          have HE := Lib.hid (noUp_succ HX.out HT.out (HU.out.trans hu))
          go_wp2_with fail
          go_roundw
          case rel => exact ⟨k + 1, by omega, by go_num, HE.out, HR.out⟩
          case measure => simp [intOf]; omega
      · obtain rfl : k = len := by omega
        have HE := Lib.hid (firstU_none (l := l) HD.out (by rw [HL.out]; exact HT.out))
        go_wp2_with fail
        go_ret
        exact ⟨by rw [HE.out, HL.out]; rfl, HB.out⟩
end Go.Proofs.YtciijpahjjoppaaGreat
