/-
  The document's Deep, walked.
-/
import Derived.Test.YtpcldpnaljheoaaGreatDoorRlg
import Derived.Test.YtpcldpnaljheoaaGreatDoorZz3
import Derived.Test.YtpcldpnaljheoaaGreatDoorZz4
namespace Go.Proofs.YtpcldpnaljheoaaGreatDoor
open Go.RowKit Go.Deep Go.Sort

def depF (f : List D → Nat) (a : Nat) (x : List D) : Nat := if isUp x then a else max a (f x)
def depL (f : List D → Nat) : List D → Nat
  | [.int _, .int _, .str _, .str _, .row l] => l.foldl (depF f) 0 + 1
  | _ => 1
def dep : Nat → List D → Nat
  | 0 => fun _ => 1
  | m + 1 => depL (dep m)
theorem fold_le {f : List D → Nat} {B : Nat} (hf : ∀ x, f x ≤ B) : ∀ (l : List (List D)) (a : Nat), a ≤ B → l.foldl (depF f) a ≤ B
  | [], _, h => h
  | y :: r, a, h => fold_le hf r _ (by
    unfold depF
    split
    · exact h
    · exact Nat.max_le.2 ⟨h, hf y⟩)
theorem dep_le (m : Nat) : ∀ x, dep m x ≤ m + 1 := by
  induction m with
  | zero => intro x; simp [dep]
  | succ m ih =>
    intro x
    show depL (dep m) x ≤ m + 1 + 1
    unfold depL
    split
    · exact Nat.succ_le_succ (fold_le ih _ 0 (Nat.zero_le _))
    · omega
theorem foldl_take_succ {l : List (List D)} {k : Nat} {x : List D} (hx : l[k]? = some x) (f : Nat → List D → Nat) (a : Nat) : (l.take (k + 1)).foldl f a = f ((l.take k).foldl f a) x := by
  rw [List.take_add_one, hx, List.foldl_append]
  rfl
set_option maxRecDepth 100000 in
set_option maxHeartbeats 2000000 in
theorem deep_step (w0 : World) (m : Nat) (hm : m < 2000000) (op n : Int) (nm fd : ByteArray) (la : Option Addr) (l : List (List D)) (lc : Nat) (hA : At w0 (.slice la l.length lc) (.row l)) (hs : ∀ x ∈ l, ShE x)
    (hf : ∀ x ∈ l, ∀ vs, AllAt w0 vs x → ∀ W, Below w0.heap.size w0 W → Calls Tryz.prog 30 #[.agg ⟨vs⟩, .int .i64 (m : Nat)] W fun e W' => e = .returned (.int .i64 (dep m x : Nat)) ∧ Below W.heap.size W W') (w : World) (hW : Below w0.heap.size w0 w) :
    Calls Tryz.prog 30 #[.agg #[.int .i64 op, .int .i64 n, .string nm, .string fd, .slice la l.length lc], .int .i64 ((m + 1 : Nat) : Int)] w fun e w' => e = .returned (.int .i64 ((l.foldl (depF (dep m)) 0 + 1 : Nat) : Int)) ∧ Below w.heap.size w w' := by
  have HA := Lib.hid hA
  have HS := Lib.hid hs
  have HF := Lib.hid hf
  have HW := Lib.hid hW
  have hle := hA.len_le
  have hm1 : decide ((0 : Int) < ((m + 1 : Nat) : Int)) = true := by simp
  have hbnd : ∀ k, (l.take k).foldl (depF (dep m)) 0 ≤ m + 1 := fun k => fold_le (dep_le m) _ 0 (Nat.zero_le _)
  have HBN := Lib.hid hbnd
  have KB := Lib.hid (heap_new w (.cells #[.int .i64 op, .int .i64 n, .string nm, .string fd, .slice la l.length lc] 25))
  have R0 := Lib.hid ((Below.refl w.heap.size w).alloc (Nat.le_refl _) (.cells #[.int .i64 op, .int .i64 n, .string nm, .string fd, .slice la l.length lc] 25))
  clear hA hs hf hW hbnd
  generalize hmm : ((m + 1 : Nat) : Int) = mm at *
  go_enter Tryz.func30, Tryz.ntmps30
  go_wp2_with fail
  go_loopw [5, 6] (fun dv iv wr => ∃ k : Nat, k ≤ l.length ∧ iv = .int .i64 k ∧ dv = .int .i64 (((l.take k).foldl (depF (dep m)) 0 : Nat) : Int) ∧ Hid (wr.heap[w.heap.size]? = some (.cells #[.int .i64 op, .int .i64 n, .string nm, .string fd, .slice la l.length lc] 25)) ∧ Below w.heap.size w wr) (fun _ i _ => l.length - (intOf i).toNat)
  case atStart => exact ⟨0, Nat.zero_le _, rfl, rfl, KB, R0.out⟩
  case round =>
    obtain ⟨k, hk, rfl, rfl, KK, hb⟩ := hrel
    have HB := Lib.hid hb
    have cc := box_cells KK.out
    clear hb
    by_cases hlt : k < l.length
    · obtain ⟨b, o, vs, ds, rfl, hbl, hx, hv, hc⟩ := HA.out.elem hlt
      have hfn := HF.out ds (List.mem_of_getElem? hx) vs hv
      obtain ⟨op2, n2, nm2, fd2, kl, kla, klc, hds, hvs, _⟩ := hv.openE (HS.out _ (List.mem_of_getElem? hx))
      subst hvs
      have hdl : ds.length = 5 := by rw [hds]; rfl
      rw [hdl] at hc
      have B0 := HW.out.trans (HB.out.mono HW.out.size)
      have c0 := (B0.cell (p := ⟨b, o + k * 5, none⟩) hbl).trans (hc 0 _ rfl)
      have c1 := (B0.cell (p := ⟨b, o + k * 5 + 1, none⟩) hbl).trans (hc 1 _ rfl)
      have c2 := (B0.cell (p := ⟨b, o + k * 5 + 2, none⟩) hbl).trans (hc 2 _ rfl)
      have c3 := (B0.cell (p := ⟨b, o + k * 5 + 3, none⟩) hbl).trans (hc 3 _ rfl)
      have c4 := (B0.cell (p := ⟨b, o + k * 5 + 4, none⟩) hbl).trans (hc 4 _ rfl)
      have hbw : b < wr.heap.size := Nat.lt_of_lt_of_le hbl B0.size
      have FN := Lib.hid (hfn _ B0)
      have HT := Lib.hid (foldl_take_succ hx (depF (dep m)) 0)
      have HU := Lib.hid (show isUp ds = (op2 == 25) by rw [hds]; rfl)
      have hb1 := HBN.out k
      have hdl2 := dep_le m ds
      clear hx hds hdl hc B0 hv hfn
      generalize (l.take k).foldl (depF (dep m)) 0 = A at *
      cases hu : op2 == 25 with
      | true =>
        have hne : (op2 != 25) = false := by rw [bne, hu]; rfl
        have HE := Lib.hid (show (l.take (k + 1)).foldl (depF (dep m)) 0 = A by rw [HT.out]; unfold depF; rw [HU.out, hu]; rfl)
        go_wp2_with fail
        go_roundw
        case rel => exact ⟨k + 1, by omega, by go_num, by rw [HE.out], KK, HB.out⟩
        case measure => simp [intOf]; omega
      | false =>
        have hne : (op2 != 25) = true := by rw [bne, hu]; rfl
        have HE := Lib.hid (show (l.take (k + 1)).foldl (depF (dep m)) 0 = max A (dep m ds) by rw [HT.out]; unfold depF; rw [HU.out, hu]; rfl)
        have hsub : mm - 1 = (m : Nat) := by omega
        go_wp2_with fail
        refine FN.out.mono ?_
        rintro e w3 ⟨rfl, b3⟩
        have HB3 := Lib.hid (HB.out.trans (b3.mono HB.out.size))
        have K3 := Lib.hid ((b3.block _ (heap_lt KK.out)).trans KK.out)
        clear b3 c0 c1 c2 c3 c4 cc
        generalize dep m ds = B at *
        go_wp2_with fail
        go_roundw
        case rel => exact ⟨k + 1, by omega, by go_num, by rw [HE.out]; simp [Int.max_def, Nat.max_def]; split <;> omega, K3, HB3.out⟩
        case measure => simp [intOf]; omega
    · obtain rfl : k = l.length := by omega
      have hT : (l.take l.length).foldl (depF (dep m)) 0 = l.foldl (depF (dep m)) 0 := by rw [List.take_length]
      have hb1 := HBN.out l.length
      have HT := Lib.hid hT
      clear hT
      generalize (l.take l.length).foldl (depF (dep m)) 0 = A at *
      go_wp2_with fail
      go_ret
      exact ⟨by rw [← HT.out]; rfl, HB.out⟩
set_option maxRecDepth 100000 in
set_option maxHeartbeats 2000000 in
theorem deep_0 (op n : Int) (nm fd : ByteArray) (la : Option Addr) (len lc : Nat) (hl : len ≤ 9223372036854775807) (w : World) :
    Calls Tryz.prog 30 #[.agg #[.int .i64 op, .int .i64 n, .string nm, .string fd, .slice la len lc], .int .i64 0] w fun e w' => e = .returned (.int .i64 1) ∧ Below w.heap.size w w' := by
  have KB := Lib.hid (heap_new w (.cells #[.int .i64 op, .int .i64 n, .string nm, .string fd, .slice la len lc] 25))
  have R0 := Lib.hid ((Below.refl w.heap.size w).alloc (Nat.le_refl _) (.cells #[.int .i64 op, .int .i64 n, .string nm, .string fd, .slice la len lc] 25))
  go_enter Tryz.func30, Tryz.ntmps30
  go_wp2_with fail
  go_loopw [5, 6] (fun dv iv wr => iv = .int .i64 0 ∧ dv = .int .i64 0 ∧ wr = w.alloc (.cells #[.int .i64 op, .int .i64 n, .string nm, .string fd, .slice la len lc] 25)) (fun _ _ _ => 0)
  case atStart => exact ⟨rfl, rfl, rfl⟩
  case round =>
    obtain ⟨rfl, rfl, rfl⟩ := hrel
    by_cases hlt : 0 < len
    · have hd : decide ((0 : Int) < (len : Int)) = true := by simp; omega
      go_wp2_with fail
      go_ret
      exact ⟨rfl, R0.out⟩
    · obtain rfl : len = 0 := by omega
      go_wp2_with fail
      go_ret
      exact ⟨rfl, R0.out⟩
theorem deep_any (w0 : World) : ∀ (m : Nat), m < 2000000 → ∀ (x : List D) (vs : List Value), ShE x → AllAt w0 vs x → ∀ W, Below w0.heap.size w0 W → Calls Tryz.prog 30 #[.agg ⟨vs⟩, .int .i64 (m : Nat)] W fun e W' => e = .returned (.int .i64 (dep m x : Nat)) ∧ Below W.heap.size W W'
  | 0, _, x, vs, hx, hv, W, _ => by
    obtain ⟨op, n, nm, fd, kl, kla, klc, rfl, rfl, _, _, _, _, akl, _⟩ := hv.openE hx
    exact deep_0 op n nm fd kla kl.length klc akl.len_le W
  | m + 1, hm, x, vs, hx, hv, W, hW => by
    obtain ⟨op, n, nm, fd, kl, kla, klc, rfl, rfl, _, _, _, _, akl, skl⟩ := hv.openE hx
    exact deep_step w0 m (by omega) op n nm fd kla kl klc akl skl (fun y hy us hu U hU => deep_any w0 m (by omega) y us (skl y hy) hu U hU) W hW
end Go.Proofs.YtpcldpnaljheoaaGreatDoor
