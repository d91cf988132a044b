/-
  The document's reader of expressions, walked: how many operands the longest call has.
-/
import Derived.Test.YtpcldpnaljheoaaGreatDoorZz3
import Derived.Test.YtpcldpnaljheoaaGreatDoorZz4
namespace Go.Proofs.YtpcldpnaljheoaaGreatDoor
open Go.RowKit Go.Deep Go.Sort

mutual
def gD : D → Nat
  | .int _ => 0
  | .bool _ => 0
  | .str _ => 0
  | .row l => max l.length (gRows l)
def gRow : List D → Nat
  | [] => 0
  | d :: r => max (gD d) (gRow r)
def gRows : List (List D) → Nat
  | [] => 0
  | x :: l => max (gRow x) (gRows l)
end
theorem gRow_E (op n : Int) (nm fd : ByteArray) (l : List (List D)) : gRow [.int op, .int n, .str nm, .str fd, .row l] = max l.length (gRows l) := by
  simp [gRow, gD]
theorem gRows_app : ∀ (a : List (List D)) (x : List D), gRows (a ++ [x]) = max (gRows a) (gRow x)
  | [], x => by simp [gRows]
  | y :: a, x => by
    rw [List.cons_append]
    simp only [gRows, gRows_app a x]
    omega
theorem gRows_take {l : List (List D)} {k : Nat} {x : List D} (hx : l[k]? = some x) : gRows (l.take (k + 1)) = max (gRows (l.take k)) (gRow x) := by
  rw [List.take_add_one, hx]
  exact gRows_app _ _
set_option maxRecDepth 100000 in
set_option maxHeartbeats 2000000 in
theorem long_step (w0 : World) (op n : Int) (nm fd : ByteArray) (la : Option Addr) (l : List (List D)) (lc : Nat) (hA : At w0 (.slice la l.length lc) (.row l)) (hs : ∀ x ∈ l, ShE x)
    (hf : ∀ x ∈ l, ∀ vs, AllAt w0 vs x → ∀ W, Below w0.heap.size w0 W → Calls Tryz.prog 85 #[.agg ⟨vs⟩] W fun e W' => e = .returned (.int .i64 (gRow x : Nat)) ∧ Below W.heap.size W W') (w : World) (hW : Below w0.heap.size w0 w) :
    Calls Tryz.prog 85 #[.agg #[.int .i64 op, .int .i64 n, .string nm, .string fd, .slice la l.length lc]] w fun e w' => e = .returned (.int .i64 ((max l.length (gRows l) : Nat) : Int)) ∧ Below w.heap.size w w' := by
  have HA := Lib.hid hA
  have HS := Lib.hid hs
  have HF := Lib.hid hf
  have HW := Lib.hid hW
  have hle := hA.len_le
  have KB := Lib.hid (heap_new w (.cells #[.int .i64 op, .int .i64 n, .string nm, .string fd, .slice la l.length lc] 25))
  have R0 := Lib.hid ((Below.refl w.heap.size w).alloc (Nat.le_refl _) (.cells #[.int .i64 op, .int .i64 n, .string nm, .string fd, .slice la l.length lc] 25))
  clear hA hs hf hW
  go_enter Tryz.func85, Tryz.ntmps85
  go_wp2_with fail
  go_loopw [3, 4] (fun dv iv wr => ∃ k : Nat, k ≤ l.length ∧ iv = .int .i64 k ∧ dv = .int .i64 ((max l.length (gRows (l.take k)) : Nat) : Int) ∧ Hid (wr.heap[w.heap.size]? = some (.cells #[.int .i64 op, .int .i64 n, .string nm, .string fd, .slice la l.length lc] 25)) ∧ Below w.heap.size w wr) (fun _ i _ => l.length - (intOf i).toNat)
  case atStart => exact ⟨0, Nat.zero_le _, rfl, by simp [gRows], KB, R0.out⟩
  case round =>
    obtain ⟨k, hk, rfl, rfl, KK, hb⟩ := hrel
    have HB := Lib.hid hb
    have cc := box_cells KK.out
    clear hb
    by_cases hlt : k < l.length
    · obtain ⟨b, o, vs, ds, rfl, hbl, hx, hv, hc⟩ := HA.out.elem hlt
      have hfn := HF.out ds (List.mem_of_getElem? hx) vs hv
      obtain ⟨op2, n2, nm2, fd2, kl, kla, klc, hds, hvs, _⟩ := hv.openE (HS.out _ (List.mem_of_getElem? hx))
      subst hvs
      have hdl : ds.length = 5 := by rw [hds]; rfl
      rw [hdl] at hc
      have B0 := HW.out.trans (HB.out.mono HW.out.size)
      have c0 := (B0.cell (p := ⟨b, o + k * 5, none⟩) hbl).trans (hc 0 _ rfl)
      have c1 := (B0.cell (p := ⟨b, o + k * 5 + 1, none⟩) hbl).trans (hc 1 _ rfl)
      have c2 := (B0.cell (p := ⟨b, o + k * 5 + 2, none⟩) hbl).trans (hc 2 _ rfl)
      have c3 := (B0.cell (p := ⟨b, o + k * 5 + 3, none⟩) hbl).trans (hc 3 _ rfl)
      have c4 := (B0.cell (p := ⟨b, o + k * 5 + 4, none⟩) hbl).trans (hc 4 _ rfl)
      have hbw : b < wr.heap.size := Nat.lt_of_lt_of_le hbl B0.size
      have FN := Lib.hid (hfn _ B0)
      have HT := Lib.hid (gRows_take hx)
      clear hx hds hdl hc B0 hv hfn
      generalize gRows (l.take k) = A at *
      go_wp2_with fail
      refine FN.out.mono ?_
      rintro e w3 ⟨rfl, b3⟩
      have HB3 := Lib.hid (HB.out.trans (b3.mono HB.out.size))
      have K3 := Lib.hid ((b3.block _ (heap_lt KK.out)).trans KK.out)
      clear b3 c0 c1 c2 c3 c4 cc
      generalize gRow ds = B at *
      go_wp2_with fail
      go_roundw
      case rel => exact ⟨k + 1, by omega, by go_num, by rw [HT.out]; simp only [Value.int.injEq, true_and]; omega, K3, HB3.out⟩
      case measure => simp [intOf]; omega
    · obtain rfl : k = l.length := by omega
      have HT := Lib.hid (show gRows (l.take l.length) = gRows l by rw [List.take_length])
      generalize gRows (l.take l.length) = A at *
      go_wp2_with fail
      go_ret
      exact ⟨by rw [← HT.out]; rfl, HB.out⟩
theorem rlong_any {w0 : World} {x : List D} (hs : ShE x) : ∀ vs, AllAt w0 vs x → ∀ W, Below w0.heap.size w0 W → Calls Tryz.prog 85 #[.agg ⟨vs⟩] W fun e W' => e = .returned (.int .i64 (gRow x : Nat)) ∧ Below W.heap.size W W' := by
  induction hs with
  | mk op n nm fd l hl ih =>
    intro vs hv W hW
    obtain ⟨op2, n2, nm2, fd2, kl, kla, klc, hds, hvs, _, _, _, _, hrow, _⟩ := hv.openE (.mk op n nm fd l hl)
    subst hvs
    simp only [List.cons.injEq, D.int.injEq, D.str.injEq, D.row.injEq, and_true] at hds
    obtain ⟨rfl, rfl, rfl, rfl, rfl⟩ := hds
    rw [gRow_E]
    exact long_step w0 _ _ _ _ _ _ _ hrow hl (fun x hx vs hv W hW => ih x hx vs hv W hW) W hW
end Go.Proofs.YtpcldpnaljheoaaGreatDoor
