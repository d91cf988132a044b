/-
  The iterator over a text's parts: its contract.
-/
import Derived.RangeFuncNested
import Derived.RangeFuncBound
import Derived.RangeFuncCalls
import Derived.RangeFuncLeaves
import Derived.RangeFuncWrites
import Derived.RangeFuncBox
import Derived.Shelf.Abstract
import Derived.Shelf.RegionOpen
import Derived.OwnWalkIn
import Derived.TacticsInMore
import Derived.LoopNIn
import Derived.LoopIn
import Derived.Test.YtciijpahjjoppaaGreatCut
namespace Go.Proofs.YtciijpahjjoppaaGreat
open Go.RowKit Go.Shelf Go.Deep
attribute [local go_sem] Oper.semAt_some

abbrev Tx (M : Nat) := { b : ByteArray // b.size ≤ M }
theorem grown_drewN (w : World) (q : Nat) : w.grownBy (w.drewN q) none := ⟨rfl, rfl, rfl, Nat.le_refl _, fun _ _ _ => rfl⟩
def leftOf : Value → Value → Nat
  | .string x, .bool true => x.size + 1
  | _, _ => 0

set_option maxRecDepth 100000 in
set_option maxHeartbeats 2000000 in
theorem parts_stops (M : Nat) (hM : M ≤ maxLen) (n : Nat) (hn : 1 ≤ n) (Bn : Nat) (s : ByteArray) (hs : s.size ≤ M) (Kp : World → World → Prop) (w : World) (hBn : w.cell? ⟨Bn, 0, none⟩ = some (.string s)) :
    SeqStopsK Fence.wide n Tryz.prog 140 #[.pointer (some ⟨Bn, 0, none⟩)] (fun x : Tx M => #[.string x.1]) Kp (fun xs => xs.map (·.1) = parts s) (fun pre => pre.map (·.1) <+: parts s) (parts s).length w := fun l J Jx W hW hJ _ hY h0 => by
  have hc : W.cell? ⟨Bn, 0, none⟩ = some (.string s) := by
    have hlt : Bn < w.heap.size := block_lt_of_cell hBn
    rw [hW.cell (p := ⟨Bn, 0, none⟩) hlt]
    exact hBn
  have HY := Lib.hid hY
  have HJ := Lib.hid hJ
  clear hY hJ hW hBn
  refine callsIn_of_wp Tryz.func140 rfl trivial ?_ rfl
  simp only [Tryz.ntmps140, List.size_toArray, List.length_cons, List.length_nil, Nat.reduceAdd, Nat.reduceSub, Array.replicate_succ, Array.replicate_zero, List.push_toArray, List.append_toArray, List.nil_append, List.cons_append]
  gi_wp2
  gi_loopw [3, 4] (fun p m wr => ∃ (pre : List (Tx M)) (left : ByteArray) (more : Bool), p = .string left ∧ m = .bool more ∧ (more = true → left.size ≤ M) ∧ J pre wr ∧ parts s = pre.map (·.1) ++ (if more then parts left else []))
    (fun p m _ => leftOf p m)
  case atStart =>
    exact ⟨[], s, true, rfl, rfl, fun _ => hs, h0, by simp⟩
  case round =>
    obtain ⟨pre, left, more, rfl, rfl, hl0, hJs, hp⟩ := hrel
    have HP := Lib.hid hp
    clear hp
    cases more with
    | false =>
      gi_wp2
      go_end0
      exact ⟨⟨_, rfl⟩, .inl ⟨pre, by simpa using HP.out.symm, hJs⟩⟩
    | true =>
      have hl := hl0 rfl
      clear hl0
      have hne : pre.length < (parts s).length := by
        rw [HP.out, List.length_append, List.length_map]
        have := List.length_pos_iff.2 (parts_ne left)
        simpa using this
      gi_wp2_with (refine ⟨trivial, ?_⟩; gi_at_call 141; refine (callsIn_wide.2 (cut_any left _ (Nat.le_trans hl hM))).mono ?_)
      rintro e w' ⟨p, r, m, rfl, ⟨q, rfl⟩, hcut⟩
      have hpl : p.size ≤ M := by
        have h1 : p ∈ parts left := by rcases hcut with ⟨_, h⟩ | ⟨_, h, _⟩ <;> simp [h]
        exact Nat.le_trans (parts_mem left p h1) hl
      have hrl : m = true → r.size ≤ M ∧ r.size < left.size := by
        rintro rfl
        rcases hcut with ⟨h, _⟩ | ⟨_, _, h⟩
        · cases h
        · exact ⟨by omega, h⟩
      have hnx : parts s = (pre ++ [(⟨p, hpl⟩ : Tx M)]).map (·.1) ++ (if m then parts r else []) := by
        rw [HP.out]
        rcases hcut with ⟨rfl, h⟩ | ⟨rfl, h, _⟩ <;> simp [h]
      have HR := Lib.hid hrl
      have HN := Lib.hid hnx
      clear hcut hrl hnx
      have hJ2 : J pre (wr.drewN q) := HJ.out pre wr _ none hJs (grown_drewN wr q) (by simp)
      obtain ⟨fn, tmps, assign, body, hy, hR⟩ := HY.out pre ⟨p, hpl⟩ (wr.drewN q) hJ2 hne
      dsimp only at hy
      gi_wp2
      refine hR.mono ?_
      rintro e W3 (⟨rfl, hJ3, _⟩ | ⟨rfl, hJx3⟩)
      · clear hy hR
        gi_wp2
        go_roundw
        case rel =>
          exact ⟨pre ++ [⟨p, hpl⟩], r, m, rfl, rfl, fun h => (HR.out h).1, hJ3, HN.out⟩
        case measure => cases m <;> simp [leftOf]; exact (HR.out rfl).2
      · gi_wp2
        refine bodyPost_ret (results_none rfl _ _ _) rfl ?_
        exact ⟨⟨_, rfl⟩, .inr ⟨pre ++ [⟨p, hpl⟩], ⟨_, HN.out.symm⟩, hJx3⟩⟩
end Go.Proofs.YtciijpahjjoppaaGreat
