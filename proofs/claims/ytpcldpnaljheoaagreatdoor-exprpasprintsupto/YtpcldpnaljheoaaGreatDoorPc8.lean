/-
  The printer's call, walked.
-/
import Derived.Test.YtpcldpnaljheoaaGreatDoorPy8
import Derived.Test.YtpcldpnaljheoaaGreatDoorZz6
namespace Go.Proofs.YtpcldpnaljheoaaGreatDoor
open Go.RowKit Go.Deep

def jnL (t : List D → List UInt8) : Bool → List (List D) → List UInt8
  | _, [] => []
  | b, x :: r => (if b = true then [] else [44, 32]) ++ (t x ++ jnL t false r)
theorem jnL_take (t : List D → List UInt8) : ∀ (l : List (List D)) (b : Bool) (k : Nat) (x : List D), l[k]? = some x →
    jnL t b (l.take (k + 1)) = jnL t b (l.take k) ++ ((if k = 0 then (if b = true then [] else [44, 32]) else [44, 32]) ++ t x)
  | [], _, _, _, h => by simp at h
  | y :: r, b, 0, x, h => by
    have : y = x := by simpa using h
    subst this
    simp [jnL]
  | y :: r, b, k + 1, x, h => by
    have hx : r[k]? = some x := by simpa using h
    have ih := jnL_take t r false k x hx
    rw [List.take_succ_cons, List.take_succ_cons]
    simp only [jnL]
    rw [ih]
    by_cases hk : k = 0
    · subst hk
      simp [jnL]
    · simp [hk]
theorem jnL_le (t : List D → List UInt8) : ∀ (l : List (List D)) (b : Bool) (k : Nat), (jnL t b (l.take k)).length ≤ (jnL t b l).length
  | [], _, k => by simp
  | y :: r, b, 0 => Nat.zero_le _
  | y :: r, b, k + 1 => by
    have := jnL_le t r false k
    rw [List.take_succ_cons]
    simp only [jnL, List.length_append]
    omega
def calP (nm : ByteArray) (t : List D → List UInt8) (l : List (List D)) : List UInt8 := nm.data.toList ++ 40 :: (jnL t true l ++ [41])
set_option maxRecDepth 100000 in
set_option maxHeartbeats 4000000 in
theorem call_any {w0 : World} {q : Nat} {t : List D → List UInt8} {l : List (List D)} (hf : ∀ y ∈ l, PrFn w0 q t y) (hs : ∀ y ∈ l, ShE y) {op n : Int} {nm fd : ByteArray} {a : Option Addr} {len c : Nat} (hA : At w0 (.slice a len c) (.row l)) (hnm : nm.size ≤ maxLen)
    {acc : List UInt8} {W : World} (h : PrI w0 q acc W) (hl : acc.length + (calP nm t l).length ≤ 100000000) :
    Calls Tryz.prog 93 #[prV q, .agg #[.int .i64 op, .int .i64 n, .string nm, .string fd, .slice a len c]] W (PrPost w0 q acc (calP nm t l) W) := by
  have hle := hA.len_le
  have HLE := Lib.hid hA.len_eq.1
  have F0 := Lib.hid (PF.start h op n nm fd a len c)
  have HA := Lib.hid hA
  have HF := Lib.hid hf
  have HS := Lib.hid hs
  have HN := Lib.hid hnm
  unfold calP at hl ⊢
  have HL := Lib.hid hl
  have HZ := Lib.hid (show ((W.alloc (.cells #[.pointer (some ⟨q, 0, none⟩), .func (.func 27) #[] #[], .func (.func 28) #[] #[]] 99)).alloc (.cells #[.int .i64 op, .int .i64 n, .string nm, .string fd, .slice a len c] 25)).heap.size = W.heap.size + 1 + 1 by simp)
  clear hA hf hs hnm h hl
  unfold prV
  go_enter Tryz.func93, Tryz.ntmps93
  go_wp2_with fail
  generalize (W.alloc (.cells #[.pointer (some ⟨q, 0, none⟩), .func (.func 27) #[] #[], .func (.func 28) #[] #[]] 99)).alloc (.cells #[.int .i64 op, .int .i64 n, .string nm, .string fd, .slice a len c] 25) = W0 at F0 HZ ⊢
  have hl1 : acc.length + (S.flat [nm, ⟨#[40]⟩]).length ≤ 100000000 := by rw [flat2]; have := HL.out; simp at this ⊢; omega
  have P1 := Lib.hid (put_lit F0.out.pr [nm, ⟨#[40]⟩] (two_le _ _ HN.out (by decide)) (by show 2 ≤ 10; decide) hl1 HZ.out)
  clear hl1
  refine P1.out.mono ?_
  rintro e w1 ⟨rfl, p1, e1⟩
  have F1 := Lib.hid (F0.out.next p1 e1)
  have gp1 := box_cells F1.out.bp
  have ge1 := box_cells F1.out.be
  clear p1 e1 P1 F0
  go_wp2_with fail
  go_loopw [15] (fun i wr => ∃ k : Nat, i = .int .i64 (k : Nat) ∧ k ≤ len ∧ PF w0 q W.heap.size op n nm fd a len c (acc ++ S.flat [nm, ⟨#[40]⟩] ++ jnL t true (l.take k)) W wr) (fun i _ => len - (intOf i).toNat)
  case atStart => exact ⟨0, rfl, Nat.zero_le _, by simpa [jnL] using F1.out⟩
  case round =>
    obtain ⟨k, rfl, hk, hF⟩ := hrel
    have F := Lib.hid hF
    have gp := box_cells hF.bp
    clear hF gp1 ge1 F1
    by_cases hlt : k < len
    · obtain ⟨x, hx⟩ : ∃ x, l[k]? = some x := ⟨_, List.getElem?_eq_getElem (by rw [HLE.out]; exact hlt)⟩
      have hmem := List.mem_of_getElem? hx
      obtain ⟨b, o, op1, n1, nm1, fd1, la1, ln1, lc1, rfl, hb, hv, c0, c1, c2, c3, c4⟩ := HA.out.elemE hx (HS.out x hmem)
      have hfx := HF.out x hmem _ hv
      have hjt := jnL_take t l true k x hx
      have hjl := jnL_le t l true (k + 1)
      rw [hjt, List.length_append, List.length_append] at hjl
      have HJ := Lib.hid hjt
      have hvo := Lib.hid hv.one
      have hvl : ([.int .i64 op1, .int .i64 n1, .string nm1, .string fd1, .slice la1 ln1 lc1] : List Value).length = 5 := rfl
      have C0 := Lib.hid (show ∀ j u, ([.int .i64 op1, .int .i64 n1, .string nm1, .string fd1, .slice la1 ln1 lc1] : List Value)[j]? = some u → wr.cell? ⟨b, o + k * 5 + j, none⟩ = some u from fun j u hu => by
        refine (F.out.pr.lo.cell (p := ⟨b, o + k * 5 + j, none⟩) hb).trans ?_
        match j, hu with
        | 0, hu => cases hu; exact c0
        | 1, hu => cases hu; exact c1
        | 2, hu => cases hu; exact c2
        | 3, hu => cases hu; exact c3
        | 4, hu => cases hu; exact c4)
      have hbw : b < wr.heap.size := Nat.lt_of_lt_of_le hb F.out.pr.lo.size
      have F2 := Lib.hid (F.out.sign (.cells #[.int .i64 op1, .int .i64 n1, .string nm1, .string fd1, .slice la1 ln1 lc1] 25))
      have HZ2 := Lib.hid (show (wr.alloc (.cells #[.int .i64 op1, .int .i64 n1, .string nm1, .string fd1, .slice la1 ln1 lc1] 25)).heap.size = wr.heap.size + 1 by simp)
      have HLx := HL.out
      simp only [List.length_append, List.length_cons] at HLx
      have HX := Lib.hid hfx
      clear hx hmem hv c0 c1 c2 c3 c4 hjt hfx hb
      generalize jnL t true (l.take k) = tk at *
      generalize t x = tx at *
      by_cases hk0 : k = 0
      · subst hk0
        rw [if_pos rfl, if_pos rfl, List.nil_append] at HJ
        have hl2 : (acc ++ S.flat [nm, ⟨#[40]⟩] ++ tk).length + tx.length ≤ 100000000 := by rw [flat2]; simp at hjl HLx ⊢; omega
        have gpx := box_cells F2.out.1.bp
        have C2 := Lib.hid (show ∀ j u, ([.int .i64 op1, .int .i64 n1, .string nm1, .string fd1, .slice la1 ln1 lc1] : List Value)[j]? = some u → (wr.alloc (.cells #[.int .i64 op1, .int .i64 n1, .string nm1, .string fd1, .slice la1 ln1 lc1] 25)).cell? ⟨wr.heap.size, 0 + j, none⟩ = some u from fun j u hu => by
          rw [box_cells F2.out.2.1]
          simpa using hu)
        have P2 := Lib.hid (HX.out _ _ F2.out.1.pr hl2)
        unfold prV at P2
        clear hl2 HX
        go_wp2_with (first
          | ((with_reducible refine wp_loadAgg (o := ⟨some 19, _, _, _, _, _⟩) rfl (.tmp 18) 25 rfl 5 Tryz.isAgg25 Tryz.sizeOf25 b (o + k * 5) ?_ _ hvl C0.out ?_); rfl)
          | ((with_reducible refine wp_loadAgg (o := ⟨some 19, _, _, _, _, _⟩) rfl (.tmp 18) 25 rfl 5 Tryz.isAgg25 Tryz.sizeOf25 b (o + 0 * 5) ?_ _ hvl C0.out ?_); rfl)
          | ((with_reducible refine wp_storeNew (o := ⟨none, .store 25 (.tmp 5) (.tmp 19), _, _, _, _⟩) rfl (.tmp 5) (.tmp 19) 25 rfl 5 Tryz.sizeOf25 _ ?_ ?_ _ ?_ hvl hvo.out ?_); rfl; rfl; rfl)
          | ((with_reducible refine wp_loadAgg (o := ⟨some 27, _, _, _, _, _⟩) rfl (.tmp 5) 25 rfl 5 Tryz.isAgg25 Tryz.sizeOf25 wr.heap.size 0 ?_ _ hvl C2.out ?_); rfl))
        refine P2.out.mono ?_
        rintro e w3 ⟨rfl, p3, e3⟩
        have F3 := Lib.hid (F2.out.1.next p3 e3)
        clear p3 e3 P2
        go_wp2_with fail
        go_roundw
        case rel => exact ⟨1, by go_num, by omega, by rw [show (0 : Nat) + 1 = 1 from rfl] at HJ; rw [HJ.out, ← List.append_assoc]; exact F3.out⟩
        case measure => simp [intOf]; omega
      · skip
        have d1 : decide ((k : Int) > 0) = true := by simp; omega
        have d2 : decide ((0 : Int) < (k : Int)) = true := by simp; omega
        have d3 : decide (0 < k) = true := by simp; omega
        have d4 : 0 < k := by omega
        rw [if_neg hk0] at HJ hjl
        have hl2 : (acc ++ S.flat [nm, ⟨#[40]⟩] ++ tk).length + (S.flat [⟨#[44, 32]⟩]).length ≤ 100000000 := by rw [flat1, flat2]; simp at hjl HLx ⊢; omega
        have hl4 : (acc ++ S.flat [nm, ⟨#[40]⟩] ++ tk ++ S.flat [⟨#[44, 32]⟩]).length + tx.length ≤ 100000000 := by rw [flat1, flat2]; simp at hjl HLx ⊢; omega
        have HL4 := Lib.hid hl4
        have gpx := box_cells F2.out.1.bp
        have P2 := Lib.hid (put_lit F2.out.1.pr [⟨#[44, 32]⟩] (one_le _ (by decide)) (by decide) hl2 HZ2.out)
        clear hl2 hl4 hk0
        go_wp2_with (first
          | ((with_reducible refine wp_loadAgg (o := ⟨some 19, _, _, _, _, _⟩) rfl (.tmp 18) 25 rfl 5 Tryz.isAgg25 Tryz.sizeOf25 b (o + k * 5) ?_ _ hvl C0.out ?_); rfl)
          | ((with_reducible refine wp_storeNew (o := ⟨none, .store 25 (.tmp 5) (.tmp 19), _, _, _, _⟩) rfl (.tmp 5) (.tmp 19) 25 rfl 5 Tryz.sizeOf25 _ ?_ ?_ _ ?_ hvl hvo.out ?_); rfl; rfl; rfl))
        refine P2.out.mono ?_
        rintro e w3 ⟨rfl, p3, e3⟩
        have F3 := Lib.hid (F2.out.1.next p3 e3)
        have BX := Lib.hid (box_next F2.out.2.1 F2.out.2.2 e3)
        have gp3 := box_cells F3.out.bp
        have C2 := Lib.hid (show ∀ j u, ([.int .i64 op1, .int .i64 n1, .string nm1, .string fd1, .slice la1 ln1 lc1] : List Value)[j]? = some u → w3.cell? ⟨wr.heap.size, 0 + j, none⟩ = some u from fun j u hu => by
          rw [box_cells BX.out.1]
          simpa using hu)
        have P3 := Lib.hid (HX.out _ _ F3.out.pr HL4.out)
        unfold prV at P3
        clear p3 e3 P2 HX gpx gp
        go_wp2_with (first
          | ((with_reducible refine wp_loadAgg (o := ⟨some 27, _, _, _, _, _⟩) rfl (.tmp 5) 25 rfl 5 Tryz.isAgg25 Tryz.sizeOf25 wr.heap.size 0 ?_ _ hvl C2.out ?_); rfl))
        refine P3.out.mono ?_
        rintro e w4 ⟨rfl, p4, e4⟩
        have F4 := Lib.hid (F3.out.next p4 e4)
        clear p4 e4 P3
        go_wp2_with fail
        go_roundw
        case rel => exact ⟨k + 1, by go_num, by omega, by rw [HJ.out, ← List.append_assoc, ← List.append_assoc]; exact F4.out⟩
        case measure => simp [intOf]; omega
    · obtain rfl : k = len := by omega
      have htk : l.take k = l := List.take_of_length_le (by rw [HLE.out]; exact Nat.le_refl _)
      rw [htk] at F
      have hl3 : (acc ++ S.flat [nm, ⟨#[40]⟩] ++ jnL t true l).length + (S.flat [⟨#[41]⟩]).length ≤ 100000000 := by rw [flat1, flat2]; have := HL.out; simp at this ⊢; omega
      have P3 := Lib.hid (put_lit F.out.pr [⟨#[41]⟩] (one_le _ (by decide)) (by decide) hl3 rfl)
      clear hl3 htk
      go_wp2_with fail
      refine P3.out.mono ?_
      rintro e w3 ⟨rfl, p3, e3⟩
      have P4 := Lib.hid p3
      have D4 := Lib.hid (F.out.did.trans e3)
      clear p3 e3
      go_wp2_with fail
      go_end0
      exact PrPost.of P4.out (by rw [flat1, flat2]; simp) D4.out
end Go.Proofs.YtpcldpnaljheoaaGreatDoor
