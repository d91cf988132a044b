/-
  The printer's expr, walked: fields, elements, truths.
-/
import Derived.Test.YtpcldpnaljheoaaGreatDoorZz6
import Derived.Deep.RegionHeld3
namespace Go.Proofs.YtpcldpnaljheoaaGreatDoor
open Go.RowKit Go.Deep

theorem two_le (x y : ByteArray) (h : x.size ≤ maxLen) (h' : y.size ≤ maxLen) : ∀ u ∈ [x, y], u.size ≤ maxLen := fun u hu => by
  simp only [List.mem_cons, List.mem_nil_iff, or_false] at hu
  rcases hu with rfl | rfl
  · exact h
  · exact h'
theorem flat2 (x y : ByteArray) : S.flat [x, y] = x.data.toList ++ y.data.toList := by simp [S.flat]
set_option maxRecDepth 100000 in
set_option maxHeartbeats 2000000 in
theorem pr_field {w0 : World} {q : Nat} {n : Int} {nm fd : ByteArray} {a : Option Addr} {len c : Nat} (hnm : nm.size ≤ maxLen) (hfd : fd.size ≤ maxLen) {acc : List UInt8} {W : World} (h : PrI w0 q acc W) (hl : acc.length + (nm.data.toList ++ 46 :: fd.data.toList).length ≤ 100000000) :
    Calls Tryz.prog 51 #[prV q, .agg #[.int .i64 6, .int .i64 n, .string nm, .string fd, .slice a len c]] W (PrPost w0 q acc (nm.data.toList ++ 46 :: fd.data.toList) W) := by
  have F0 := Lib.hid (PF.start h 6 n nm fd a len c)
  have HL := Lib.hid hl
  have HN := Lib.hid hnm
  have HD := Lib.hid hfd
  clear h hl hnm hfd
  unfold prV
  have HZ := Lib.hid (show ((W.alloc (.cells #[.pointer (some ⟨q, 0, none⟩), .func (.func 27) #[] #[], .func (.func 28) #[] #[]] 99)).alloc (.cells #[.int .i64 6, .int .i64 n, .string nm, .string fd, .slice a len c] 25)).heap.size = W.heap.size + 1 + 1 by simp)
  go_enter Tryz.func51, Tryz.ntmps51
  go_wp2_with fail
  generalize (W.alloc (.cells #[.pointer (some ⟨q, 0, none⟩), .func (.func 27) #[] #[], .func (.func 28) #[] #[]] 99)).alloc (.cells #[.int .i64 6, .int .i64 n, .string nm, .string fd, .slice a len c] 25) = W0 at F0 HZ ⊢
  have hl1 : acc.length + (S.flat [nm, ⟨#[46]⟩, fd]).length ≤ 100000000 := by rw [flat3]; exact HL.out
  have P1 := Lib.hid (put_lit F0.out.pr [nm, ⟨#[46]⟩, fd] (three_le _ _ _ HN.out (by decide) HD.out) (by show 3 ≤ 10; decide) hl1 HZ.out)
  clear hl1
  refine P1.out.mono ?_
  rintro e w1 ⟨rfl, p1, e1⟩
  have P2 := Lib.hid p1
  have D2 := Lib.hid (F0.out.did.trans e1)
  clear p1 e1
  go_wp2_with fail
  go_end0
  exact PrPost.of P2.out (by rw [flat3]; rfl) D2.out
def idxP (nm : ByteArray) (t : List UInt8) : List UInt8 := nm.data.toList ++ 91 :: (t ++ [93])
set_option maxRecDepth 100000 in
set_option maxHeartbeats 2000000 in
theorem pr_index {w0 : World} {q : Nat} {t : List D → List UInt8} {y : List D} (hf : PrFn w0 q t y) (hs : ShE y) {n : Int} {nm fd : ByteArray} {a : Option Addr} {len c : Nat} {l : List (List D)} (hA : At w0 (.slice a len c) (.row l)) (hy : l[0]? = some y) (hnm : nm.size ≤ maxLen)
    {acc : List UInt8} {W : World} (h : PrI w0 q acc W) (hl : acc.length + (idxP nm (t y)).length ≤ 100000000) :
    Calls Tryz.prog 51 #[prV q, .agg #[.int .i64 5, .int .i64 n, .string nm, .string fd, .slice a len c]] W (PrPost w0 q acc (idxP nm (t y)) W) := by
  have hln := hA.len_eq.1
  have h0l : 0 < l.length := (List.getElem?_eq_some_iff.1 hy).1
  obtain ⟨b, o, op1, n1, nm1, fd1, la1, ln1, lc1, rfl, hb, hv, c0, c1, c2, c3, c4⟩ := hA.elemE hy hs
  rw [show o + 0 * 5 = o by omega] at c0 c1 c2 c3 c4
  have F0 := Lib.hid (PF.start h 5 n nm fd (some ⟨b, o, none⟩) len c)
  have HC := Lib.hid (And.intro c0 (And.intro c1 (And.intro c2 (And.intro c3 c4))))
  unfold idxP at hl ⊢
  have HF := Lib.hid (fun (acc' : List UInt8) (U : World) (p : PrI w0 q acc' U) (hh : acc'.length + (t y).length ≤ 100000000) => hf _ hv acc' U p hh)
  generalize t y = ty at HF hl ⊢
  have HL := Lib.hid hl
  have HN := Lib.hid hnm
  have HB := Lib.hid hb
  have hlen : (0 : Int) < (len : Int) := by omega
  have hlen2 : 0 < len := by omega
  clear hv hs h hf hA hy hl c0 c1 c2 c3 c4 h0l hln hb hnm
  unfold prV at HF ⊢
  have HZ := Lib.hid (show ((W.alloc (.cells #[.pointer (some ⟨q, 0, none⟩), .func (.func 27) #[] #[], .func (.func 28) #[] #[]] 99)).alloc (.cells #[.int .i64 5, .int .i64 n, .string nm, .string fd, .slice (some ⟨b, o, none⟩) len c] 25)).heap.size = W.heap.size + 1 + 1 by simp)
  go_enter Tryz.func51, Tryz.ntmps51
  go_wp2_with fail
  generalize (W.alloc (.cells #[.pointer (some ⟨q, 0, none⟩), .func (.func 27) #[] #[], .func (.func 28) #[] #[]] 99)).alloc (.cells #[.int .i64 5, .int .i64 n, .string nm, .string fd, .slice (some ⟨b, o, none⟩) len c] 25) = W0 at F0 HZ ⊢
  have hl1 : acc.length + (S.flat [nm, ⟨#[91]⟩]).length ≤ 100000000 := by rw [flat2]; have := HL.out; simp at this ⊢; omega
  have P1 := Lib.hid (put_lit F0.out.pr [nm, ⟨#[91]⟩] (two_le _ _ HN.out (by decide)) (by show 2 ≤ 10; decide) hl1 HZ.out)
  clear hl1
  refine P1.out.mono ?_
  rintro e w1 ⟨rfl, p1, e1⟩
  have F1 := Lib.hid (F0.out.next p1 e1)
  have FD := Lib.hid (F1.out.below (below_drew0 (Below.refl w1.heap.size w1)))
  have gp1 := box_cells F1.out.bp
  have ge1 := box_cells F1.out.be
  have k0 : w1.cell? ⟨b, o, none⟩ = some (.int .i64 op1) := (F1.out.pr.lo.cell (p := ⟨b, o, none⟩) HB.out).trans HC.out.1
  have k1 : w1.cell? ⟨b, o + 1, none⟩ = some (.int .i64 n1) := (F1.out.pr.lo.cell (p := ⟨b, o + 1, none⟩) HB.out).trans HC.out.2.1
  have k2 : w1.cell? ⟨b, o + 2, none⟩ = some (.string nm1) := (F1.out.pr.lo.cell (p := ⟨b, o + 2, none⟩) HB.out).trans HC.out.2.2.1
  have k3 : w1.cell? ⟨b, o + 3, none⟩ = some (.string fd1) := (F1.out.pr.lo.cell (p := ⟨b, o + 3, none⟩) HB.out).trans HC.out.2.2.2.1
  have k4 : w1.cell? ⟨b, o + 4, none⟩ = some (.slice la1 ln1 lc1) := (F1.out.pr.lo.cell (p := ⟨b, o + 4, none⟩) HB.out).trans HC.out.2.2.2.2
  have hl2 : (acc ++ S.flat [nm, ⟨#[91]⟩]).length + ty.length ≤ 100000000 := by rw [flat2]; have := HL.out; simp at this ⊢; omega
  have P2 := Lib.hid (HF.out _ _ FD.out.pr hl2)
  clear p1 e1 P1 hl2
  go_wp2_with fail
  go_still_tail 5, (by kernel_rfl)
  go_wp2_with fail
  refine P2.out.mono ?_
  rintro e w2 ⟨rfl, p2, e2⟩
  have F2 := Lib.hid (FD.out.next p2 e2)
  have gp2 := box_cells F2.out.bp
  have hl3 : (acc ++ S.flat [nm, ⟨#[91]⟩] ++ ty).length + (S.flat [⟨#[93]⟩]).length ≤ 100000000 := by rw [flat1, flat2]; have := HL.out; simp at this ⊢; omega
  have P3 := Lib.hid (put_lit F2.out.pr [⟨#[93]⟩] (one_le _ (by decide)) (by decide) hl3 rfl)
  clear p2 e2 gp1 ge1 k0 k1 k2 k3 k4 P2 hl3
  go_wp2_with fail
  refine P3.out.mono ?_
  rintro e w3 ⟨rfl, p3, e3⟩
  have P4 := Lib.hid p3
  have D4 := Lib.hid (F2.out.did.trans e3)
  clear p3 e3
  go_wp2_with fail
  go_end0
  exact PrPost.of P4.out (by rw [flat1, flat2]; simp) D4.out
def truP (n : Int) : ByteArray := if n = 1 then trueB else falseB
set_option maxRecDepth 100000 in
set_option maxHeartbeats 2000000 in
theorem pr_bool {w0 : World} {q k : Nat} (hk : k < 2) {nm fd : ByteArray} {a : Option Addr} {len c : Nat} {acc : List UInt8} {W : World} (h : PrI w0 q acc W) (hl : acc.length + (truP (k : Nat)).data.toList.length ≤ 100000000) :
    Calls Tryz.prog 51 #[prV q, .agg #[.int .i64 2, .int .i64 (k : Nat), .string nm, .string fd, .slice a len c]] W (PrPost w0 q acc (truP (k : Nat)).data.toList W) := by
  have F0 := Lib.hid (PF.start h 2 (k : Nat) nm fd a len c)
  have G0 := F0.out.pr.gtW
  have HT := Lib.hid (show ∀ U : World, Gt U → U.cell? ⟨1, k, none⟩ = some (.string (truP (k : Nat))) from fun U G => by
    by_cases h1 : k = 1
    · subst h1; exact G.tr1
    · obtain rfl : k = 0 := by omega
      exact G.tr0)
  have hxs : (truP (k : Nat)).size ≤ maxLen := by unfold truP; split <;> decide
  generalize truP (k : Nat) = x at HT hxs hl ⊢
  have HL := Lib.hid hl
  have HS := Lib.hid hxs
  have i0 : (0 : Int) ≤ (k : Int) := by omega
  have i1 : (k : Int) < 2 := by omega
  clear h hl hxs G0
  unfold prV
  go_enter Tryz.func51, Tryz.ntmps51
  go_wp2_with fail
  generalize (W.alloc (.cells #[.pointer (some ⟨q, 0, none⟩), .func (.func 27) #[] #[], .func (.func 28) #[] #[]] 99)).alloc (.cells #[.int .i64 2, .int .i64 (k : Nat), .string nm, .string fd, .slice a len c] 25) = W0 at F0 ⊢
  have gp := box_cells F0.out.bp
  have ge := box_cells F0.out.be
  have t0 := HT.out _ F0.out.pr.gtW
  have gs2 : 1 < W0.heap.size := by have := F0.out.pr.gtW.sz; omega
  have FD := Lib.hid (F0.out.below (below_drew0 (Below.refl W0.heap.size W0)))
  have hl1 : acc.length + (S.flat [x]).length ≤ 100000000 := by rw [flat1]; exact HL.out
  have P1 : Hid (Calls Tryz.prog 92 #[.pointer (some ⟨q, 0, none⟩), .slice (some ⟨W0.heap.size, 0, none⟩) 1 1] (W0.alloc (.cells #[.string x] 9)).drew fun e w' => e = .returned (.bool true) ∧ PrI w0 q (acc ++ S.flat [x]) w' ∧ S.Did q W0.drew w') := Lib.hid (put_lit FD.out.pr [x] (one_le _ HS.out) (by show 1 ≤ 10; decide) hl1 (z := W0.heap.size) rfl)
  have KB : ∀ (acc' : List UInt8) (W' : World), PF w0 q W.heap.size 2 (k : Nat) nm fd a len c acc' W W' → W'.cell? ⟨W.heap.size, 0, none⟩ = some (.pointer (some ⟨q, 0, none⟩)) ∧ W'.cell? ⟨W.heap.size + 1, 1, none⟩ = some (.int .i64 (k : Nat)) ∧ W'.cell? ⟨1, k, none⟩ = some (.string x) := fun _ W' f => ⟨box_cells f.bp 0, box_cells f.be 1, HT.out _ f.pr.gtW⟩
  have HK0 := Lib.hid (KB _ _ FD.out)
  have HK1 := Lib.hid (KB _ _ (F0.out.below (below_drew0 ((Below.refl W0.heap.size W0).alloc (Nat.le_refl _) (.cells #[.string x] 9)))))
  have HKB := Lib.hid KB
  clear hl1 KB gp ge t0
  go_region_held3 (fun W' => W'.cell? ⟨W.heap.size, 0, none⟩ = some (.pointer (some ⟨q, 0, none⟩)) ∧ W'.cell? ⟨W.heap.size + 1, 1, none⟩ = some (.int .i64 (k : Nat)) ∧ W'.cell? ⟨1, k, none⟩ = some (.string x))
    (first | with_reducible exact HK0.out | with_reducible exact HK1.out | with_reducible exact HK2.out | with_reducible assumption)
    (first | (go_at_call 92; refine P1.out.mono ?_; rintro e w1 ⟨rfl, p1, e1⟩; have F2 := Lib.hid (FD.out.next p1 e1); have HK2 := Lib.hid (HKB.out _ _ F2.out); clear p1 e1))
  all_goals
    go_wp2_with fail
    go_end0
    exact PrPost.of F2.out.pr (by rw [flat1]) F2.out.did
end Go.Proofs.YtpcldpnaljheoaaGreatDoor
