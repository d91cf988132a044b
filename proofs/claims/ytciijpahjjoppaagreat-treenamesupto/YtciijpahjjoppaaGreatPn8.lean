/-
  Texts of this proof, put together.
-/
import Derived.Test.YtciijpahjjoppaaGreatPn7
import Derived.Deep.MidRow
import Derived.Test.YtciijpahjjoppaaGreatPn4
import Derived.Deep.CutBlock
import Derived.Deep.DeepCutAuto
import Derived.Test.YtciijpahjjoppaaGreatPn3
section
namespace Go.Proofs.YtciijpahjjoppaaGreat
open Go.RowKit Go.Deep Go.Maps

set_option maxRecDepth 100000 in
set_option maxHeartbeats 2000000 in
theorem expr_deep (d op n : Int) (nm fd : ByteArray) (kla : Option Addr) (len klc : Nat) (w : World) :
    Calls Tryz.prog 25 #[.agg #[.int .i64 d, .int .i64 48], .agg #[.int .i64 op, .int .i64 n, .string nm, .string fd, .slice kla len klc]] w fun e w' => e = .returned (.bool false) ∧ Below w.heap.size w w' := by
  have R0 := Lib.hid ((((Below.refl w.heap.size w).alloc (Nat.le_refl _) (.cells #[.int .i64 d, .int .i64 48] 51)).alloc (by simp) (.cells #[.int .i64 op, .int .i64 n, .string nm, .string fd, .slice kla len klc] 24)).alloc (by simp; omega) (.cells #[.int .i64 d, .int .i64 48] 51))
  go_enter Tryz.func25, Tryz.ntmps25
  go_wp2_with fail
  refine (tooDeep_any d 48 _).mono ?_
  rintro e w1 ⟨rfl, rfl⟩
  rw [show decide ((48 : Int) ≤ 48) = true from rfl]
  go_wp2_with fail
  go_ret
  exact ⟨rfl, R0.out⟩
set_option maxRecDepth 100000 in
set_option maxHeartbeats 2000000 in
theorem expr_call (w0 : World) (d : Int) (ar k : Nat) (hk : ar + (k + 1) = 48) (n : Int) (nm fd : ByteArray) (kla : Option Addr) (kl : List (List D)) (klc : Nat) (hnm : nm.size ≤ maxLen) (hA : At w0 (.slice kla kl.length klc) (.row kl)) (hs : ∀ x ∈ kl, ShE x)
    (hf : OkFn w0 25 (.agg #[.int .i64 d, .int .i64 ((ar + 1 : Nat) : Int)]) kl (okE d k)) (w : World) (hW : Below w0.heap.size w0 w) :
    Calls Tryz.prog 25 #[.agg #[.int .i64 d, .int .i64 ar], .agg #[.int .i64 7, .int .i64 n, .string nm, .string fd, .slice kla kl.length klc]] w fun e w' => e = .returned (.bool (callE d n nm fd kl (okE d k))) ∧ Below w.heap.size w w' := by
  have hdp : decide ((48 : Int) ≤ (ar : Int)) = false := by simp; omega
  have HC := Lib.hid (fun (W : World) (hW : Below w0.heap.size w0 W) => call_form w0 d ar k hk 7 n nm fd kla kl klc hnm hA hs hf W hW)
  have HW := Lib.hid hW
  have R0 := Lib.hid (((Below.refl w.heap.size w).alloc (Nat.le_refl _) (.cells #[.int .i64 d, .int .i64 ar] 51)).alloc (by simp) (.cells #[.int .i64 7, .int .i64 n, .string nm, .string fd, .slice kla kl.length klc] 24))
  have KP := Lib.hid (box_first w (.cells #[.int .i64 d, .int .i64 ar] 51) (.cells #[.int .i64 7, .int .i64 n, .string nm, .string fd, .slice kla kl.length klc] 24))
  have KQ := Lib.hid (box_second w (.cells #[.int .i64 d, .int .i64 ar] 51) (.cells #[.int .i64 7, .int .i64 n, .string nm, .string fd, .slice kla kl.length klc] 24))
  clear hA hs hf hW hk
  go_enter Tryz.func25, Tryz.ntmps25
  go_wp2_with fail
  refine (tooDeep_any d ar _).mono ?_
  rintro e w1 ⟨rfl, hw1⟩
  have b1 := (Below.refl _ ((w.alloc (.cells #[.int .i64 d, .int .i64 ar] 51)).alloc (.cells #[.int .i64 7, .int .i64 n, .string nm, .string fd, .slice kla kl.length klc] 24))).alloc (Nat.le_refl _) (.cells #[.int .i64 d, .int .i64 ar] 51)
  rw [← hw1] at b1
  clear hw1
  have R1 := Lib.hid (R0.out.trans (b1.mono R0.out.size))
  have cP1 := box_cells ((b1.block _ (heap_lt KP.out)).trans KP.out)
  have cQ1 := box_cells ((b1.block _ (heap_lt KQ.out)).trans KQ.out)
  rw [hdp]
  clear b1
  go_wp2_with fail
  refine (HC.out _ (HW.out.trans (R1.out.mono HW.out.size))).mono ?_
  rintro e w2 ⟨rfl, b2⟩
  have R2 := Lib.hid (R1.out.trans (b2.mono R1.out.size))
  clear b2 cP1 cQ1
  generalize hr : callE d n nm fd kl (okE d k) = r
  go_wp2_with fail
  go_ret
  exact ⟨by rw [hr]; rfl, R2.out⟩
theorem expr_any (w0 : World) (d : Int) : ∀ (k ar : Nat), ar + k = 48 → ∀ (x : List D) (vs : List Value), ShE x → AllAt w0 vs x → ∀ W, Below w0.heap.size w0 W →
    Calls Tryz.prog 25 #[.agg #[.int .i64 d, .int .i64 ar], .agg ⟨vs⟩] W fun e W' => e = .returned (.bool (okE d k x)) ∧ Below W.heap.size W W'
  | 0, ar, hk, x, vs, hx, hv, W, hW => by
    obtain ⟨op, n, nm, fd, kl, kla, klc, rfl, rfl, _⟩ := hv.openE hx
    obtain rfl : ar = 48 := by omega
    exact expr_deep d op n nm fd kla kl.length klc W
  | k + 1, ar, hk, x, vs, hx, hv, W, hW => by
    obtain ⟨op, n, nm, fd, kl, kla, klc, rfl, rfl, _, _, hnm, hfd, akl, skl⟩ := hv.openE hx
    have hf : OkFn w0 25 (.agg #[.int .i64 d, .int .i64 ((ar + 1 : Nat) : Int)]) kl (okE d k) := fun y hy us hu U hU => expr_any w0 d k (ar + 1) (by omega) y us (skl y hy) hu U hU
    cases hop : op == 7 with
    | true =>
      obtain rfl : op = 7 := by simpa using hop
      exact expr_call w0 d ar k (by omega) n nm fd kla kl klc hnm akl skl hf W hW
    | false =>
      rw [show okE d (k + 1) [.int op, .int n, .str nm, .str fd, .row kl] = formE d op n nm fd kl (okE d k) by simp [okE, hop]]
      exact expr_form w0 d ar k (by omega) op n nm fd kla kl klc hop hnm hfd akl skl hf W hW
end Go.Proofs.YtciijpahjjoppaaGreat
end
section
namespace Go.Proofs.YtciijpahjjoppaaGreat
open Go.RowKit Go.Deep Go.Maps

def codeOf (b : Bool) : Int := if b then 0 else 1
def chkE (d : Int) (x : List D) : Bool := knows d && okE d 48 x
set_option maxRecDepth 100000 in
set_option maxHeartbeats 2000000 in
theorem checkExpr_any (w0 : World) (d : Int) (x : List D) (vs : List Value) (hx : ShE x) (hv : AllAt w0 vs x) (w : World) (hW : Below w0.heap.size w0 w) :
    Calls Tryz.prog 9 #[.int .i64 d, .agg ⟨vs⟩] w fun e w' => e = .returned (.int .i64 (codeOf (chkE d x))) ∧ Below w.heap.size w w' := by
  have HE := Lib.hid (fun (W : World) (hW : Below w0.heap.size w0 W) => expr_any w0 d 48 0 rfl x vs hx hv W hW)
  obtain ⟨op, n, nm, fd, kl, kla, klc, hxe, rfl, _⟩ := hv.openE hx
  have HW := Lib.hid hW
  have HX := Lib.hid hxe
  clear hW hv hx hxe
  have R0 := Lib.hid (((Below.refl w.heap.size w).alloc (Nat.le_refl _) (.cells #[.int .i64 op, .int .i64 n, .string nm, .string fd, .slice kla kl.length klc] 24)).alloc (by simp) (.cells #[.int .i64 d, .int .i64 0] 51))
  have KQ := Lib.hid (box_first w (.cells #[.int .i64 op, .int .i64 n, .string nm, .string fd, .slice kla kl.length klc] 24) (.cells #[.int .i64 d, .int .i64 0] 51))
  have KP := Lib.hid (box_second w (.cells #[.int .i64 op, .int .i64 n, .string nm, .string fd, .slice kla kl.length klc] 24) (.cells #[.int .i64 d, .int .i64 0] 51))
  go_enter Tryz.func9, Tryz.ntmps9
  go_wp2_with fail
  refine (knows_any d 0 _).mono ?_
  rintro e w1 ⟨rfl, hw1⟩
  have b1 := (Below.refl _ ((w.alloc (.cells #[.int .i64 op, .int .i64 n, .string nm, .string fd, .slice kla kl.length klc] 24)).alloc (.cells #[.int .i64 d, .int .i64 0] 51))).alloc (Nat.le_refl _) (.cells #[.int .i64 d, .int .i64 0] 51)
  rw [← hw1] at b1
  clear hw1
  have R1 := Lib.hid (R0.out.trans (b1.mono R0.out.size))
  have cP1 := box_cells ((b1.block _ (heap_lt KP.out)).trans KP.out)
  have cQ1 := box_cells ((b1.block _ (heap_lt KQ.out)).trans KQ.out)
  clear b1
  cases hkn : knows d with
  | false =>
    have HO := Lib.hid (show chkE d x = false by unfold chkE; rw [hkn]; rfl)
    go_wp2_with fail
    refine (told_no _).mono ?_
    rintro e w2 ⟨rfl, rfl⟩
    go_wp2_with fail
    go_ret
    exact ⟨by rw [HO.out]; rfl, R1.out⟩
  | true =>
    have HO := Lib.hid (show chkE d x = okE d 48 x by unfold chkE; rw [hkn]; rfl)
    go_wp2_with fail
    refine (HE.out _ (HW.out.trans (R1.out.mono HW.out.size))).mono ?_
    rintro e w2 ⟨rfl, b2⟩
    have R2 := Lib.hid (R1.out.trans (b2.mono R1.out.size))
    clear b2 cP1 cQ1
    cases hr : okE d 48 x with
    | false =>
      go_wp2_with fail
      refine (told_no _).mono ?_
      rintro e w2 ⟨rfl, rfl⟩
      go_wp2_with fail
      go_ret
      exact ⟨by rw [HO.out, hr]; rfl, R2.out⟩
    | true =>
      go_wp2_with fail
      refine (told_yes _).mono ?_
      rintro e w2 ⟨rfl, rfl⟩
      go_wp2_with fail
      go_ret
      exact ⟨by rw [HO.out, hr]; rfl, R2.out⟩
end Go.Proofs.YtciijpahjjoppaaGreat
end
section
namespace Go.Proofs.YtciijpahjjoppaaGreat
open Go.RowKit Go.Deep Go.Maps

set_option maxRecDepth 100000 in
set_option maxHeartbeats 1000000 in
theorem refName_any (d : Int) (s : ByteArray) (w : World) (hs : s.size ≤ maxLen) : Calls Tryz.prog 29 #[.int .i64 d, .string s] w fun e w' => e = .returned (.bool (okName d s)) ∧ Below w.heap.size w w' := by
  have HC := Lib.hid (refCheck_any s w hs)
  by_cases h0 : chk s = 0
  · have HO := Lib.hid (show okName d s = !isIn s (wordsOf d) by unfold okName; rw [h0]; simp)
    go_enter Tryz.func29, Tryz.ntmps29
    go_wp2_with fail
    refine HC.out.mono ?_
    rw [h0]
    rintro e w' ⟨rfl, rfl⟩
    go_wp2_with fail
    refine (refIs_any d s _).mono ?_
    rintro e w1 ⟨rfl, b1⟩
    have B1 := Lib.hid b1
    clear b1
    generalize hr : isIn s (wordsOf d) = r
    rw [hr] at HO
    go_wp2_with fail
    go_ret
    exact ⟨by rw [HO.out]; rfl, B1.out⟩
  · have HO := Lib.hid (show okName d s = false by unfold okName; simp [h0])
    have h1 : (((chk s : Nat) : Int) == 0) = false := by simpa using h0
    go_enter Tryz.func29, Tryz.ntmps29
    go_wp2_with fail
    refine HC.out.mono ?_
    rintro e w' ⟨rfl, rfl⟩
    go_wp2_with fail
    go_ret
    exact ⟨by rw [HO.out]; rfl, Below.refl _ _⟩
end Go.Proofs.YtciijpahjjoppaaGreat
end
section
namespace Go.Proofs.YtciijpahjjoppaaGreat
open Go.RowKit Go.Maps

theorem OwnS.mono {b b' : Nat} {w : World} {v : Value} {ss : List ByteArray} (h : OwnS b w v ss) (hb : b' ≤ b) : OwnS b' w v ss := by
  refine ⟨h.1, ?_⟩
  rcases h.2 with h4 | ⟨g, cap, cur, hv, hb', r⟩
  · exact .inl h4
  · exact .inr ⟨g, cap, cur, hv, Nat.le_trans hb hb', r⟩
theorem run_appS {base : Nat} {w : World} {v : Value} {ss : List ByteArray} (ty : TypeId) (h : OwnS base w v ss) (hbase : base ≤ w.heap.size) {a : Option Addr} {len cap : Nat} {ls : List ByteArray} (hl : IsStrs w a len cap ls) (hb : ss.length + len ≤ 4000000) :
    ∃ v' w', (Builtin.append_ #[29, 29] ty #[v, .slice a len cap]).run Tryz.prog w = .ok v' w' ∧ OwnS base w' v' (ss ++ ls) ∧ w.grownBy w' v.ownBlock := by
  obtain ⟨i, hi, hz0, hz1, hz2⟩ := info_parts info9
  have go : ∀ ad : Addr, a = some ad → (∀ (j : Nat) u, (ls.map Value.string)[j]? = some u → w.cell? (ad.add j) = some u) → ∃ v' w', (Builtin.append_ #[29, 29] ty #[v, .slice a len cap]).run Tryz.prog w = .ok v' w' ∧ OwnS base w' v' (ss ++ ls) ∧ w.grownBy w' v.ownBlock := by
    intro ad e hn
    subst e
    obtain ⟨v', w', h1, h2, h3, _, h5⟩ := run_append_own_at (P := Tryz.prog) w base 29 ty 9 i (.string ⟨#[]⟩) 1 16 Tryz.underlying29 hi hz0 hz1 hz2 rfl (by decide) v ss.length (ss.map Value.string) h ad len cap (ls.map Value.string) (by rw [List.length_map, hl.1]; omega) hn (by simp [Value.oneCell']) (by unfold maxLen; omega) (by omega) hbase
    refine ⟨v', w', h1, ?_, h3⟩
    unfold OwnS
    rw [List.length_append, hl.1, List.map_append]
    exact h2
  cases a with
  | none =>
    have h0 : len = 0 := by
      rcases hl.2.2.2.2 with h0 | ⟨b, o, e, _⟩
      · exact h0
      · cases e
    subst h0
    have : ls = [] := List.eq_nil_of_length_eq_zero hl.1
    subst this
    refine ⟨v, w, ?_, by rw [List.append_nil]; exact h, ⟨rfl, rfl, rfl, Nat.le_refl _, fun _ _ _ => rfl⟩⟩
    rcases h.2 with ⟨rfl, _⟩ | ⟨g, c, cur, rfl, _, _, hnc, _⟩
    · simp [Builtin.append_, run_underlying Tryz.underlying29, sizeOf, typeInfo, hi, Builtin.lenOf, Builtin.firstCells]
    · simp [Builtin.append_, run_underlying Tryz.underlying29, sizeOf, typeInfo, hi, Builtin.lenOf, Builtin.firstCells, hnc, storeCells]
  | some ad =>
    refine go ad rfl ?_
    intro j u hu
    rcases hl.2.2.2.2 with h0 | ⟨b, o, e, _, hc⟩
    · have : ls = [] := List.eq_nil_of_length_eq_zero (hl.1.trans h0)
      subst this
      simp at hu
    · cases e
      rw [Addr.add_mid]
      rw [List.getElem?_map] at hu
      cases hj : ls[j]? with
      | none => rw [hj] at hu; simp at hu
      | some z => rw [hj] at hu; simp at hu; rw [← hu]; exact hc j z hj
theorem wp_appS {ops : Array Oper} {rest : List Oper} {o : Oper} {a : Act} {Q : Exit → Act → World → Prop} (hgd : o.guard = none) (sl x : Operand)
    (ho : o.op = .call { callee := .builtin .append, args := #[sl, x], argTypes := #[29, 29] })
    {base : Nat} {w : World} {v : Value} {ss : List ByteArray} (h : OwnS base w v ss) (hbase : base ≤ w.heap.size) {ad : Option Addr} {len cap : Nat} {ls : List ByteArray} (hl : IsStrs w ad len cap ls) (hs : a.eval sl = v) (hx : a.eval x = .slice ad len cap) (hb : ss.length + len ≤ 4000000)
    (hk : ∀ v' w', OwnS base w' v' (ss ++ ls) → w.grownBy w' v.ownBlock → wpList Tryz.prog ops Q rest (a.put o.dst v') w') :
    wpList Tryz.prog ops Q (o :: rest) a w := by
  refine wpList_plain hgd fun K hK => ?_
  obtain ⟨v', w', hr, h2, h3⟩ := run_appS o.type h hbase hl hb
  unfold Oper.wp execOp
  simp only [ho, resolve, invoke, builtin, Sem.run_bind, Sem.run_pure, Result.andThen_ok, List.map_toArray, List.map_cons, List.map_nil, hs, hx, hr]
  exact hK _ _ (hk v' w' h2 h3)

theorem splitD_at : ∀ (k : Nat) (l : List UInt8), l[k]? = some 36 → (∀ j, j < k → l[j]? ≠ some 36) → splitD l = l.take k :: splitD (l.drop (k + 1))
  | _, [], h, _ => by simp at h
  | 0, c :: r, h, _ => by
    obtain rfl : c = 36 := by simpa using h
    simp [splitD]
  | k + 1, c :: r, h, hn => by
    have hc : c ≠ 36 := fun e => hn 0 (by omega) (by simp [e])
    have ih := splitD_at k r (by simpa using h) (fun j hj => by simpa using hn (j + 1) (by omega))
    rw [splitD, if_neg hc, ih]
    simp
theorem splitD_none : ∀ (l : List UInt8), (∀ j : Nat, l[j]? ≠ some 36) → splitD l = [l]
  | [], _ => rfl
  | c :: r, hn => by
    have hc : c ≠ 36 := fun e => hn 0 (by simp [e])
    rw [splitD, if_neg hc, splitD_none r (fun j => by simpa using hn (j + 1))]
end Go.Proofs.YtciijpahjjoppaaGreat
end
section
namespace Go.Proofs.YtciijpahjjoppaaGreat
open Go.RowKit Go.Maps

theorem ext_ba (s : ByteArray) (a b : Nat) : s.extract a b = ba ((s.data.toList.drop a).take (b - a)) := by
  have h : (s.extract a b).data.toList = (s.data.toList.drop a).take (b - a) := by
    simp [ByteArray.data_extract, Array.toList_extract, List.extract]
  rw [← h, ba_data]
theorem bt_get (s : ByteArray) (j : Nat) (h : j < s.size) : s.data.toList[j]? = some (bt s j) := by
  unfold bt
  have h' : j < s.data.toList.length := by simpa using h
  rw [List.getD_eq_getElem?_getD, List.getElem?_eq_getElem h']
  rfl
theorem parts_cut (s : ByteArray) (f k : Nat) (hf : f ≤ k) (hk : k < s.size) (h : bt s k = 36) (hn : ∀ j, f ≤ j → j < k → bt s j ≠ 36) :
    (splitD (s.data.toList.drop f)).map ba = s.extract f k :: (splitD (s.data.toList.drop (k + 1))).map ba := by
  rw [splitD_at (k - f) (s.data.toList.drop f) (by rw [List.getElem?_drop, show f + (k - f) = k by omega, bt_get s k hk, h]) (fun j hj => by
    rw [List.getElem?_drop, bt_get s (f + j) (by omega)]
    intro e
    exact hn (f + j) (by omega) (by omega) (by simpa using e)), List.map_cons, ext_ba, List.drop_drop, show f + (k - f + 1) = k + 1 by omega]
theorem parts_last (s : ByteArray) (f : Nat) (hn : ∀ j, f ≤ j → j < s.size → bt s j ≠ 36) :
    (splitD (s.data.toList.drop f)).map ba = [s.extract f s.size] := by
  rw [splitD_none (s.data.toList.drop f) (fun j => by
    rw [List.getElem?_drop]
    by_cases hj : f + j < s.size
    · rw [bt_get s (f + j) hj]
      intro e
      exact hn (f + j) (by omega) hj (by simpa using e)
    · rw [List.getElem?_eq_none (by simp; omega)]
      simp), List.map_cons, List.map_nil, ext_ba, List.take_of_length_le (by simp)]
def PtI (s : ByteArray) (pre : List ByteArray) (f k : Nat) : Prop :=
  (k ≤ s.size ∧ f ≤ k ∧ (∀ j, f ≤ j → j < k → bt s j ≠ 36) ∧ parts s = pre ++ (splitD (s.data.toList.drop f)).map ba) ∨ (k = s.size + 1 ∧ pre = parts s)
theorem PtI.len {s : ByteArray} {pre : List ByteArray} {f k : Nat} (h : PtI s pre f k) : pre.length ≤ s.size + 1 := by
  have := parts_len s
  rcases h with ⟨_, _, _, e⟩ | ⟨_, rfl⟩
  · rw [e, List.length_append] at this; omega
  · exact this
set_option maxRecDepth 100000 in
set_option maxHeartbeats 2000000 in
theorem refParts_any (s : ByteArray) (w : World) (hs : s.size ≤ 2000000) : Calls Tryz.prog 52 #[.string s] w fun e w' => ∃ v, e = .returned v ∧ OwnS w.heap.size w' v (parts s) ∧ Below w.heap.size w w' := by
  have hmx : s.size ≤ maxLen := by unfold maxLen; omega
  go_enter Tryz.func52, Tryz.ntmps52
  go_wp2_with fail
  go_loopw [3, 4, 5] (fun v fv iv wr => ∃ (pre : List ByteArray) (f k : Nat), fv = .int .i64 f ∧ iv = .int .i64 k ∧ f ≤ s.size + 1 ∧ k ≤ s.size + 1 ∧ PtI s pre f k ∧ OwnS w.heap.size wr v pre ∧ Below w.heap.size w wr) (fun _ _ i _ => s.size + 2 - (intOf i).toNat)
  case atStart => exact ⟨[], 0, 0, rfl, rfl, by omega, by omega, .inl ⟨Nat.zero_le _, Nat.le_refl _, fun j _ hj => by omega, by simp [parts]⟩, OwnS.nil _ _, Below.refl _ _⟩
  case round =>
    obtain ⟨pre, f, k, rfl, rfl, hf, hk, hI, hO, hB⟩ := hrel
    have hpl := hI.len
    have HR2 := Lib.hid hO
    have HB2 := Lib.hid hB
    clear hO hB
    rcases hI with ⟨hk1, hfk, hn, he⟩ | ⟨hk1, he⟩
    · have HN := Lib.hid hn
      have HE := Lib.hid he
      clear hn he
      have HB3 := Lib.hid (HB2.out.alloc HB2.out.size (.cells (([s.extract f k] : List ByteArray).map Value.string).toArray 9))
      have HR3 := Lib.hid (HR2.out.below ((Below.refl wr.heap.size wr).alloc (Nat.le_refl _) (.cells (([s.extract f k] : List ByteArray).map Value.string).toArray 9)))
      have HLs := Lib.hid (lit_strs wr [s.extract f k] (by simp [maxLen]) (by
        intro z hz
        obtain rfl : z = s.extract f k := by simpa using hz
        simp [ByteArray.size_extract]
        omega))
      have hsz := HB2.out.size
      by_cases hlt : k < s.size
      · by_cases hd : bt s k = 36
        · have hq : (((s[k]).toNat : Int) == 36) = true := by rw [bt_eq s k hlt, hd]; rfl
          have HP := Lib.hid (show PtI s (pre ++ [s.extract f k]) (k + 1) (k + 1) from .inl ⟨by omega, Nat.le_refl _, fun j h1 h2 => by omega, by rw [HE.out, parts_cut s f k hfk hlt hd HN.out]; simp⟩)
          clear hd
          go_wp2_with (first
          | (at_builtin
             refine wp_appS rfl (.tmp 22) (.tmp 27) rfl HR3.out (by simp; omega) HLs.out rfl rfl (by simp; omega) ?_
             intro v' w7 hown7 hgrow7
             have HR7 := Lib.hid hown7
             have HB7 := Lib.hid (HB3.out.grown hgrow7 (by simp; omega) (fun j hj => (HR3.out.lt j hj).1))
             clear hown7 hgrow7)
          | go_in)
          go_roundw
          case rel => exact ⟨pre ++ [s.extract f k], k + 1, k + 1, by go_num, by go_num, by omega, by omega, HP.out, HR7.out, HB7.out⟩
          case measure => simp [intOf]; omega
        · have hq : (((s[k]).toNat : Int) == 36) = false := by
            rw [bt_eq s k hlt]
            simp only [beq_eq_false_iff_ne, ne_eq]
            intro e
            exact hd (UInt8.toNat_inj.1 (by simp; omega))
          have HP := Lib.hid (show PtI s pre f (k + 1) from .inl ⟨by omega, by omega, fun j h1 h2 => by
            by_cases hj : j = k
            · rw [hj]; exact hd
            · exact HN.out j h1 (by omega), HE.out⟩)
          clear hd
          go_wp2_with fail
          go_roundw
          case rel => exact ⟨pre, f, k + 1, rfl, by go_num, by omega, by omega, HP.out, HR2.out, HB2.out⟩
          case measure => simp [intOf]; omega
      · obtain rfl : k = s.size := by omega
        have HP := Lib.hid (show PtI s (pre ++ [s.extract f s.size]) (s.size + 1) (s.size + 1) from .inr ⟨rfl, by rw [HE.out, parts_last s f HN.out]⟩)
        go_wp2_with (first
        | (at_builtin
           refine wp_appS rfl (.tmp 22) (.tmp 27) rfl HR3.out (by simp; omega) HLs.out rfl rfl (by simp; omega) ?_
           intro v' w7 hown7 hgrow7
           have HR7 := Lib.hid hown7
           have HB7 := Lib.hid (HB3.out.grown hgrow7 (by simp; omega) (fun j hj => (HR3.out.lt j hj).1))
           clear hown7 hgrow7)
        | go_in)
        go_roundw
        case rel => exact ⟨pre ++ [s.extract f s.size], s.size + 1, s.size + 1, by go_num, by go_num, by omega, by omega, HP.out, HR7.out, HB7.out⟩
        case measure => simp [intOf] <;> omega
    · subst hk1
      have HE := Lib.hid he
      clear he
      go_wp2_with fail
      go_ret
      exact ⟨_, rfl, by rw [← HE.out]; exact HR2.out, HB2.out⟩
end Go.Proofs.YtciijpahjjoppaaGreat
end
section
namespace Go.Proofs.YtciijpahjjoppaaGreat
open Go.RowKit Go.Maps

theorem allB_take_succ {l : List ByteArray} {f : ByteArray → Bool} {k : Nat} {x : ByteArray} (hx : l[k]? = some x) (h : (l.take k).all f = true) (hf : f x = true) : (l.take (k + 1)).all f = true := by
  rw [List.take_add_one, hx, List.all_append, h]
  simpa using hf
theorem allB_bad {l : List ByteArray} {f : ByteArray → Bool} {k : Nat} {x : ByteArray} (hx : l[k]? = some x) (h : f x = false) : l.all f = false := by
  rw [List.all_eq_false]
  exact ⟨x, List.mem_of_getElem? hx, by simp [h]⟩
set_option maxRecDepth 100000 in
set_option maxHeartbeats 2000000 in
theorem refRoutine_0 (s : ByteArray) (w : World) (hs : s.size ≤ 2000000) : Calls Tryz.prog 66 #[.int .i64 0, .string s] w fun e w' => e = .returned (.bool (okR 0 s)) ∧ Below w.heap.size w w' := by
  have HO := Lib.hid (show okR 0 s = okName 0 s from rfl)
  go_enter Tryz.func66, Tryz.ntmps66
  go_wp2_with fail
  refine (refName_any 0 s _ (by unfold maxLen; omega)).mono ?_
  rintro e w1 ⟨rfl, b1⟩
  have B1 := Lib.hid b1
  clear b1
  generalize hr : okName 0 s = r
  rw [hr] at HO
  go_wp2_with fail
  go_ret
  exact ⟨by rw [HO.out]; rfl, B1.out⟩
set_option maxRecDepth 100000 in
set_option maxHeartbeats 2000000 in
theorem refRoutine_1 (s : ByteArray) (w : World) (hs : s.size ≤ 2000000) : Calls Tryz.prog 66 #[.int .i64 1, .string s] w fun e w' => e = .returned (.bool (okR 1 s)) ∧ Below w.heap.size w w' := by
  have HO := Lib.hid (show okR 1 s = (parts s).all (okName 1) from rfl)
  have hall : ∀ x ∈ parts s, x.size ≤ maxLen := fun x hx => by have := parts_mem s x hx; unfold maxLen; omega
  have hpl := parts_len s
  go_enter Tryz.func66, Tryz.ntmps66
  go_wp2_with fail
  refine (refParts_any s _ hs).mono ?_
  rintro e w1 ⟨v, rfl, ho, b1⟩
  obtain ⟨a, cap, rfl, hS⟩ := ho.strs hall
  generalize hl : parts s = l at *
  have HS := Lib.hid hS
  have B1 := Lib.hid b1
  clear ho b1 hS hl
  go_wp2_with fail
  go_loopw [6] (fun i wr => ∃ k : Nat, k ≤ l.length ∧ i = .int .i64 k ∧ (l.take k).all (okName 1) = true ∧ Below w1.heap.size w1 wr) (fun i _ => l.length - (intOf i).toNat)
  case atStart => exact ⟨0, Nat.zero_le _, rfl, rfl, Below.refl _ _⟩
  case round =>
    obtain ⟨k, hk, rfl, ht, hb⟩ := hrel
    have HT := Lib.hid ht
    have HB := Lib.hid hb
    clear ht hb
    by_cases hlt : k < l.length
    · obtain ⟨b, o, x, rfl, hx, hc⟩ := (HS.out.below HB.out).at hlt
      have HX := Lib.hid hx
      have hxm := hall x (List.mem_of_getElem? hx)
      clear hx
      go_wp2_with fail
      refine (refName_any 1 x _ hxm).mono ?_
      rintro e w3 ⟨rfl, b3⟩
      have HB4 := Lib.hid (HB.out.trans (b3.mono HB.out.size))
      clear b3
      cases hn : okName 1 x with
      | true =>
        have HE := Lib.hid (allB_take_succ HX.out HT.out hn)
        clear hn
        go_wp2_with fail
        go_roundw
        case rel => exact ⟨k + 1, by omega, by go_num, HE.out, HB4.out⟩
        case measure => simp [intOf]; omega
      | false =>
        have HE := Lib.hid (allB_bad HX.out hn)
        clear hn
        go_wp2_with fail
        go_ret
        exact ⟨by rw [HO.out, HE.out]; rfl, B1.out.trans (HB4.out.mono B1.out.size)⟩
    · obtain rfl : k = l.length := by omega
      have HE := Lib.hid (show l.all (okName 1) = true by have := HT.out; rwa [List.take_length] at this)
      go_wp2_with fail
      go_ret
      exact ⟨by rw [HO.out, HE.out]; rfl, B1.out.trans (HB.out.mono B1.out.size)⟩
theorem refRoutine_any (d : Int) (hd : d = 0 ∨ d = 1) (s : ByteArray) (w : World) (hs : s.size ≤ 2000000) : Calls Tryz.prog 66 #[.int .i64 d, .string s] w fun e w' => e = .returned (.bool (okR d s)) ∧ Below w.heap.size w w' := by
  rcases hd with rfl | rfl
  · exact refRoutine_0 s w hs
  · exact refRoutine_1 s w hs
end Go.Proofs.YtciijpahjjoppaaGreat
end
section
namespace Go.Proofs.YtciijpahjjoppaaGreat
open Go.RowKit Go.Deep Go.Maps

def depF (f : List D → Nat) (a : Nat) (x : List D) : Nat := if isUp x then a else max a (f x)
def depL (f : List D → Nat) : List D → Nat
  | [.int _, .int _, .str _, .str _, .row l] => l.foldl (depF f) 0 + 1
  | _ => 1
def dep : Nat → List D → Nat
  | 0 => fun _ => 1
  | m + 1 => depL (dep m)
theorem fold_le {f : List D → Nat} {B : Nat} (hf : ∀ x, f x ≤ B) : ∀ (l : List (List D)) (a : Nat), a ≤ B → l.foldl (depF f) a ≤ B
  | [], _, h => h
  | y :: r, a, h => fold_le hf r _ (by
    unfold depF
    split
    · exact h
    · exact Nat.max_le.2 ⟨h, hf y⟩)
theorem dep_le (m : Nat) : ∀ x, dep m x ≤ m + 1 := by
  induction m with
  | zero => intro x; simp [dep]
  | succ m ih =>
    intro x
    show depL (dep m) x ≤ m + 1 + 1
    unfold depL
    split
    · exact Nat.succ_le_succ (fold_le ih _ 0 (Nat.zero_le _))
    · omega
theorem foldl_take_succ {l : List (List D)} {k : Nat} {x : List D} (hx : l[k]? = some x) (f : Nat → List D → Nat) (a : Nat) : (l.take (k + 1)).foldl f a = f ((l.take k).foldl f a) x := by
  rw [List.take_add_one, hx, List.foldl_append]
  rfl
set_option maxRecDepth 100000 in
set_option maxHeartbeats 2000000 in
theorem deep_step (w0 : World) (m : Nat) (hm : m < 1000) (op n : Int) (nm fd : ByteArray) (la : Option Addr) (l : List (List D)) (lc : Nat) (hA : At w0 (.slice la l.length lc) (.row l)) (hs : ∀ x ∈ l, ShE x)
    (hf : ∀ x ∈ l, ∀ vs, AllAt w0 vs x → ∀ W, Below w0.heap.size w0 W → Calls Tryz.prog 27 #[.agg ⟨vs⟩, .int .i64 (m : Nat)] W fun e W' => e = .returned (.int .i64 (dep m x : Nat)) ∧ Below W.heap.size W W') (w : World) (hW : Below w0.heap.size w0 w) :
    Calls Tryz.prog 27 #[.agg #[.int .i64 op, .int .i64 n, .string nm, .string fd, .slice la l.length lc], .int .i64 ((m + 1 : Nat) : Int)] w fun e w' => e = .returned (.int .i64 ((l.foldl (depF (dep m)) 0 + 1 : Nat) : Int)) ∧ Below w.heap.size w w' := by
  have HA := Lib.hid hA
  have HS := Lib.hid hs
  have HF := Lib.hid hf
  have HW := Lib.hid hW
  have hle := hA.len_le
  have hm1 : decide ((0 : Int) < ((m + 1 : Nat) : Int)) = true := by simp
  have hbnd : ∀ k, (l.take k).foldl (depF (dep m)) 0 ≤ m + 1 := fun k => fold_le (dep_le m) _ 0 (Nat.zero_le _)
  have HBN := Lib.hid hbnd
  have KB := Lib.hid (heap_new w (.cells #[.int .i64 op, .int .i64 n, .string nm, .string fd, .slice la l.length lc] 24))
  have R0 := Lib.hid ((Below.refl w.heap.size w).alloc (Nat.le_refl _) (.cells #[.int .i64 op, .int .i64 n, .string nm, .string fd, .slice la l.length lc] 24))
  clear hA hs hf hW hbnd
  generalize hmm : ((m + 1 : Nat) : Int) = mm at *
  go_enter Tryz.func27, Tryz.ntmps27
  go_wp2_with fail
  go_loopw [5, 6] (fun dv iv wr => ∃ k : Nat, k ≤ l.length ∧ iv = .int .i64 k ∧ dv = .int .i64 (((l.take k).foldl (depF (dep m)) 0 : Nat) : Int) ∧ Hid (wr.heap[w.heap.size]? = some (.cells #[.int .i64 op, .int .i64 n, .string nm, .string fd, .slice la l.length lc] 24)) ∧ Below w.heap.size w wr) (fun _ i _ => l.length - (intOf i).toNat)
  case atStart => exact ⟨0, Nat.zero_le _, rfl, rfl, KB, R0.out⟩
  case round =>
    obtain ⟨k, hk, rfl, rfl, KK, hb⟩ := hrel
    have HB := Lib.hid hb
    have cc := box_cells KK.out
    clear hb
    by_cases hlt : k < l.length
    · obtain ⟨b, o, vs, ds, rfl, hbl, hx, hv, hc⟩ := HA.out.elem hlt
      have hfn := HF.out ds (List.mem_of_getElem? hx) vs hv
      obtain ⟨op2, n2, nm2, fd2, kl, kla, klc, hds, hvs, _⟩ := hv.openE (HS.out _ (List.mem_of_getElem? hx))
      subst hvs
      have hdl : ds.length = 5 := by rw [hds]; rfl
      rw [hdl] at hc
      have B0 := HW.out.trans (HB.out.mono HW.out.size)
      have c0 := (B0.cell (p := ⟨b, o + k * 5, none⟩) hbl).trans (hc 0 _ rfl)
      have c1 := (B0.cell (p := ⟨b, o + k * 5 + 1, none⟩) hbl).trans (hc 1 _ rfl)
      have c2 := (B0.cell (p := ⟨b, o + k * 5 + 2, none⟩) hbl).trans (hc 2 _ rfl)
      have c3 := (B0.cell (p := ⟨b, o + k * 5 + 3, none⟩) hbl).trans (hc 3 _ rfl)
      have c4 := (B0.cell (p := ⟨b, o + k * 5 + 4, none⟩) hbl).trans (hc 4 _ rfl)
      have hbw : b < wr.heap.size := Nat.lt_of_lt_of_le hbl B0.size
      have FN := Lib.hid (hfn _ B0)
      have HT := Lib.hid (foldl_take_succ hx (depF (dep m)) 0)
      have HU := Lib.hid (show isUp ds = (op2 == 25) by rw [hds]; rfl)
      have hb1 := HBN.out k
      have hdl2 := dep_le m ds
      clear hx hds hdl hc B0 hv hfn
      generalize (l.take k).foldl (depF (dep m)) 0 = A at *
      cases hu : op2 == 25 with
      | true =>
        have hne : (op2 != 25) = false := by rw [bne, hu]; rfl
        have HE := Lib.hid (show (l.take (k + 1)).foldl (depF (dep m)) 0 = A by rw [HT.out]; unfold depF; rw [HU.out, hu]; rfl)
        go_wp2_with fail
        go_roundw
        case rel => exact ⟨k + 1, by omega, by go_num, by rw [HE.out], KK, HB.out⟩
        case measure => simp [intOf]; omega
      | false =>
        have hne : (op2 != 25) = true := by rw [bne, hu]; rfl
        have HE := Lib.hid (show (l.take (k + 1)).foldl (depF (dep m)) 0 = max A (dep m ds) by rw [HT.out]; unfold depF; rw [HU.out, hu]; rfl)
        have hsub : mm - 1 = (m : Nat) := by omega
        go_wp2_with fail
        refine FN.out.mono ?_
        rintro e w3 ⟨rfl, b3⟩
        have HB3 := Lib.hid (HB.out.trans (b3.mono HB.out.size))
        have K3 := Lib.hid ((b3.block _ (heap_lt KK.out)).trans KK.out)
        clear b3 c0 c1 c2 c3 c4 cc
        generalize dep m ds = B at *
        go_wp2_with fail
        go_roundw
        case rel => exact ⟨k + 1, by omega, by go_num, by rw [HE.out]; simp [Int.max_def, Nat.max_def]; split <;> omega, K3, HB3.out⟩
        case measure => simp [intOf]; omega
    · obtain rfl : k = l.length := by omega
      have hT : (l.take l.length).foldl (depF (dep m)) 0 = l.foldl (depF (dep m)) 0 := by rw [List.take_length]
      have hb1 := HBN.out l.length
      have HT := Lib.hid hT
      clear hT
      generalize (l.take l.length).foldl (depF (dep m)) 0 = A at *
      go_wp2_with fail
      go_ret
      exact ⟨by rw [← HT.out]; rfl, HB.out⟩
end Go.Proofs.YtciijpahjjoppaaGreat
end
section
namespace Go.Proofs.YtciijpahjjoppaaGreat
open Go.RowKit Go.Deep Go.Maps

set_option maxRecDepth 100000 in
set_option maxHeartbeats 2000000 in
theorem deep_0 (op n : Int) (nm fd : ByteArray) (la : Option Addr) (len lc : Nat) (hl : len ≤ 9223372036854775807) (w : World) :
    Calls Tryz.prog 27 #[.agg #[.int .i64 op, .int .i64 n, .string nm, .string fd, .slice la len lc], .int .i64 0] w fun e w' => e = .returned (.int .i64 1) ∧ Below w.heap.size w w' := by
  have KB := Lib.hid (heap_new w (.cells #[.int .i64 op, .int .i64 n, .string nm, .string fd, .slice la len lc] 24))
  have R0 := Lib.hid ((Below.refl w.heap.size w).alloc (Nat.le_refl _) (.cells #[.int .i64 op, .int .i64 n, .string nm, .string fd, .slice la len lc] 24))
  go_enter Tryz.func27, Tryz.ntmps27
  go_wp2_with fail
  go_loopw [5, 6] (fun dv iv wr => iv = .int .i64 0 ∧ dv = .int .i64 0 ∧ wr = w.alloc (.cells #[.int .i64 op, .int .i64 n, .string nm, .string fd, .slice la len lc] 24)) (fun _ _ _ => 0)
  case atStart => exact ⟨rfl, rfl, rfl⟩
  case round =>
    obtain ⟨rfl, rfl, rfl⟩ := hrel
    by_cases hlt : 0 < len
    · have hd : decide ((0 : Int) < (len : Int)) = true := by simp; omega
      go_wp2_with fail
      go_ret
      exact ⟨rfl, R0.out⟩
    · obtain rfl : len = 0 := by omega
      go_wp2_with fail
      go_ret
      exact ⟨rfl, R0.out⟩
theorem deep_any (w0 : World) : ∀ (m : Nat), m < 1000 → ∀ (x : List D) (vs : List Value), ShE x → AllAt w0 vs x → ∀ W, Below w0.heap.size w0 W → Calls Tryz.prog 27 #[.agg ⟨vs⟩, .int .i64 (m : Nat)] W fun e W' => e = .returned (.int .i64 (dep m x : Nat)) ∧ Below W.heap.size W W'
  | 0, _, x, vs, hx, hv, W, _ => by
    obtain ⟨op, n, nm, fd, kl, kla, klc, rfl, rfl, _, _, _, _, akl, _⟩ := hv.openE hx
    exact deep_0 op n nm fd kla kl.length klc akl.len_le W
  | m + 1, hm, x, vs, hx, hv, W, hW => by
    obtain ⟨op, n, nm, fd, kl, kla, klc, rfl, rfl, _, _, _, _, akl, skl⟩ := hv.openE hx
    exact deep_step w0 m (by omega) op n nm fd kla kl klc akl skl (fun y hy us hu U hU => deep_any w0 m (by omega) y us (skl y hy) hu U hU) W hW
end Go.Proofs.YtciijpahjjoppaaGreat
end
section
namespace Go.Proofs.YtciijpahjjoppaaGreat
open Go.RowKit Go.Deep Go.Maps

theorem fold_le' {f : List D → Nat} {B : Nat} : ∀ (l : List (List D)) (a : Nat), a ≤ B → (∀ x ∈ l, isUp x = false → f x ≤ B) → l.foldl (depF f) a ≤ B
  | [], _, h, _ => h
  | y :: r, a, h, hf => fold_le' r _ (by
    unfold depF
    split
    · exact h
    · next hu => exact Nat.max_le.2 ⟨h, hf y (by simp) (by simpa using hu)⟩) (fun x hx => hf x (by simp [hx]))
theorem okAll_mem {l : List (List D)} {f : List D → Bool} (h : okAll l f = true) : ∀ x ∈ l, f x = true := by
  unfold okAll at h
  rw [Bool.and_eq_true] at h
  exact List.all_eq_true.1 h.2
theorem upD_isUp {d : Int} {x : List D} (h : upD d x = true) : isUp x = true := by
  unfold upD at h
  split at h
  · unfold upE at h
    simp only [Bool.and_eq_true] at h
    unfold isUp
    exact h.1
  · cases h
theorem okE_deep (d : Int) : ∀ (k m : Nat) (x : List D), okE d k x = true → dep m x ≤ k
  | 0, _, _, h => by simp [okE] at h
  | k + 1, 0, _, _ => by simp [dep]
  | k + 1, m + 1, x, h => by
    show depL (dep m) x ≤ k + 1
    unfold depL
    split
    · next op n nm fd l =>
      refine Nat.succ_le_succ (fold_le' l 0 (Nat.zero_le _) fun y hy hu => ?_)
      have ho : okE d k y = true := by
        unfold okE at h
        split at h
        · unfold callE at h
          simp only [Bool.and_eq_true] at h
          have h1 := okAll_mem h.2.2.2.2.1
          have h2 := okAll_mem h.2.2.2.2.2
          rw [← List.take_append_drop (firstU d l) l] at hy
          rcases List.mem_append.1 hy with hy | hy
          · exact h1 y hy
          · rw [upD_isUp (h2 y hy)] at hu; cases hu
        · unfold formE at h
          simp only [Bool.and_eq_true] at h
          exact okAll_mem h.2.2.2.2.2.2 y hy
      exact okE_deep d k m y ho
    · omega
end Go.Proofs.YtciijpahjjoppaaGreat
end
section
namespace Go.Proofs.YtciijpahjjoppaaGreat
open Go.RowKit Go.Deep Go.Maps

/-- The operands as the reference goes through them; up: one that is an ExUp has been. -/
def opsOK (d op : Int) (f : List D → Bool) : Bool → List (List D) → Bool
  | _, [] => true
  | up, x :: r => if isUp x then ((d == 1) && ((op == 7) && upD 1 x)) && opsOK d op f true r else (!up && f x) && opsOK d op f up r
theorem upD_not {d : Int} {x : List D} (h : isUp x = false) : upD d x = false := by
  cases hu : upD d x with
  | false => rfl
  | true => rw [upD_isUp hu] at h; cases h
theorem opsOK_true (f : List D → Bool) : ∀ l, opsOK 1 7 f true l = l.all (upD 1)
  | [] => rfl
  | x :: r => by
    unfold opsOK
    rw [opsOK_true f r, List.all_cons]
    cases hu : isUp x with
    | true => simp
    | false => simp [upD_not hu]
theorem opsOK_call (f : List D → Bool) : ∀ l, opsOK 1 7 f false l = ((l.take (l.findIdx isUp)).all f && (l.drop (l.findIdx isUp)).all (upD 1))
  | [] => rfl
  | x :: r => by
    unfold opsOK
    rw [List.findIdx_cons]
    cases hu : isUp x with
    | true => simp [opsOK_true]
    | false => simp [opsOK_call f r, Bool.and_assoc]
theorem opsOK_else (d op : Int) (f : List D → Bool) (hf : ∀ x, isUp x = true → f x = false) (h : (d == 1) = false ∨ (op == 7) = false) : ∀ l, opsOK d op f false l = l.all f
  | [] => rfl
  | x :: r => by
    unfold opsOK
    rw [List.all_cons]
    cases hu : isUp x with
    | true =>
      rw [hf x hu]
      rcases h with h | h <;> simp [h]
    | false => simp [opsOK_else d op f hf h r]
theorem okE_up (d : Int) (k : Nat) (x : List D) (h : isUp x = true) : okE d k x = false := by
  cases k with
  | zero => rfl
  | succ k =>
    unfold okE
    split
    · next heq => cases heq
    · next op n nm fd l heq =>
      have ho : op = 25 := by simpa [isUp] using h
      subst ho
      rfl
    · rfl
end Go.Proofs.YtciijpahjjoppaaGreat
end
section
namespace Go.Proofs.YtciijpahjjoppaaGreat
open Go.RowKit Go.Deep Go.Maps

def fok7 (op : Int) : Bool := fok op || (op == 7)
def nB (op n : Int) : Bool := decide (0 ≤ n) && decide (n ≤ fmost op)
def naB (d op : Int) (nm : ByteArray) : Bool := if op == 7 then okR d nm else nameW d (fname op) nm
def fiB (d op : Int) (fd : ByteArray) : Bool := nameW d (ffield op) fd
def wantE (op : Int) (len : Nat) : Int := if op == 7 then (len : Int) else fops op
/-- What form answers of an expression whose parts are these. -/
def refE (d op n : Int) (nm fd : ByteArray) (l : List (List D)) (f : List D → Bool) : Bool :=
  decide (l.length ≤ 512) && (fok7 op && (nB op n && (naB d op nm && (fiB d op fd && ((((l.length : Nat) : Int) == wantE op l.length) && opsOK d op f false l)))))
theorem zero_of (n : Int) : (decide (0 ≤ n) && decide (n ≤ 0)) = (n == 0) := by
  rw [Bool.eq_iff_iff]; simp; omega
theorem refE_eq (d op n : Int) (hd : d = 0 ∨ d = 1) (nm fd : ByteArray) (l : List (List D)) (f : List D → Bool) (hf : ∀ x, isUp x = true → f x = false) :
    refE d op n nm fd l f = if op == 7 then callE d n nm fd l f else formE d op n nm fd l f := by
  cases ho : op == 7 with
  | true =>
    have h7 : op = 7 := by simpa using ho
    subst h7
    have e1 : fok7 7 = true := rfl
    have e2 : nB 7 n = (n == 0) := zero_of n
    have e3 : naB d 7 nm = okR d nm := rfl
    have e4 : fiB d 7 fd = fd.toList.isEmpty := rfl
    have e5 : wantE 7 l.length = (l.length : Int) := rfl
    unfold refE callE
    rw [e1, e2, e3, e4, e5, if_pos rfl]
    have hops : (decide (l.length ≤ 512) && opsOK d 7 f false l) = (decide (l.length ≤ 512) && (okAll (l.take (firstU d l)) f && okAll (l.drop (firstU d l)) (upD d))) := by
      rcases hd with rfl | rfl
      · rw [opsOK_else 0 7 f hf (Or.inl rfl)]
        have e : firstU 0 l = l.length := rfl
        rw [e, List.take_length, List.drop_length]
        cases hl : decide (l.length ≤ 512) with
        | false => rfl
        | true =>
          have h1 : okAll l f = l.all f := by unfold okAll; rw [hl]; rfl
          rw [h1]
          simp [okAll]
      · rw [opsOK_call]
        have e : firstU 1 l = l.findIdx isUp := rfl
        rw [e]
        cases hl : decide (l.length ≤ 512) with
        | false => rfl
        | true =>
          have hl' : l.length ≤ 512 := of_decide_eq_true hl
          have h1 : okAll (l.take (l.findIdx isUp)) f = (l.take (l.findIdx isUp)).all f := by
            unfold okAll
            rw [decide_eq_true (by rw [List.length_take]; omega)]; rfl
          have h2 : okAll (l.drop (l.findIdx isUp)) (upD 1) = (l.drop (l.findIdx isUp)).all (upD 1) := by
            unfold okAll
            rw [decide_eq_true (by rw [List.length_drop]; omega)]; rfl
          rw [h1, h2]
    have hb : (((l.length : Nat) : Int) == ((l.length : Nat) : Int)) = true := by simp
    rw [hb]
    generalize (n == 0) = b1
    generalize okR d nm = b2
    generalize fd.toList.isEmpty = b3
    generalize opsOK d 7 f false l = b4 at *
    generalize (okAll (l.take (firstU d l)) f && okAll (l.drop (firstU d l)) (upD d)) = b5 at *
    generalize decide (l.length ≤ 512) = b6 at *
    revert hops
    cases b1 <;> cases b2 <;> cases b3 <;> cases b4 <;> cases b5 <;> cases b6 <;> simp
  | false =>
    have e1 : fok7 op = fok op := by unfold fok7; rw [ho]; simp
    have e3 : naB d op nm = nameW d (fname op) nm := by unfold naB; rw [ho]; rfl
    have e5 : wantE op l.length = fops op := by unfold wantE; rw [ho]; rfl
    unfold refE formE
    rw [e1, e3, e5, opsOK_else d op f hf (Or.inr ho)]
    unfold nB fiB okAll
    simp only [Bool.false_eq_true, if_false]
    generalize fok op = b1
    generalize decide (0 ≤ n) = b2
    generalize decide (n ≤ fmost op) = b3
    generalize nameW d (fname op) nm = b4
    generalize nameW d (ffield op) fd = b5
    generalize (((l.length : Nat) : Int) == fops op) = b6
    generalize l.all f = b7
    generalize decide (l.length ≤ 512) = b8
    cases b1 <;> cases b2 <;> cases b3 <;> cases b4 <;> cases b5 <;> cases b6 <;> cases b7 <;> cases b8 <;> rfl
theorem okE_ref (d : Int) (hd : d = 0 ∨ d = 1) (k : Nat) (op n : Int) (nm fd : ByteArray) (l : List (List D)) :
    okE d (k + 1) [.int op, .int n, .str nm, .str fd, .row l] = refE d op n nm fd l (okE d k) := by
  rw [refE_eq d op n hd nm fd l (okE d k) (okE_up d k)]
  rfl
end Go.Proofs.YtciijpahjjoppaaGreat
end
section
namespace Go.Proofs.YtciijpahjjoppaaGreat
open Go.RowKit Go.Deep Go.Maps

theorem opsOK_cons (d op : Int) (f : List D → Bool) (up : Bool) (x : List D) (r : List (List D)) : opsOK d op f up (x :: r) = if isUp x then ((d == 1) && ((op == 7) && upD 1 x)) && opsOK d op f true r else (!up && f x) && opsOK d op f up r := rfl
/-- Operands up to the k-th are right; up tells whether an ExUp was among them. -/
def OpsTo (d op : Int) (f : List D → Bool) (l : List (List D)) (k : Nat) (up : Bool) : Prop := opsOK d op f false l = opsOK d op f up (l.drop k)
theorem OpsTo.start (d op : Int) (f : List D → Bool) (l : List (List D)) : OpsTo d op f l 0 false := by unfold OpsTo; rw [List.drop_zero]
theorem drop_at {l : List (List D)} {k : Nat} {x : List D} (hx : l[k]? = some x) : l.drop k = x :: l.drop (k + 1) := by
  obtain ⟨h, e⟩ := List.getElem?_eq_some_iff.1 hx
  rw [List.drop_eq_getElem_cons h, e]
theorem OpsTo.up {d op : Int} {f : List D → Bool} {l : List (List D)} {k : Nat} {up : Bool} {x : List D} (h : OpsTo d op f l k up) (hx : l[k]? = some x) (hu : isUp x = true) (hb : ((d == 1) && ((op == 7) && upD 1 x)) = true) : OpsTo d op f l (k + 1) true := by
  unfold OpsTo at *
  rw [h, drop_at hx, opsOK_cons]
  rw [hu, hb]
  simp
theorem OpsTo.upBad {d op : Int} {f : List D → Bool} {l : List (List D)} {k : Nat} {up : Bool} {x : List D} (h : OpsTo d op f l k up) (hx : l[k]? = some x) (hu : isUp x = true) (hb : ((d == 1) && ((op == 7) && upD 1 x)) = false) : opsOK d op f false l = false := by
  unfold OpsTo at h
  rw [h, drop_at hx, opsOK_cons]
  rw [hu, hb]
  simp
theorem OpsTo.next {d op : Int} {f : List D → Bool} {l : List (List D)} {k : Nat} {x : List D} (h : OpsTo d op f l k false) (hx : l[k]? = some x) (hu : isUp x = false) (hb : f x = true) : OpsTo d op f l (k + 1) false := by
  unfold OpsTo at *
  rw [h, drop_at hx, opsOK_cons]
  rw [hu, hb]
  simp
theorem OpsTo.nextBad {d op : Int} {f : List D → Bool} {l : List (List D)} {k : Nat} {x : List D} (h : OpsTo d op f l k false) (hx : l[k]? = some x) (hu : isUp x = false) (hb : f x = false) : opsOK d op f false l = false := by
  unfold OpsTo at h
  rw [h, drop_at hx, opsOK_cons]
  rw [hu, hb]
  simp
theorem OpsTo.behind {d op : Int} {f : List D → Bool} {l : List (List D)} {k : Nat} {x : List D} (h : OpsTo d op f l k true) (hx : l[k]? = some x) (hu : isUp x = false) : opsOK d op f false l = false := by
  unfold OpsTo at h
  rw [h, drop_at hx, opsOK_cons]
  rw [hu]
  simp
theorem OpsTo.done {d op : Int} {f : List D → Bool} {l : List (List D)} {up : Bool} (h : OpsTo d op f l l.length up) : opsOK d op f false l = true := by
  unfold OpsTo at h
  rw [h, List.drop_length]
  unfold opsOK
  rfl
theorem below_drewN {B : Nat} {a w : World} (h : Below B a w) (n : Nat) : Below B a (w.drewN n) := ⟨h.os, h.tape, h.output, h.size, h.block⟩
theorem nB_1 (n : Int) (h : n ≤ 9223372036854775807) : nB 1 n = decide (0 ≤ n) := by
  unfold nB; rw [show fmost 1 = 9223372036854775807 from rfl, decide_eq_true h, Bool.and_true]
theorem nB_2 (n : Int) : nB 2 n = ((n == 0) || (n == 1)) := by
  unfold nB; rw [show fmost 2 = 1 from rfl, Bool.eq_iff_iff]; simp; omega
theorem nB_3 (n : Int) : nB 3 n = (decide (0 ≤ n) && decide (n ≤ 255)) := rfl
theorem nB_else (op n : Int) (h1 : op ≠ 1) (h2 : op ≠ 2) (h3 : op ≠ 3) : nB op n = (n == 0) := by
  unfold nB fmost; rw [if_neg h1, if_neg h2, if_neg h3]; exact zero_of n
set_option maxRecDepth 100000 in
set_option maxHeartbeats 4000000 in
theorem form_step (w0 : World) (d : Int) (hd : d = 0 ∨ d = 1) (m : Nat) (hm : m < 1000) (op n : Int) (nm fd : ByteArray) (la : Option Addr) (l : List (List D)) (lc : Nat) (hn2 : n ≤ 9223372036854775807) (hnm : nm.size ≤ 2000000) (hfd : fd.size ≤ 2000000) (hA : At w0 (.slice la l.length lc) (.row l)) (hs : ∀ x ∈ l, ShE x) (hsm : ∀ x ∈ l, mRow x ≤ 2000000)
    (hf : ∀ x ∈ l, ∀ vs, AllAt w0 vs x → ∀ W, Below w0.heap.size w0 W → Calls Tryz.prog 26 #[.int .i64 d, .agg ⟨vs⟩, .int .i64 (m : Nat)] W fun e W' => e = .returned (.bool (okE d m x)) ∧ Below W.heap.size W W') (w : World) (hW : Below w0.heap.size w0 w) :
    Calls Tryz.prog 26 #[.int .i64 d, .agg #[.int .i64 op, .int .i64 n, .string nm, .string fd, .slice la l.length lc], .int .i64 ((m + 1 : Nat) : Int)] w fun e w' => e = .returned (.bool (refE d op n nm fd l (okE d m))) ∧ Below w.heap.size w w' := by
  have HA := Lib.hid hA
  have HS := Lib.hid hs
  have HSM := Lib.hid hsm
  have HF := Lib.hid hf
  have HW := Lib.hid hW
  have HD := Lib.hid hd
  have hle := hA.len_le
  have hm0 : (((m + 1 : Nat) : Int) == 0) = false := by simp; omega
  have KB := Lib.hid (heap_new w (.cells #[.int .i64 op, .int .i64 n, .string nm, .string fd, .slice la l.length lc] 24))
  have R0 := Lib.hid ((Below.refl w.heap.size w).alloc (Nat.le_refl _) (.cells #[.int .i64 op, .int .i64 n, .string nm, .string fd, .slice la l.length lc] 24))
  clear hA hs hsm hf hW hd
  have HO := Lib.hid (show refE d op n nm fd l (okE d m) = (decide (l.length ≤ 512) && (fok7 op && (nB op n && (naB d op nm && (fiB d op fd && ((((l.length : Nat) : Int) == wantE op l.length) && opsOK d op (okE d m) false l)))))) from rfl)
  generalize hmm : ((m + 1 : Nat) : Int) = mm at *
  have HM := Lib.hid hmm
  clear hmm
  by_cases hlen : ¬ l.length ≤ 512
  · have hg : decide (512 < l.length) = true := by simp; omega
    have HO2 := Lib.hid (show refE d op n nm fd l (okE d m) = false by rw [HO.out, decide_eq_false hlen]; rfl)
    go_enter Tryz.func26, Tryz.ntmps26
    go_wp2_with fail
    go_ret
    exact ⟨by rw [HO2.out]; rfl, R0.out⟩
  replace hlen : l.length ≤ 512 := Classical.not_not.1 hlen
  have hg : decide (512 < l.length) = false := by simp; omega
  rw [decide_eq_true hlen, Bool.true_and] at HO
  go_enter Tryz.func26, Tryz.ntmps26
  go_wp2_with fail
  go_quiet (fail)
  go_upto_block 0 with fail
  go_cut [7, 8, 9, 10] (fun a b c e wc => a = .int .i64 (wantE op l.length) ∧ b = .bool (nB op n) ∧ c = .bool (naB d op nm) ∧ e = .bool (fiB d op fd) ∧ fok7 op = true ∧ Hid (wc.heap[w.heap.size]? = some (.cells #[.int .i64 op, .int .i64 n, .string nm, .string fd, .slice la l.length lc] 24)) ∧ Below w.heap.size w wc)
  case first =>
    by_cases h1 : op = 1
    · subst h1
      have E := Lib.hid (nB_1 n hn2)
      go_wp2_with fail
      go_meet
      exact ⟨rfl, by rw [E.out], rfl, rfl, rfl, KB, below_drewN R0.out _⟩
    by_cases h2 : op = 2
    · subst h2
      have E := Lib.hid (nB_2 n)
      cases hz : n == 0 with
      | true =>
        rw [hz] at E
        go_wp2_with fail
        go_meet
        exact ⟨rfl, by rw [E.out]; rfl, rfl, rfl, rfl, KB, below_drewN R0.out _⟩
      | false =>
        rw [hz] at E
        go_wp2_with fail
        go_meet
        exact ⟨rfl, by rw [E.out]; rfl, rfl, rfl, rfl, KB, below_drewN R0.out _⟩
    by_cases h3 : op = 3
    · subst h3
      have E := Lib.hid (nB_3 n)
      cases hz : decide (0 ≤ n) with
      | true =>
        rw [hz] at E
        go_wp2_with fail
        go_meet
        exact ⟨rfl, by rw [E.out]; rfl, rfl, rfl, rfl, KB, below_drewN R0.out _⟩
      | false =>
        rw [hz] at E
        go_wp2_with fail
        go_meet
        exact ⟨rfl, by rw [E.out]; rfl, rfl, rfl, rfl, KB, below_drewN R0.out _⟩
    have E := Lib.hid (nB_else op n h1 h2 h3)
    by_cases h4 : op = 4
    · subst h4
      have EN := Lib.hid (show naB d 4 nm = okName d nm from rfl)
      go_wp2_with fail
      refine (refName_any d nm _ (by unfold maxLen; omega)).mono ?_
      rintro e w1 ⟨rfl, b1⟩
      have B1 := Lib.hid ((below_drewN R0.out _).trans (b1.mono (below_drewN R0.out _).size))
      have K1 := Lib.hid ((b1.block _ (heap_lt KB.out)).trans KB.out)
      clear b1
      generalize okName d nm = r at *
      go_wp2_with fail
      go_meet
      exact ⟨rfl, by rw [E.out], by rw [EN.out], rfl, rfl, K1, B1.out⟩
    by_cases h5 : op = 5
    · subst h5
      have EN := Lib.hid (show naB d 5 nm = okName d nm from rfl)
      go_wp2_with fail
      refine (refName_any d nm _ (by unfold maxLen; omega)).mono ?_
      rintro e w1 ⟨rfl, b1⟩
      have B1 := Lib.hid ((below_drewN R0.out _).trans (b1.mono (below_drewN R0.out _).size))
      have K1 := Lib.hid ((b1.block _ (heap_lt KB.out)).trans KB.out)
      clear b1
      generalize okName d nm = r at *
      go_wp2_with fail
      go_meet
      exact ⟨rfl, by rw [E.out], by rw [EN.out], rfl, rfl, K1, B1.out⟩
    by_cases h6 : op = 6
    · subst h6
      have EN := Lib.hid (show naB d 6 nm = okName d nm from rfl)
      have EF := Lib.hid (show fiB d 6 fd = okName d fd from rfl)
      go_wp2_with fail
      refine (refName_any d nm _ (by unfold maxLen; omega)).mono ?_
      rintro e w1 ⟨rfl, b1⟩
      have B1 := Lib.hid ((below_drewN R0.out _).trans (b1.mono (below_drewN R0.out _).size))
      have K1 := Lib.hid ((b1.block _ (heap_lt KB.out)).trans KB.out)
      have cc := box_cells K1.out
      clear b1
      generalize okName d nm = r at *
      go_wp2_with fail
      refine (refName_any d fd _ (by unfold maxLen; omega)).mono ?_
      rintro e w2 ⟨rfl, b2⟩
      have B2 := Lib.hid (B1.out.trans (b2.mono B1.out.size))
      have K2 := Lib.hid ((b2.block _ (heap_lt K1.out)).trans K1.out)
      clear b2 cc
      generalize okName d fd = r2 at *
      go_wp2_with fail
      go_meet
      exact ⟨rfl, by rw [E.out], by rw [EN.out], by rw [EF.out], rfl, K2, B2.out⟩
    by_cases h7 : op = 7
    · subst h7
      have EN := Lib.hid (show naB d 7 nm = okR d nm from rfl)
      go_wp2_with fail
      refine (refRoutine_any d HD.out nm _ hnm).mono ?_
      rintro e w1 ⟨rfl, b1⟩
      have B1 := Lib.hid ((below_drewN R0.out _).trans (b1.mono (below_drewN R0.out _).size))
      have K1 := Lib.hid ((b1.block _ (heap_lt KB.out)).trans KB.out)
      have cc := box_cells K1.out
      clear b1
      generalize okR d nm = r at *
      go_wp2_with fail
      go_meet
      exact ⟨rfl, by rw [E.out], by rw [EN.out], rfl, rfl, K1, B1.out⟩
    by_cases h8 : op = 8 ∨ op = 9
    · rcases h8 with rfl | rfl
      all_goals
        go_wp2_with fail
        go_meet
        exact ⟨rfl, by rw [E.out], rfl, rfl, rfl, KB, below_drewN R0.out _⟩
    by_cases h10 : 10 ≤ op ∧ op ≤ 24
    · have : op = 10 ∨ op = 11 ∨ op = 12 ∨ op = 13 ∨ op = 14 ∨ op = 15 ∨ op = 16 ∨ op = 17 ∨ op = 18 ∨ op = 19 ∨ op = 20 ∨ op = 21 ∨ op = 22 ∨ op = 23 ∨ op = 24 := by omega
      clear h1 h2 h3 h4 h5 h6 h7 h8 h10
      rcases this with rfl | rfl | rfl | rfl | rfl | rfl | rfl | rfl | rfl | rfl | rfl | rfl | rfl | rfl | rfl
      all_goals
        go_wp2_with fail
        go_meet
        exact ⟨rfl, by rw [E.out], rfl, rfl, rfl, KB, below_drewN R0.out _⟩
    have HN := Lib.hid (show fok7 op = false by unfold fok7 fok wthn; simp; omega)
    have HO2 := Lib.hid (show refE d op n nm fd l (okE d m) = false by rw [HO.out, HN.out]; rfl)
    have g1 : (op == 1) = false := by simp; omega
    have g2 : (op == 2) = false := by simp; omega
    have g3 : (op == 3) = false := by simp; omega
    have g4 : (op == 4) = false := by simp; omega
    have g5 : (op == 5) = false := by simp; omega
    have g6 : (op == 6) = false := by simp; omega
    have g7 : (op == 7) = false := by simp; omega
    have g8 : (op == 8) = false := by simp; omega
    have g9 : (op == 9) = false := by simp; omega
    have g10 : (op == 10) = false := by simp; omega
    have g11 : (op == 11) = false := by simp; omega
    have g12 : (op == 12) = false := by simp; omega
    have g13 : (op == 13) = false := by simp; omega
    have g14 : (op == 14) = false := by simp; omega
    have g15 : (op == 15) = false := by simp; omega
    have g16 : (op == 16) = false := by simp; omega
    have g17 : (op == 17) = false := by simp; omega
    have g18 : (op == 18) = false := by simp; omega
    have g19 : (op == 19) = false := by simp; omega
    have g20 : (op == 20) = false := by simp; omega
    have g21 : (op == 21) = false := by simp; omega
    have g22 : (op == 22) = false := by simp; omega
    have g23 : (op == 23) = false := by simp; omega
    have g24 : (op == 24) = false := by simp; omega
    clear h1 h2 h3 h4 h5 h6 h7 h8 h10
    go_wp2_with fail
    go_ret
    exact ⟨by rw [HO2.out]; rfl, below_drewN R0.out _⟩
  case rest =>
    obtain ⟨rfl, rfl, rfl, rfl, hok, KK, hb⟩ := hcut
    have HB := Lib.hid hb
    have cc := box_cells KK.out
    rw [hok, Bool.true_and] at HO
    clear hb hok KB R0
    have HFP := Lib.hid (show ∀ b : Bool, refE d op n nm fd l (okE d m) = b → (Ending.returned (.bool b) = Ending.returned (.bool (refE d op n nm fd l (okE d m)))) from fun b h => by rw [h])
    generalize nB op n = b1 at *
    generalize naB d op nm = b2 at *
    generalize fiB d op fd = b3 at *
    generalize wantE op l.length = wt at *
    cases b1 with
    | false =>
      have HO2 := Lib.hid (HO.out.trans rfl)
      go_wp2_with fail
      go_ret
      exact ⟨by rw [HO2.out]; rfl, HB.out⟩
    | true =>
    cases b2 with
    | false =>
      have HO2 := Lib.hid (HO.out.trans rfl)
      go_wp2_with fail
      go_ret
      exact ⟨by rw [HO2.out]; rfl, HB.out⟩
    | true =>
    cases b3 with
    | false =>
      have HO2 := Lib.hid (HO.out.trans rfl)
      go_wp2_with fail
      go_ret
      exact ⟨by rw [HO2.out]; rfl, HB.out⟩
    | true =>
    cases hq : ((l.length : Int) == wt) with
    | false =>
      have hq2 : ((l.length : Int) != wt) = true := by rw [bne, hq]; rfl
      rw [hq] at HO
      have HO2 := Lib.hid (HO.out.trans rfl)
      clear hq
      go_wp2_with fail
      go_ret
      exact ⟨by rw [HO2.out]; rfl, HB.out⟩
    | true =>
    have hq2 : ((l.length : Int) != wt) = false := by rw [bne, hq]; rfl
    rw [hq] at HO
    have HO2 := Lib.hid (show refE d op n nm fd l (okE d m) = opsOK d op (okE d m) false l from HO.out.trans (by simp))
    clear hq HO
    go_wp2_with fail
    go_loopw [11, 12] (fun uv iv wr => ∃ (k : Nat) (up : Bool), k ≤ l.length ∧ iv = .int .i64 k ∧ uv = .bool up ∧ Hid (OpsTo d op (okE d m) l k up) ∧ Hid (wr.heap[w.heap.size]? = some (.cells #[.int .i64 op, .int .i64 n, .string nm, .string fd, .slice la l.length lc] 24)) ∧ Hid (Below w.heap.size w wr)) (fun _ i _ => l.length - (intOf i).toNat)
    case atStart => exact ⟨0, false, Nat.zero_le _, rfl, rfl, Lib.hid (OpsTo.start _ _ _ _), KK, HB⟩
    case round =>
      obtain ⟨k, up, hk, rfl, rfl, HT, KR, HR⟩ := hrel
      clear cc
      have cc := box_cells KR.out
      have hww : w.heap.size < wr.heap.size := heap_lt KR.out
      by_cases hlt : k < l.length
      · obtain ⟨b, o, vs, ds, rfl, hbl, hx, hv, hc⟩ := HA.out.elem hlt
        have hmem := List.mem_of_getElem? hx
        have hfn := HF.out ds hmem vs hv
        have hmr := HSM.out ds hmem
        obtain ⟨op2, n2, nm2, fd2, kl, kla, klc, hds, hvs, _⟩ := hv.openE (HS.out _ hmem)
        subst hvs
        rw [hds] at hmr
        simp only [mRow, mD] at hmr
        have hdl : ds.length = 5 := by rw [hds]; rfl
        rw [hdl] at hc
        have B0 := HW.out.trans (HR.out.mono HW.out.size)
        have c0 := (B0.cell (p := ⟨b, o + k * 5, none⟩) hbl).trans (hc 0 _ rfl)
        have c1 := (B0.cell (p := ⟨b, o + k * 5 + 1, none⟩) hbl).trans (hc 1 _ rfl)
        have c2 := (B0.cell (p := ⟨b, o + k * 5 + 2, none⟩) hbl).trans (hc 2 _ rfl)
        have c3 := (B0.cell (p := ⟨b, o + k * 5 + 3, none⟩) hbl).trans (hc 3 _ rfl)
        have c4 := (B0.cell (p := ⟨b, o + k * 5 + 4, none⟩) hbl).trans (hc 4 _ rfl)
        have hbw : b < wr.heap.size := Nat.lt_of_lt_of_le hbl B0.size
        have a1 := (Below.refl wr.heap.size wr).alloc (Nat.le_refl _) (.cells #[.int .i64 op2, .int .i64 n2, .string nm2, .string fd2, .slice kla kl.length klc] 24)
        have R1 := Lib.hid (HR.out.trans (a1.mono HR.out.size))
        have K1 := Lib.hid ((a1.block _ (heap_lt KR.out)).trans KR.out)
        have FN := Lib.hid (hfn _ (HW.out.trans (R1.out.mono HW.out.size)))
        have HX := Lib.hid hx
        have HU := Lib.hid (show isUp ds = (op2 == 25) by rw [hds]; rfl)
        have HUP := Lib.hid (show upD 1 ds = ((op2 == 25) && ((n2 == 0) && (fd2.toList.isEmpty && (decide (kl.length = 0) && okName 1 nm2)))) by rw [hds]; rfl)
        have hn2s : nm2.size ≤ maxLen := by unfold maxLen; omega
        clear hx hds hdl hc B0 hv hfn a1 hmr hmem
        cases hu : op2 == 25 with
        | true =>
          have hui := HU.out.trans hu
          rw [hu, Bool.true_and] at HUP
          have HUI := Lib.hid hui
          clear hui
          cases h1 : d == 1 with
          | false =>
            have h1' : (d != 1) = true := by rw [bne, h1]; rfl
            have HE := Lib.hid (HT.out.upBad HX.out HUI.out (by rw [h1]; rfl))
            clear h1
            go_wp2_with fail
            go_ret
            exact ⟨by rw [HO2.out, HE.out]; rfl, R1.out⟩
          | true =>
          have h1' : (d != 1) = false := by rw [bne, h1]; rfl
          cases h7 : op == 7 with
          | false =>
            have h7' : (op != 7) = true := by rw [bne, h7]; rfl
            have HE := Lib.hid (HT.out.upBad HX.out HUI.out (by rw [h7]; simp))
            clear h1 h7
            go_wp2_with fail
            go_ret
            exact ⟨by rw [HO2.out, HE.out]; rfl, R1.out⟩
          | true =>
          have h7' : (op != 7) = false := by rw [bne, h7]; rfl
          have HD1 := Lib.hid h1
          have HO7 := Lib.hid h7
          clear h1 h7
          go_wp2_with fail
          refine (refName_any 1 nm2 _ hn2s).mono ?_
          rintro e w3 ⟨rfl, b3⟩
          have R3 := Lib.hid (R1.out.trans (b3.mono R1.out.size))
          have K3 := Lib.hid ((b3.block _ (heap_lt K1.out)).trans K1.out)
          have c5 := box_cells ((b3.block _ (heap_lt (heap_new wr (.cells #[.int .i64 op2, .int .i64 n2, .string nm2, .string fd2, .slice kla kl.length klc] 24)))).trans (heap_new wr (.cells #[.int .i64 op2, .int .i64 n2, .string nm2, .string fd2, .slice kla kl.length klc] 24)))
          clear b3 c0 c1 c2 c3 c4 cc
          cases hnm3 : okName 1 nm2 with
          | false =>
            rw [hnm3] at HUP
            have HE := Lib.hid (HT.out.upBad HX.out HUI.out (by rw [HUP.out]; simp))
            go_wp2_with fail
            go_ret
            exact ⟨by rw [HO2.out, HE.out]; rfl, R3.out⟩
          | true =>
          rw [hnm3] at HUP
          cases hz : n2 == 0 with
          | false =>
            have hz' : (n2 != 0) = true := by rw [bne, hz]; rfl
            rw [hz] at HUP
            have HE := Lib.hid (HT.out.upBad HX.out HUI.out (by rw [HUP.out]; simp))
            go_wp2_with fail
            go_ret
            exact ⟨by rw [HO2.out, HE.out]; rfl, R3.out⟩
          | true =>
          have hz' : (n2 != 0) = false := by rw [bne, hz]; rfl
          rw [hz] at HUP
          cases hfe : fd2.toList.isEmpty with
          | false =>
            rw [hfe] at HUP
            have HE := Lib.hid (HT.out.upBad HX.out HUI.out (by rw [HUP.out]; simp))
            go_wp2_with fail
            go_ret
            exact ⟨by rw [HO2.out, HE.out]; rfl, R3.out⟩
          | true =>
          rw [hfe] at HUP
          by_cases hk0 : kl.length = 0
          · rw [decide_eq_true hk0] at HUP
            have HE := Lib.hid (HT.out.up HX.out HUI.out (by rw [HUP.out, HD1.out, HO7.out]; rfl))
            have hk1 : ((kl.length : Int) != 0) = false := by simp [hk0]
            have hk2 : (kl.length == 0) = true := by simp [hk0]
            clear hk0
            go_wp2_with fail
            go_roundw
            case rel => exact ⟨k + 1, true, by omega, by go_num, rfl, HE, K3, R3⟩
            case measure => simp [intOf]; omega
          · rw [decide_eq_false hk0] at HUP
            have HE := Lib.hid (HT.out.upBad HX.out HUI.out (by rw [HUP.out]; simp))
            have hk1 : ((kl.length : Int) != 0) = true := by rw [bne_iff_ne]; omega
            have hk2 : (kl.length == 0) = false := by simpa using hk0
            clear hk0
            go_wp2_with fail
            go_ret
            exact ⟨by rw [HO2.out, HE.out]; rfl, R3.out⟩
        | false =>
          have HUI := Lib.hid (HU.out.trans hu)
          cases up with
          | true =>
            have HE := Lib.hid (HT.out.behind HX.out HUI.out)
            go_wp2_with fail
            go_ret
            exact ⟨by rw [HO2.out, HE.out]; rfl, R1.out⟩
          | false =>
          have hsub : mm - 1 = (m : Nat) := by have := HM.out; omega
          go_wp2_with fail
          refine FN.out.mono ?_
          rintro e w3 ⟨rfl, b3⟩
          have R3 := Lib.hid (R1.out.trans (b3.mono R1.out.size))
          have K3 := Lib.hid ((b3.block _ (heap_lt K1.out)).trans K1.out)
          clear b3 c0 c1 c2 c3 c4 cc
          cases hr : okE d m ds with
          | false =>
            have HE := Lib.hid (HT.out.nextBad HX.out HUI.out hr)
            go_wp2_with fail
            go_ret
            exact ⟨by rw [HO2.out, HE.out]; rfl, R3.out⟩
          | true =>
            have HE := Lib.hid (HT.out.next HX.out HUI.out hr)
            go_wp2_with fail
            go_roundw
            case rel => exact ⟨k + 1, false, by omega, by go_num, rfl, HE, K3, R3⟩
            case measure => simp [intOf]; omega
      · obtain rfl : k = l.length := by omega
        have HE := Lib.hid (HT.out.done)
        go_wp2_with fail
        go_ret
        exact ⟨by rw [HO2.out, HE.out]; rfl, HR.out⟩
end Go.Proofs.YtciijpahjjoppaaGreat
end
section
namespace Go.Proofs.YtciijpahjjoppaaGreat
open Go.RowKit Go.Deep Go.Maps

set_option maxRecDepth 100000 in
set_option maxHeartbeats 2000000 in
theorem form_0 (d op n : Int) (nm fd : ByteArray) (la : Option Addr) (len lc : Nat) (w : World) :
    Calls Tryz.prog 26 #[.int .i64 d, .agg #[.int .i64 op, .int .i64 n, .string nm, .string fd, .slice la len lc], .int .i64 0] w fun e w' => e = .returned (.bool false) ∧ Below w.heap.size w w' := by
  have R0 := Lib.hid ((Below.refl w.heap.size w).alloc (Nat.le_refl _) (.cells #[.int .i64 op, .int .i64 n, .string nm, .string fd, .slice la len lc] 24))
  go_enter Tryz.func26, Tryz.ntmps26
  go_wp2_with fail
  go_ret
  exact ⟨rfl, R0.out⟩
theorem mRows_mem : ∀ {l : List (List D)} {x : List D}, x ∈ l → mRow x ≤ mRows l
  | y :: r, x, h => by
    rcases List.mem_cons.1 h with rfl | h
    · simp [mRows]
    · have := mRows_mem h; simp [mRows]; omega
theorem form_any (w0 : World) (d : Int) (hd : d = 0 ∨ d = 1) : ∀ (m : Nat), m < 1000 → ∀ (x : List D) (vs : List Value), ShE x → mRow x ≤ 2000000 → AllAt w0 vs x → ∀ W, Below w0.heap.size w0 W → Calls Tryz.prog 26 #[.int .i64 d, .agg ⟨vs⟩, .int .i64 (m : Nat)] W fun e W' => e = .returned (.bool (okE d m x)) ∧ Below W.heap.size W W'
  | 0, _, x, vs, hx, _, hv, W, _ => by
    obtain ⟨op, n, nm, fd, kl, kla, klc, rfl, rfl, _, _, _, _, akl, _⟩ := hv.openE hx
    exact form_0 d op n nm fd kla kl.length klc W
  | m + 1, hm, x, vs, hx, hb, hv, W, hW => by
    obtain ⟨op, n, nm, fd, kl, kla, klc, rfl, rfl, _, ⟨_, hn2⟩, _, _, akl, skl⟩ := hv.openE hx
    rw [okE_ref d hd m op n nm fd kl]
    simp only [mRow, mD] at hb
    exact form_step w0 d hd m (by omega) op n nm fd kla kl klc hn2 (by omega) (by omega) akl skl (fun y hy => by have := mRows_mem hy; omega) (fun y hy us hu U hU => form_any w0 d hd m (by omega) y us (skl y hy) (by have := mRows_mem hy; omega) hu U hU) W hW
set_option maxRecDepth 100000 in
set_option maxHeartbeats 2000000 in
theorem refExpr_any (w0 : World) (d : Int) (x : List D) (vs : List Value) (hx : ShE x) (hb : mRow x ≤ 2000000) (hv : AllAt w0 vs x) (w : World) (hW : Below w0.heap.size w0 w) :
    Calls Tryz.prog 10 #[.int .i64 d, .agg ⟨vs⟩] w fun e w' => e = .returned (.bool (chkE d x)) ∧ Below w.heap.size w w' := by
  have HFm := Lib.hid (fun (hd : d = 0 ∨ d = 1) (W : World) (hW : Below w0.heap.size w0 W) => form_any w0 d hd 48 (by omega) x vs hx hb hv W hW)
  have HDp := Lib.hid (fun (W : World) (hW : Below w0.heap.size w0 W) => deep_any w0 99 (by omega) x vs hx hv W hW)
  obtain ⟨op, n, nm, fd, kl, kla, klc, hxe, rfl, _⟩ := hv.openE hx
  have HW := Lib.hid hW
  clear hW hv hx hxe hb
  have R0 := Lib.hid ((Below.refl w.heap.size w).alloc (Nat.le_refl _) (.cells #[.int .i64 op, .int .i64 n, .string nm, .string fd, .slice kla kl.length klc] 24))
  have KP := Lib.hid (heap_new w (.cells #[.int .i64 op, .int .i64 n, .string nm, .string fd, .slice kla kl.length klc] 24))
  by_cases h0 : d = 0 ∨ d = 1
  · have HFn := Lib.hid (HFm.out h0)
    have hkn : knows d = true := by unfold knows; rcases h0 with rfl | rfl <;> rfl
    have HO := Lib.hid (show chkE d x = okE d 48 x by unfold chkE; rw [hkn]; rfl)
    have e0 : ((d != 0) && (d != 1)) = false := by rcases h0 with rfl | rfl <;> rfl
    have HDD := Lib.hid (okE_deep d 48 99 x)
    clear hkn HFm
    rcases h0 with rfl | rfl
    all_goals
      go_enter Tryz.func10, Tryz.ntmps10
      go_wp2_with fail
      refine (HFn.out _ (HW.out.trans (R0.out.mono HW.out.size))).mono ?_
      rintro e w1 ⟨rfl, b1⟩
      have R1 := Lib.hid (R0.out.trans (b1.mono R0.out.size))
      have c1 := box_cells ((b1.block _ (heap_lt KP.out)).trans KP.out)
      clear b1 e0
      cases hr : okE _ 48 x with
      | false =>
        go_wp2_with fail
        go_ret
        exact ⟨by rw [HO.out, hr]; rfl, R1.out⟩
      | true =>
        have hdp := HDD.out hr
        go_wp2_with fail
        refine (HDp.out _ (HW.out.trans (R1.out.mono HW.out.size))).mono ?_
        rintro e w2 ⟨rfl, b2⟩
        have R2 := Lib.hid (R1.out.trans (b2.mono R1.out.size))
        clear b2 c1
        generalize dep 99 x = q at *
        have hle : decide ((q : Int) ≤ 48) = true := by simp; omega
        go_wp2_with fail
        go_ret
        exact ⟨by rw [HO.out, hr]; rfl, R2.out⟩
  · have n0 : (d != 0) = true := by simp; omega
    have n1 : (d != 1) = true := by simp; omega
    have hkn : knows d = false := by unfold knows; simp; omega
    have HO := Lib.hid (show chkE d x = false by unfold chkE; rw [hkn]; rfl)
    clear hkn HFm HDp h0
    go_enter Tryz.func10, Tryz.ntmps10
    go_wp2_with fail
    go_ret
    exact ⟨by rw [HO.out]; rfl, R0.out⟩
end Go.Proofs.YtciijpahjjoppaaGreat
end
section
namespace Go.Proofs.YtciijpahjjoppaaGreat
open Go.RowKit Go.Shelf Go.Deep

def turnL {σ : Type} (f : σ → List D → List D × σ) : σ → List (List D) → List (List D) × σ
  | s, [] => ([], s)
  | s, x :: l => ((f s x).1 :: (turnL f (f s x).2 l).1, (turnL f (f s x).2 l).2)
theorem turnL_len {σ : Type} (f : σ → List D → List D × σ) : ∀ (l : List (List D)) (s : σ), (turnL f s l).1.length = l.length
  | [], _ => rfl
  | _ :: l, s => by simp [turnL, turnL_len f l]
theorem turnL_snoc {σ : Type} (f : σ → List D → List D × σ) (x : List D) : ∀ (l : List (List D)) (s : σ), turnL f s (l ++ [x]) = ((turnL f s l).1 ++ [(f (turnL f s l).2 x).1], (f (turnL f s l).2 x).2)
  | [], _ => rfl
  | y :: l, s => by simp [turnL, turnL_snoc f x l]
theorem turnL_same {σ : Type} (s : σ) : ∀ (l : List (List D)), turnL (fun s x => (x, s)) s l = (l, s)
  | [] => rfl
  | x :: l => by rw [turnL, turnL_same s l]
section
variable {σ : Type} {g : Nat} {c1 c2 : Value} (C : Clo σ g c1 c2)
def tF (s : σ) : List D → List D × σ
  | [.row m0, .row m1, .str nm, .int kd] => ([.row m0, .row m1, .str (C.nm s nm).1, .int kd], (C.nm s nm).2)
  | x => (x, s)
def tV (s : σ) : List D → List D × σ
  | [.row m0, .row m1, .str nm, .int kd, .int sz, .str tn] => ([.row m0, .row m1, .str (C.nm s nm).1, .int kd, .int sz, .str (C.nm (C.nm s nm).2 tn).1], (C.nm (C.nm s nm).2 tn).2)
  | x => (x, s)
def tP (s : σ) : List D → List D × σ
  | [.str nm, .int kd, .int sz, .str tn, .int md] => ([.str (C.nm s nm).1, .int kd, .int sz, .str (C.nm (C.nm s nm).2 tn).1, .int md], (C.nm (C.nm s nm).2 tn).2)
  | x => (x, s)
def tC (s : σ) : List D → List D × σ
  | [.row m0, .row m1, .str nm, .row fs, .row en] => ([.row m0, .row m1, .str (C.nm s nm).1, .row (turnL (tF C) (C.nm s nm).2 fs).1, .row en], (turnL (tF C) (C.nm s nm).2 fs).2)
  | x => (x, s)
def tE : Nat → σ → List D → List D × σ
  | 0, s, x => (x, s)
  | n + 1, s, [.int op, .int k, .str nm, .str fd, .row l] => ([.int op, .int k, .str (C.nm s nm).1, .str (C.nm (C.nm s nm).2 fd).1, .row (turnL (tE n) (C.nm (C.nm s nm).2 fd).2 l).1], (turnL (tE n) (C.nm (C.nm s nm).2 fd).2 l).2)
  | _ + 1, s, x => (x, s)
/-- The parts of a statement, in their order. -/
def tSx (n : Nat) (f : σ → List D → List D × σ) (s : σ) (nm pnm pfd : ByteArray) (pl ex bd el : List (List D)) : (ByteArray × ByteArray × ByteArray × List (List D) × List (List D) × List (List D) × List (List D)) × σ :=
  let a := C.nm s nm
  let b := C.nm a.2 pnm
  let c := C.nm b.2 pfd
  let d := turnL (tE C n) c.2 pl
  let e := turnL (tE C (n + 1)) d.2 ex
  let h := turnL f e.2 bd
  let i := turnL f h.2 el
  ((a.1, b.1, c.1, d.1, e.1, h.1, i.1), i.2)
def tS : Nat → σ → List D → List D × σ
  | 0, s, x => (x, s)
  | n + 1, s, [.row m0, .row m1, .int op, .str nm, .int pop, .int pn, .str pnm, .str pfd, .row pl, .row ex, .bool dn, .bool mo, .row bd, .row el, .row en, .row e2] =>
    let r := tSx C n (tS n) s nm pnm pfd pl ex bd el
    ([.row m0, .row m1, .int op, .str r.1.1, .int pop, .int pn, .str r.1.2.1, .str r.1.2.2.1, .row r.1.2.2.2.1, .row r.1.2.2.2.2.1, .bool dn, .bool mo, .row r.1.2.2.2.2.2.1, .row r.1.2.2.2.2.2.2, .row en, .row e2], r.2)
  | _ + 1, s, x => (x, s)
def tR : Nat → σ → List D → List D × σ
  | 0, s, x => (x, s)
  | n + 1, s, [.row m0, .row m1, .str nm, .int rs, .row ps, .row vr, .row inn, .row bd, .row en] =>
    let a := C.nm s nm
    let b := turnL (tP C) a.2 ps
    let c := turnL (tV C) b.2 vr
    let d := turnL (tR n) c.2 inn
    let e := turnL (tS C (n + 1)) d.2 bd
    ([.row m0, .row m1, .str a.1, .int rs, .row b.1, .row c.1, .row d.1, .row e.1, .row en], e.2)
  | _ + 1, s, x => (x, s)
def tG (n : Nat) (s : σ) : List D → List D × σ
  | [.str nm, .row be, .row mi, .row af, .row rc, .row vr, .row rt, .row bd, .row en] =>
    let a := C.nm s nm
    let b := turnL (tC C) a.2 rc
    let c := turnL (tV C) b.2 vr
    let d := turnL (tR C n) c.2 rt
    let e := turnL (tS C n) d.2 bd
    ([.str a.1, .row be, .row mi, .row af, .row b.1, .row c.1, .row d.1, .row e.1, .row en], e.2)
  | x => (x, s)
end
def nF : List D → List ByteArray
  | [_, _, .str nm, _] => parts nm
  | _ => []
def nV : List D → List ByteArray
  | [_, _, .str nm, _, _, .str tn] => parts nm ++ parts tn
  | _ => []
def nP : List D → List ByteArray
  | [.str nm, _, _, .str tn, _] => parts nm ++ parts tn
  | _ => []
def nC : List D → List ByteArray
  | [_, _, .str nm, .row fs, _] => parts nm ++ fs.flatMap nF
  | _ => []
def nE : Nat → List D → List ByteArray
  | 0, _ => []
  | n + 1, [_, _, .str nm, .str fd, .row l] => parts nm ++ (parts fd ++ l.flatMap (nE n))
  | _ + 1, _ => []
def nS : Nat → List D → List ByteArray
  | 0, _ => []
  | n + 1, [_, _, _, .str nm, _, _, .str pnm, .str pfd, .row pl, .row ex, _, _, .row bd, .row el, _, _] => parts nm ++ (parts pnm ++ (parts pfd ++ (pl.flatMap (nE n) ++ (ex.flatMap (nE (n + 1)) ++ (bd.flatMap (nS n) ++ el.flatMap (nS n))))))
  | _ + 1, _ => []
def nR : Nat → List D → List ByteArray
  | 0, _ => []
  | n + 1, [_, _, .str nm, _, .row ps, .row vr, .row inn, .row bd, _] => parts nm ++ (ps.flatMap nP ++ (vr.flatMap nV ++ (inn.flatMap (nR n) ++ bd.flatMap (nS (n + 1)))))
  | _ + 1, _ => []
def nG (n : Nat) : List D → List ByteArray
  | [.str nm, _, _, _, .row rc, .row vr, .row rt, .row bd, _] => parts nm ++ (rc.flatMap nC ++ (vr.flatMap nV ++ (rt.flatMap (nR n) ++ bd.flatMap (nS n))))
  | _ => []
section
variable {σ : Type} {g : Nat} {c1 c2 : Value} (C : Clo σ g c1 c2)
theorem Clo.pts_append (a b : List ByteArray) : ∀ s : σ, (C.pts s (a ++ b)).2 = (C.pts (C.pts s a).2 b).2 := by
  induction a with
  | nil => intro s; rfl
  | cons x a ih => intro s; exact ih _
theorem nm_state (s : σ) (x : ByteArray) : (C.nm s x).2 = (C.pts s (parts x)).2 := rfl
theorem turnL_state (f : σ → List D → List D × σ) (h : List D → List ByteArray) : ∀ (l : List (List D)) (_ : ∀ x ∈ l, ∀ s, (f s x).2 = (C.pts s (h x)).2) (s : σ), (turnL f s l).2 = (C.pts s (l.flatMap h)).2
  | [], _, s => rfl
  | x :: l, hf, s => by
    rw [List.flatMap_cons, C.pts_append, ← hf x (by simp) s]
    exact turnL_state f h l (fun y hy => hf y (by simp [hy])) _
theorem tF_state (s : σ) {x : List D} (hx : ShF x) : (tF C s x).2 = (C.pts s (nF x)).2 := by
  cases hx
  rfl
theorem tV_state (s : σ) {x : List D} (hx : ShV x) : (tV C s x).2 = (C.pts s (nV x)).2 := by
  cases hx
  exact (C.pts_append _ _ s).symm
theorem tP_state (s : σ) {x : List D} (hx : ShP x) : (tP C s x).2 = (C.pts s (nP x)).2 := by
  cases hx
  exact (C.pts_append _ _ s).symm
theorem tC_state (s : σ) {x : List D} (hx : ShC x) : (tC C s x).2 = (C.pts s (nC x)).2 := by
  cases hx with
  | mk m0 m1 nm fs en s0 s1 sf se =>
    refine Eq.trans ?_ (C.pts_append _ _ s).symm
    exact turnL_state C (tF C) nF fs (fun y hy s => tF_state C s (sf y hy)) _
theorem tE_state : ∀ (n : Nat) (s : σ) {x : List D} (_ : ShE x), (tE C n s x).2 = (C.pts s (nE n x)).2
  | 0, _, _, _ => rfl
  | n + 1, s, x, hx => by
    cases hx with
    | mk op k nm fd l sl =>
      show (turnL (tE C n) _ l).2 = (C.pts s (parts nm ++ (parts fd ++ l.flatMap (nE n)))).2
      rw [C.pts_append, C.pts_append]
      exact turnL_state C (tE C n) (nE n) l (fun y hy s => tE_state n s (sl y hy)) _
theorem tS_state : ∀ (n : Nat) (s : σ) {x : List D} (_ : ShS x), (tS C n s x).2 = (C.pts s (nS n x)).2
  | 0, _, _, _ => rfl
  | n + 1, s, x, hx => by
    cases hx with
    | mk m0 m1 op nm pop pn pnm pfd pl ex dn mo bd el en e2 s0 s1 spl sex sbd sel sen se2 =>
      show (turnL (tS C n) _ el).2 = (C.pts s (parts nm ++ (parts pnm ++ (parts pfd ++ (pl.flatMap (nE n) ++ (ex.flatMap (nE (n + 1)) ++ (bd.flatMap (nS n) ++ el.flatMap (nS n)))))))).2
      rw [C.pts_append, C.pts_append, C.pts_append, C.pts_append, C.pts_append, C.pts_append]
      rw [turnL_state C (tS C n) (nS n) el (fun y hy s => tS_state n s (sel y hy)), turnL_state C (tS C n) (nS n) bd (fun y hy s => tS_state n s (sbd y hy)), turnL_state C (tE C (n + 1)) (nE (n + 1)) ex (fun y hy s => tE_state C (n + 1) s (sex y hy)), turnL_state C (tE C n) (nE n) pl (fun y hy s => tE_state C n s (spl y hy))]
      rfl
theorem tR_state : ∀ (n : Nat) (s : σ) {x : List D} (_ : ShR x), (tR C n s x).2 = (C.pts s (nR n x)).2
  | 0, _, _, _ => rfl
  | n + 1, s, x, hx => by
    cases hx with
    | mk m0 m1 nm rs ps vr inn bd en s0 s1 sps svr sinn sbd sen =>
      show (turnL (tS C (n + 1)) (turnL (tR C n) (turnL (tV C) (turnL (tP C) (C.nm s nm).2 ps).2 vr).2 inn).2 bd).2 = (C.pts s (parts nm ++ (ps.flatMap nP ++ (vr.flatMap nV ++ (inn.flatMap (nR n) ++ bd.flatMap (nS (n + 1))))))).2
      rw [C.pts_append, C.pts_append, C.pts_append, C.pts_append]
      rw [turnL_state C (tS C (n + 1)) (nS (n + 1)) bd (fun y hy s => tS_state C (n + 1) s (sbd y hy)), turnL_state C (tR C n) (nR n) inn (fun y hy s => tR_state n s (sinn y hy)), turnL_state C (tV C) nV vr (fun y hy s => tV_state C s (svr y hy)), turnL_state C (tP C) nP ps (fun y hy s => tP_state C s (sps y hy))]
      rfl
theorem tG_state (n : Nat) (s : σ) {x : List D} (hx : ShG x) : (tG C n s x).2 = (C.pts s (nG n x)).2 := by
  cases hx with
  | mk nm be mi af rc vr rt bd en sbe smi saf src svr srt sbd sen =>
    show (turnL (tS C n) (turnL (tR C n) (turnL (tV C) (turnL (tC C) (C.nm s nm).2 rc).2 vr).2 rt).2 bd).2 = (C.pts s (parts nm ++ (rc.flatMap nC ++ (vr.flatMap nV ++ (rt.flatMap (nR n) ++ bd.flatMap (nS n)))))).2
    rw [C.pts_append, C.pts_append, C.pts_append, C.pts_append]
    rw [turnL_state C (tS C n) (nS n) bd (fun y hy s => tS_state C n s (sbd y hy)), turnL_state C (tR C n) (nR n) rt (fun y hy s => tR_state C n s (srt y hy)), turnL_state C (tV C) nV vr (fun y hy s => tV_state C s (svr y hy)), turnL_state C (tC C) nC rc (fun y hy s => tC_state C s (src y hy))]
    rfl
end
end Go.Proofs.YtciijpahjjoppaaGreat
end
