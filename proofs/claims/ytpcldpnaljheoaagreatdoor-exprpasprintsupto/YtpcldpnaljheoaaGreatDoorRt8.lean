/-
  The document's reader of expressions, walked: the token at a place, what it is, what is wrong with it.
-/
import Derived.Test.YtpcldpnaljheoaaGreatDoorZz3
import Derived.Test.YtpcldpnaljheoaaGreatDoorZz4
namespace Go.Proofs.YtpcldpnaljheoaaGreatDoor
open Go.RowKit Go.Deep Go.Sort

def tkAt (ts : List Tok) (k : Nat) : Tok := (ts[k]?).getD (endT ts)
def stK (k : Nat) : RS := ⟨k, 0, 0, 0, 0⟩
theorem cur_st (ts : List Tok) (k : Nat) : cur ts (stK k) = tkAt ts k := if_pos rfl
theorem tkAt_in {ts : List Tok} {k : Nat} {t : Tok} (h : ts[k]? = some t) : tkAt ts k = t := by unfold tkAt; rw [h]; rfl
theorem tkAt_out {ts : List Tok} {k : Nat} (h : ts.length ≤ k) : tkAt ts k = endT ts := by unfold tkAt; rw [List.getElem?_eq_none h]; rfl
/-- Tokens that lie at block g. -/
structure TkW (g : Nat) (ts : List Tok) (w : World) : Prop where
  toks : ToksAt g ts w
  ok : TsOk ts
theorem TkW.below {g : Nat} {ts : List Tok} {w w' : World} (h : TkW g ts w) (hb : Below w.heap.size w w') : TkW g ts w' :=
  ⟨h.toks.kept hb.size (hb.block _ h.toks.lt), h.ok⟩
set_option maxRecDepth 100000 in
set_option maxHeartbeats 1000000 in
theorem rtok_end {g cap : Nat} {ts : List Tok} {k : Nat} {w : World} (h : TkW g ts w) (hx : ts.length ≤ k) :
    Calls Tryz.prog 23 #[.slice (some ⟨g, 0, none⟩) ts.length cap, .int .i64 (k : Nat)] w fun e w' => e = .returned (tokV (endT ts)) ∧ Below w.heap.size w w' := by
  obtain ⟨t, ht, he⟩ := endT_eq h.ok.ne
  rw [he]
  have Z := (Below.refl w.heap.size w).alloc (Nat.le_refl _) (.cells #[.int .i64 0, .string ⟨#[]⟩, .int .i64 0, .bool false, .int .i64 0, .int .i64 0, .int .i64 0] 50)
  have R0 := h.below Z
  have K0 := Lib.hid (heap_new w (.cells #[.int .i64 0, .string ⟨#[]⟩, .int .i64 0, .bool false, .int .i64 0, .int .i64 0, .int .i64 0] 50))
  have ZB := Lib.hid Z
  have hn : 0 < ts.length := List.length_pos_iff.2 h.ok.ne
  have hlen := h.ok.len
  have t4 := R0.toks.c ht 4 (by decide)
  have t5 := R0.toks.c ht 5 (by decide)
  have t6 := R0.toks.c ht 6 (by decide)
  rw [show (tokCells t)[4]? = some (.int .i64 (t.pos : Nat)) from rfl] at t4
  rw [show (tokCells t)[5]? = some (.int .i64 (t.line : Nat)) from rfl] at t5
  rw [show (tokCells t)[6]? = some (.int .i64 (t.col : Nat)) from rfl] at t6
  clear h ht he R0 Z
  generalize hq : ts.length - 1 = q at t4 t5 t6
  generalize ts.length = n at *
  have dk : decide ((0 : Int) ≤ (k : Int)) = true := by simp
  have hdn : ¬ k < n := by omega
  have hdn2 : decide (k < n) = false := by simpa using hdn
  have hd : decide ((k : Int) < (n : Int)) = false := by simp; omega
  have hz : ((n : Int) == 0) = false := by simp; omega
  have hw : IntKind.i64.wrap ((n : Int) - 1) = (q : Int) := by rw [IntWalk.i64_in _ (by omega)]; omega
  have hq1 : (0 : Int) ≤ (q : Int) := by omega
  have hq2 : (q : Int) < (n : Int) := by omega
  have gl : (n : Int) ≤ 9223372036854775807 := by omega
  go_enter Tryz.func23, Tryz.ntmps23
  go_wp2_with fail
  refine bodyPost_ret (v := tokV ⟨0, ⟨#[]⟩, 0, false, t.pos, t.line, t.col⟩) (by simp [results, Tryz.results23, go_sem, tokV, tokCells]) rfl ⟨rfl, ?_⟩
  exact (Below.refl _ _).alloc (Nat.le_refl _) _
set_option maxRecDepth 100000 in
set_option maxHeartbeats 1000000 in
theorem rtok_in {g cap : Nat} {ts : List Tok} {k : Nat} {w : World} (h : TkW g ts w) {t : Tok} (ht : ts[k]? = some t) :
    Calls Tryz.prog 23 #[.slice (some ⟨g, 0, none⟩) ts.length cap, .int .i64 (k : Nat)] w fun e w' => e = .returned (tokV t) ∧ Below w.heap.size w w' := by
  have Z := (Below.refl w.heap.size w).alloc (Nat.le_refl _) (.cells #[.int .i64 0, .string ⟨#[]⟩, .int .i64 0, .bool false, .int .i64 0, .int .i64 0, .int .i64 0] 50)
  have R0 := h.below Z
  have K0 := Lib.hid (heap_new w (.cells #[.int .i64 0, .string ⟨#[]⟩, .int .i64 0, .bool false, .int .i64 0, .int .i64 0, .int .i64 0] 50))
  have ZB := Lib.hid Z
  have hlen := h.ok.len
  have hk : k < ts.length := (List.getElem?_eq_some_iff.1 ht).1
  have hd : decide ((k : Int) < (ts.length : Int)) = true := by simp; omega
  have dk : decide ((0 : Int) ≤ (k : Int)) = true := by simp
  have gl : ((ts.length : Nat) : Int) ≤ 9223372036854775807 := by omega
  have hk1 : (0 : Int) ≤ (k : Int) := by omega
  have hk2 : (k : Int) < (ts.length : Int) := by omega
  have t0 := R0.toks.c ht 0 (by decide)
  have t1 := R0.toks.c ht 1 (by decide)
  have t2 := R0.toks.c ht 2 (by decide)
  have t3 := R0.toks.c ht 3 (by decide)
  have t4 := R0.toks.c ht 4 (by decide)
  have t5 := R0.toks.c ht 5 (by decide)
  have t6 := R0.toks.c ht 6 (by decide)
  rw [show (tokCells t)[0]? = some (.int .i64 (t.kind : Nat)) from rfl, Nat.add_zero] at t0
  rw [show (tokCells t)[1]? = some (.string t.text) from rfl] at t1
  rw [show (tokCells t)[2]? = some (.int .i64 (t.n : Nat)) from rfl] at t2
  rw [show (tokCells t)[3]? = some (.bool t.same) from rfl] at t3
  rw [show (tokCells t)[4]? = some (.int .i64 (t.pos : Nat)) from rfl] at t4
  rw [show (tokCells t)[5]? = some (.int .i64 (t.line : Nat)) from rfl] at t5
  rw [show (tokCells t)[6]? = some (.int .i64 (t.col : Nat)) from rfl] at t6
  clear h ht R0 Z
  generalize ts.length = n at *
  go_enter Tryz.func23, Tryz.ntmps23
  go_wp2_with fail
  refine bodyPost_ret (v := tokV t) (by simp [results, Tryz.results23, go_sem, tokV, tokCells]) rfl ⟨rfl, ?_⟩
  exact (Below.refl _ _).alloc (Nat.le_refl _) _
theorem rtok_any {g cap : Nat} {ts : List Tok} (k : Nat) {w : World} (h : TkW g ts w) :
    Calls Tryz.prog 23 #[.slice (some ⟨g, 0, none⟩) ts.length cap, .int .i64 (k : Nat)] w fun e w' => e = .returned (tokV (tkAt ts k)) ∧ Below w.heap.size w w' := by
  cases ht : ts[k]? with
  | none => rw [tkAt_out (List.getElem?_eq_none_iff.1 ht)]; exact rtok_end h (List.getElem?_eq_none_iff.1 ht)
  | some t => rw [tkAt_in ht]; exact rtok_in h ht
set_option maxRecDepth 100000 in
set_option maxHeartbeats 1000000 in
theorem ris_any {g cap : Nat} {ts : List Tok} (k : Nat) (x : ByteArray) {w : World} (h : TkW g ts w) :
    Calls Tryz.prog 87 #[.slice (some ⟨g, 0, none⟩) ts.length cap, .int .i64 (k : Nat), .string x] w fun e w' => e = .returned (.bool (isW (tkAt ts k) [x])) ∧ Below w.heap.size w w' := by
  have HT := Lib.hid (rtok_any (cap := cap) k h)
  generalize tkAt ts k = t at HT ⊢
  have hx : isW t [x] = ((t.kind == 2 || t.kind == 5) && (t.text.toList == x.toList)) := by
    unfold isW isIn
    rw [List.any_cons, List.any_nil, Bool.or_false]
    congr 1
    rw [Bool.eq_iff_iff, beq_iff, beq_iff]
    exact eq_comm
  rw [hx]
  clear h hx
  go_enter Tryz.func87, Tryz.ntmps87
  go_wp2_with fail
  refine HT.out.mono ?_
  rintro e w1 ⟨rfl, b1⟩
  have B1 := Lib.hid b1
  clear HT b1
  unfold tokV tokCells at *
  cases h2 : ((t.kind : Int) == 2) with
  | true =>
    have h2' : (t.kind == 2) = true := by
      have : (t.kind : Int) = 2 := by simpa using h2
      simp; omega
    go_wp2_with fail
    go_ret
    rw [h2', Bool.true_or, Bool.true_and]
    exact ⟨rfl, B1.out.alloc B1.out.size _⟩
  | false =>
    have h2' : (t.kind == 2) = false := by
      have : ¬ (t.kind : Int) = 2 := by simpa using h2
      simp; omega
    cases h5 : ((t.kind : Int) == 5) with
    | true =>
      have h5' : (t.kind == 5) = true := by
        have : (t.kind : Int) = 5 := by simpa using h5
        simp; omega
      go_wp2_with fail
      go_ret
      rw [h2', h5', Bool.false_or, Bool.true_and]
      exact ⟨rfl, B1.out.alloc B1.out.size _⟩
    | false =>
      have h5' : (t.kind == 5) = false := by
        have : ¬ (t.kind : Int) = 5 := by simpa using h5
        simp; omega
      go_wp2_with fail
      go_ret
      rw [h2', h5', Bool.false_or, Bool.false_and]
      exact ⟨rfl, B1.out.alloc B1.out.size _⟩
end Go.Proofs.YtpcldpnaljheoaaGreatDoor
