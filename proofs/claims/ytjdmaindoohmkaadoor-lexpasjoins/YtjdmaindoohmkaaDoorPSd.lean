/-
  The scanner's readers of a number, a name, a char and a sign, walked.
-/
import Derived.Test.YtjdmaindoohmkaaDoorPSc
import Derived.Test.YtjdmaindoohmkaaDoorShelf
namespace Go.Proofs.YtjdmaindoohmkaaDoor.P
open Go.RowKit Go.Sort

def tokV (f : Fd) : Value := .agg #[.int .i64 (f.kind : Nat), .string ⟨f.text.toArray⟩, .int .i64 (f.n : Nat), .bool false, .int .i64 0, .int .i64 0, .int .i64 0]
/-- What a reader of one token leaves. -/
def TokPost (c : Nat) (s : ByteArray) (k : Nat) (f : Fd) (w : World) (e : Ending) (w' : World) : Prop :=
  e = .returned (.tuple #[tokV f, .int .i64 (f.err : Nat)]) ∧ Only c w w' ∧ (f.err = 0 → CurAt w' c s (k + f.used))
/-- A token that is zero lies in the block b. -/
structure TokZ (w : World) (b : Nat) : Prop where
  blk : w.heap[b]? = some (.cells #[.int .i64 0, .string ⟨#[]⟩, .int .i64 0, .bool false, .int .i64 0, .int .i64 0, .int .i64 0] 38)
theorem TokZ.lt {w : World} {b : Nat} (h : TokZ w b) : b < w.heap.size := heap_lt h.blk
theorem TokZ.facts {w : World} {b : Nat} (h : TokZ w b) : w.cell? ⟨b, 0, none⟩ = some (.int .i64 0) ∧ w.cell? ⟨b, 1, none⟩ = some (.string ⟨#[]⟩) ∧ w.cell? ⟨b, 2, none⟩ = some (.int .i64 0) ∧ w.cell? ⟨b, 3, none⟩ = some (.bool false) ∧ w.cell? ⟨b, 4, none⟩ = some (.int .i64 0) ∧ w.cell? ⟨b, 5, none⟩ = some (.int .i64 0) ∧ w.cell? ⟨b, 6, none⟩ = some (.int .i64 0) ∧ ∀ o, w.frozen? ⟨b, o, none⟩ = false := by
  have := h.blk
  refine ⟨?_, ?_, ?_, ?_, ?_, ?_, ?_, fun o => ?_⟩ <;> simp [World.cell?, World.frozen?, this]
theorem TokZ.new (w : World) : TokZ (w.alloc (.cells #[.int .i64 0, .string ⟨#[]⟩, .int .i64 0, .bool false, .int .i64 0, .int .i64 0, .int .i64 0] 38)) w.heap.size := ⟨heap_new _ _⟩
theorem TokZ.only {w w' : World} {b c : Nat} (h : TokZ w b) (ho : Only c w w') (hn : b ≠ c) : TokZ w' b := ⟨(ho.block b hn h.lt).trans h.blk⟩
theorem TokZ.below {w w' : World} {b : Nat} (h : TokZ w b) (ho : Below w.heap.size w w') : TokZ w' b := ⟨(ho.block b h.lt).trans h.blk⟩
def set7 (w : World) (b : Nat) (v0 v1 v2 v3 v4 v5 v6 : Value) : World := ((((((w.setCell ⟨b, 0, none⟩ v0).setCell ⟨b, 1, none⟩ v1).setCell ⟨b, 2, none⟩ v2).setCell ⟨b, 3, none⟩ v3).setCell ⟨b, 4, none⟩ v4).setCell ⟨b, 5, none⟩ v5).setCell ⟨b, 6, none⟩ v6
theorem set7_only {c : Nat} {w w1 : World} {b : Nat} (hb : w.heap.size ≤ b) (ho : Only c w w1) (v0 v1 v2 v3 v4 v5 v6 : Value) : Only c w (set7 w1 b v0 v1 v2 v3 v4 v5 v6) :=
  ((((((ho.new hb v0).new hb v1).new hb v2).new hb v3).new hb v4).new hb v5).new hb v6
theorem set7_cur {c : Nat} {w1 : World} {b k : Nat} {s : ByteArray} (hb : b ≠ c) (hc : CurAt w1 c s k) (v0 v1 v2 v3 v4 v5 v6 : Value) : CurAt (set7 w1 b v0 v1 v2 v3 v4 v5 v6) c s k :=
  ((((((hc.other hb v0).other hb v1).other hb v2).other hb v3).other hb v4).other hb v5).other hb v6
theorem post7 {c : Nat} {w w1 : World} {b k : Nat} {s : ByteArray} {f : Fd} (hb : w.heap.size ≤ b) (hn : b ≠ c) (ho : Only c w w1) (hc : f.err = 0 → CurAt w1 c s (k + f.used)) (v0 v1 v2 v3 v4 v5 v6 : Value) :
    TokPost c s k f w (.returned (.tuple #[tokV f, .int .i64 (f.err : Nat)])) (set7 w1 b v0 v1 v2 v3 v4 v5 v6) :=
  ⟨rfl, set7_only hb ho _ _ _ _ _ _ _, fun h => set7_cur hn (hc h) _ _ _ _ _ _ _⟩

set_option maxHeartbeats 400000 in
theorem begins2 (p c k : Nat) (s a : ByteArray) (w : World) (h : ScAt w p c s k) :
    Calls Tryd.prog 73 #[.pointer (some ⟨p, 0, none⟩), .string a] w fun e w' => e = .returned (.bool (Lib.hasPrefix (s.data.toList.drop k) a.data.toList)) ∧ Below w.heap.size w w' := by
  have H := Lib.hid h
  clear h
  go_enter Tryd.func73, Tryd.ntmps73
  go_wp2_with fail
  refine (rest_any p c k s _ H.out).mono ?_
  rintro e w1 ⟨rfl, b1⟩
  have B := Lib.hid b1
  clear b1
  go_wp2_with fail
  refine (Tryd.strings_HasPrefix (restOf s k) a _).mono ?_
  rintro e w2 ⟨rfl, rfl⟩
  go_wp2_with fail
  go_ret
  exact ⟨rfl, B.out⟩
set_option maxHeartbeats 400000 in
theorem digits2 (p c k : Nat) (s : ByteArray) (w : World) (h : ScAt w p c s k) (hs : s.size ≤ maxLen) :
    Calls Tryd.prog 71 #[.pointer (some ⟨p, 0, none⟩)] w fun e w' => e = .returned (.string ⟨((s.data.toList.drop k).takeWhile isDig).toArray⟩) ∧ CurAt w' c s (k + ((s.data.toList.drop k).takeWhile isDig).length) ∧ Only c w w' := by
  have h0 := h.c0
  have C := Lib.hid h.cur
  clear h
  go_enter Tryd.func71, Tryd.ntmps71
  go_wp2_with fail
  refine (while_tw c k s setD isDig _ C.out hs (by decide) setD_is).mono ?_
  rintro e w1 ⟨rfl, c1, o1⟩
  have C1 := Lib.hid c1
  have O1 := Lib.hid o1
  clear c1 o1
  go_wp2_with fail
  go_ret
  exact ⟨rfl, C1.out, O1.out⟩
theorem ix_ge (l : List UInt8) (c : UInt8) : decide (0 ≤ Lib.indexByte l c) = l.contains c := by
  induction l with
  | nil => rfl
  | cons b r ih =>
    rw [Lib.indexByte, List.contains_cons, show (c == b) = (b == c) from Bool.beq_comm]
    cases hb : b == c with
    | true => simp
    | false =>
      have hge := Lib.indexByte_ge r c
      rw [if_neg (by decide), Bool.false_or, ← ih]
      by_cases h : Lib.indexByte r c = -1
      · rw [h]; rfl
      · rw [if_neg (by simpa using h)]
        rw [decide_eq_decide]
        omega
theorem ret_bool2 {a b : Bool} (h : a = b) : Ending.returned (.bool a) = .returned (.bool b) := by rw [h]
set_option maxHeartbeats 400000 in
theorem oneOf_any (set : ByteArray) (c : UInt8) (w : World) :
    Calls Tryd.prog 35 #[.string set, .int .u8 (c.toNat : Int)] w fun e w' => e = .returned (.bool (set.data.toList.contains c)) ∧ w = w' := by
  have hc : ((c.toNat : Int)).toNat.toUInt8 = c := by simp
  have hi := Lib.hid (ix_ge set.data.toList c)
  have HC := Lib.hid hc
  clear hc
  go_enter Tryd.func35, Tryd.ntmps35
  go_wp2_with fail
  refine (Tryd.strings_IndexByte set _ _).mono ?_
  rw [HC.out]
  rintro e w1 ⟨rfl, rfl⟩
  go_wp2_with fail
  go_ret
  exact ⟨ret_bool2 hi.out, rfl⟩
set_option maxHeartbeats 400000 in
theorem char_any (n : Int) (w : World) :
    Calls Tryd.prog 68 #[.int .i64 n] w fun e w' => e = .returned (.agg #[.int .i64 4, .string ⟨#[]⟩, .int .i64 n, .bool false, .int .i64 0, .int .i64 0, .int .i64 0]) ∧ Below w.heap.size w w' := by
  go_enter Tryd.func68, Tryd.ntmps68
  go_wp2_with fail
  exact bodyPost_ret (v := .agg #[.int .i64 4, .string ⟨#[]⟩, .int .i64 n, .bool false, .int .i64 0, .int .i64 0, .int .i64 0]) (by simp [results, Tryd.results68, go_sem]) rfl ⟨rfl, (Below.refl _ _).alloc (Nat.le_refl _) _⟩
theorem tw_mem (p : UInt8 → Bool) : ∀ (l : List UInt8) (c : UInt8), c ∈ l.takeWhile p → p c = true
  | [], c, h => by cases h
  | x :: r, c, h => by
    rw [List.takeWhile_cons] at h
    split at h
    · rename_i hx
      rcases List.mem_cons.1 h with h | h
      · rw [h]; exact hx
      · exact tw_mem p r c h
    · cases h
theorem dig_all (l : List UInt8) : ∀ c ∈ l.takeWhile isDig, 48 ≤ c.toNat ∧ c.toNat ≤ 57 := by
  intro c hc
  have := tw_mem isDig l c hc
  simpa [isDig] using this
theorem tw_size (p : UInt8 → Bool) (s : ByteArray) (k : Nat) : (ByteArray.mk ((s.data.toList.drop k).takeWhile p).toArray).size ≤ s.size := by
  have h := tw_len (p := p) (s.data.toList.drop k)
  rw [List.length_drop, len_size] at h
  have := len_size (ByteArray.mk ((s.data.toList.drop k).takeWhile p).toArray)
  simp at this
  omega
set_option maxHeartbeats 1000000 in
theorem number_tok (p c k : Nat) (s : ByteArray) (w : World) (h : ScAt w p c s k) (hs : s.size ≤ maxLen) (hd : 0 < ((s.data.toList.drop k).takeWhile isDig).length) :
    Calls Tryd.prog 57 #[.pointer (some ⟨p, 0, none⟩)] w (TokPost c s k (intL ((s.data.toList.drop k).takeWhile isDig)) w) := by
  have hz := tw_size isDig s k
  have had := AD_of _ hd (dig_all (s.data.toList.drop k))
  have hval := valTo_all ((s.data.toList.drop k).takeWhile isDig)
  have hpc := h.ne
  have hcl := h.cur.lt
  have H := Lib.hid h
  clear h
  by_cases hb : maxInt < valL ((s.data.toList.drop k).takeWhile isDig)
  · have F : intL ((s.data.toList.drop k).takeWhile isDig) = bad 6 := by unfold intL; rw [if_pos hb]
    rw [F]
    unfold maxInt at hb
    rw [← hval] at hb
    have HB := Lib.hid hb
    have AA := Lib.hid had
    clear hb had hval F
    go_enter Tryd.func57, Tryd.ntmps57
    go_wp2_with fail
    refine (digits2 p c k s _ (H.out.alloc _) hs).mono ?_
    have Z := Lib.hid (TokZ.new w)
    have B := Lib.hid (show Below w.heap.size w (w.alloc (.cells #[.int .i64 0, .string ⟨#[]⟩, .int .i64 0, .bool false, .int .i64 0, .int .i64 0, .int .i64 0] 38)) from (Below.refl _ _).alloc (Nat.le_refl _) _)
    generalize w.alloc (.cells #[.int .i64 0, .string ⟨#[]⟩, .int .i64 0, .bool false, .int .i64 0, .int .i64 0, .int .i64 0] 38) = w0 at Z B
    rintro e w1 ⟨rfl, c1, o1⟩
    have O1 := Lib.hid (o1.from B.out)
    have Z1 := Lib.hid (Z.out.only o1 (by omega))
    obtain ⟨g0, g1, g2, g3, g4, g5, g6, gf⟩ := Z1.out.facts
    clear c1 o1 Z B
    go_wp2_with fail
    refine (number_big _ _ (by omega) AA.out (by have := HB.out; omega)).mono ?_
    rintro e w2 ⟨rfl, rfl⟩
    go_wp2_with fail
    exact bodyPost_ret (v := .tuple #[tokV (bad 6), .int .i64 6]) (by simp [results, Tryd.results57, go_sem, tokV, bad, g0, g1, g2, g3, g4, g5, g6]) rfl (post7 (f := bad 6) (Nat.le_refl _) (by omega) O1.out (fun h => by cases h) _ _ _ _ _ _ _)
  · have F : intL ((s.data.toList.drop k).takeWhile isDig) = ⟨3, [], valL ((s.data.toList.drop k).takeWhile isDig), ((s.data.toList.drop k).takeWhile isDig).length, 0⟩ := by unfold intL; rw [if_neg hb]
    rw [F]
    unfold maxInt at hb
    rw [← hval] at hb
    have HB := Lib.hid hb
    have AA := Lib.hid had
    have HV := Lib.hid hval
    clear hb had hval F
    go_enter Tryd.func57, Tryd.ntmps57
    go_wp2_with fail
    refine (digits2 p c k s _ (H.out.alloc _) hs).mono ?_
    have Z := Lib.hid (TokZ.new w)
    have B := Lib.hid (show Below w.heap.size w (w.alloc (.cells #[.int .i64 0, .string ⟨#[]⟩, .int .i64 0, .bool false, .int .i64 0, .int .i64 0, .int .i64 0] 38)) from (Below.refl _ _).alloc (Nat.le_refl _) _)
    generalize w.alloc (.cells #[.int .i64 0, .string ⟨#[]⟩, .int .i64 0, .bool false, .int .i64 0, .int .i64 0, .int .i64 0] 38) = w0 at Z B
    rintro e w1 ⟨rfl, c1, o1⟩
    have O1 := Lib.hid (o1.from B.out)
    have C1 := Lib.hid c1
    have Z1 := Lib.hid (Z.out.only o1 (by omega))
    obtain ⟨g0, g1, g2, g3, g4, g5, g6, gf⟩ := Z1.out.facts
    clear c1 o1 Z B
    go_wp2_with fail
    refine (number_ok _ _ (by omega) AA.out (by have := HB.out; omega)).mono ?_
    rw [HV.out]
    rintro e w2 ⟨rfl, rfl⟩
    go_wp2_with fail
    exact bodyPost_ret (v := .tuple #[tokV ⟨3, [], valL ((s.data.toList.drop k).takeWhile isDig), ((s.data.toList.drop k).takeWhile isDig).length, 0⟩, .int .i64 0]) (by simp [results, Tryd.results57, go_sem, tokV, g0, g1, g2, g3, g4, g5, g6]) rfl (post7 (f := ⟨3, [], valL ((s.data.toList.drop k).takeWhile isDig), ((s.data.toList.drop k).takeWhile isDig).length, 0⟩) (Nat.le_refl _) (by omega) O1.out (fun _ => C1.out) _ _ _ _ _ _ _)
theorem skipA (a : ByteArray) (k : Nat) (s : ByteArray) (h : Lib.hasPrefix (s.data.toList.drop k) a.data.toList = true) : skipN (a.size : Int) k s = a.size := by
  have hl := hp_len h
  rw [List.length_drop, len_size, len_size] at hl
  unfold skipN; omega
set_option maxHeartbeats 400000 in
theorem take_yes (p c k : Nat) (s a : ByteArray) (w : World) (h : ScAt w p c s k) (hs : s.size ≤ maxLen) (hp : Lib.hasPrefix (s.data.toList.drop k) a.data.toList = true) :
    Calls Tryd.prog 67 #[.pointer (some ⟨p, 0, none⟩), .string a] w fun e w' => e = .returned (.bool true) ∧ CurAt w' c s (k + a.size) ∧ Only c w w' := by
  have hB := fun w1 hw => begins2 p c k s a w1 hw
  rw [hp] at hB
  have HB := Lib.hid hB
  have SK := Lib.hid (skipA a k s hp)
  have hl := hp_len hp
  rw [List.length_drop, len_size, len_size] at hl
  have H := Lib.hid h
  clear h hp hB
  go_enter Tryd.func67, Tryd.ntmps67
  go_wp2_with fail
  refine (HB.out _ H.out).mono ?_
  rintro e w1 ⟨rfl, b1⟩
  have H1 := Lib.hid (H.out.below b1)
  have O1 := Lib.hid (Only.ofBelow (b := c) b1 (Nat.le_refl _))
  have h01 := H1.out.c0
  clear b1
  go_wp2_with fail
  refine (skip_any c k (a.size : Int) s _ H1.out.cur hs).mono ?_
  rw [SK.out]
  rintro e w2 ⟨rfl, c2, o2⟩
  have C2 := Lib.hid c2
  have O2 := Lib.hid (O1.out.trans o2)
  clear c2 o2 h01
  go_wp2_with fail
  go_ret
  exact ⟨rfl, C2.out, O2.out⟩
set_option maxHeartbeats 400000 in
theorem take_no (p c k : Nat) (s a : ByteArray) (w : World) (h : ScAt w p c s k) (hp : Lib.hasPrefix (s.data.toList.drop k) a.data.toList = false) :
    Calls Tryd.prog 67 #[.pointer (some ⟨p, 0, none⟩), .string a] w fun e w' => e = .returned (.bool false) ∧ Below w.heap.size w w' := by
  have hB := fun w1 hw => begins2 p c k s a w1 hw
  rw [hp] at hB
  have HB := Lib.hid hB
  have H := Lib.hid h
  clear h hp hB
  go_enter Tryd.func67, Tryd.ntmps67
  go_wp2_with fail
  refine (HB.out _ H.out).mono ?_
  rintro e w1 ⟨rfl, b1⟩
  have B1 := Lib.hid b1
  clear b1
  go_wp2_with fail
  go_ret
  exact ⟨rfl, B1.out⟩
end Go.Proofs.YtjdmaindoohmkaaDoor.P
