/-
  Texts of this proof, put together.
-/
import Derived.Test.YtpcldpnaljheoaaGreatDoorZz2
import Derived.Laws.AppendOwn
import Derived.Maps.AppendAt
import Derived.OwnWalk
import Derived.Test.YtpcldpnaljheoaaGreatDoorZz1
import Derived.StillTailTactics
import Derived.Deep.RegionWith
import Derived.Deep.RegionHeld3
section
namespace Go.Proofs.YtpcldpnaljheoaaGreatDoor
open Go.RowKit Go.Deep

abbrev LS := List (List D) × RS
def namF (ts : List Tok) (E : RS → XS) (O : RS → LS) (nm : ByteArray) (s1 : RS) : XS :=
  if (takeT ts s1 brL).1 = ⟨#[40]⟩ then (mkE 7 0 nm noB (O (takeT ts s1 brL).2).1, (O (takeT ts s1 brL).2).2)
  else if (takeT ts s1 brL).1 = ⟨#[91]⟩ then (mkE 5 0 nm noB [(E (takeT ts s1 brL).2).1], needT ts (E (takeT ts s1 brL).2).2 [⟨#[93]⟩])
  else if (takeT ts s1 brL).1 = ⟨#[46]⟩ then (mkE 6 0 nm (needN ts (takeT ts s1 brL).2).1 [], (needN ts (takeT ts s1 brL).2).2)
  else (mkE 4 0 nm noB [], s1)
/-- What a call leaves that answers operands: they lie from B on. -/
def OPost (p g cap : Nat) (ts : List Tok) (l : LS) (B : Nat) (w : World) (e : Ending) (w' : World) : Prop :=
  ∃ a len c, e = .returned (.slice a len c) ∧ At (Mk (Bd p B) w') (.slice a len c) (.row l.1) ∧ (∀ z ∈ l.1, ShE z) ∧ Did p g cap ts l.2 w w'
theorem strs3 (p : Nat) (W : World) (hp : p < W.heap.size) : StrsAt p (W.alloc (.cells #[.string ⟨#[40]⟩, .string ⟨#[91]⟩, .string ⟨#[46]⟩] 9)).heap.size (W.alloc (.cells #[.string ⟨#[40]⟩, .string ⟨#[91]⟩, .string ⟨#[46]⟩] 9)) (some ⟨W.heap.size, 0, none⟩) 3 3 brL :=
  ⟨lit_strs W brL (by decide) (by decide), fun b o e => by injection e with e; injection e with e1 e2; subst e1; exact ⟨by omega, by simp⟩⟩
theorem text_le {ts : List Tok} {s : RS} (h : TsOk ts) : (cur ts s).text.size ≤ maxLen := by
  have he : (endT ts).text.size ≤ maxLen := by unfold endT; split <;> exact (show (ByteArray.mk #[]).size ≤ maxLen by decide)
  unfold cur
  split
  · cases hx : ts[s.k]? with
    | none => exact he
    | some t => have := h.txt t (List.mem_of_getElem? hx); exact Nat.le_trans this (by decide)
  · exact he
theorem needN_le {ts : List Tok} {s : RS} (h : TsOk ts) : (needN ts s).1.size ≤ maxLen := by
  unfold needN
  split
  · exact text_le h
  · show (ByteArray.mk #[]).size ≤ maxLen; decide
set_option maxRecDepth 100000 in
set_option maxHeartbeats 2000000 in
/-- A variable. -/
theorem named_var {p g cap : Nat} {ts : List Tok} {f x y z : Int} {s : RS} {w : World} (h : RdAt p g cap ts s w) (hG : Gl p w) (hk : (cur ts s).kind = 1) {t : ByteArray} {s2 : RS} (ht : takeT ts (stepS s) brL = (t, s2)) (hb40 : t ≠ ⟨#[40]⟩) (hb91 : t ≠ ⟨#[91]⟩) (hb46 : t ≠ ⟨#[46]⟩) :
    Calls Tryz.prog 194 #[xV p f x y z] w (XPost p g cap ts (mkE 4 0 (cur ts s).text noB [], s2) w.heap.size w) := by
  have I0 := Lib.hid (FrI.start h hG f x y z)
  have hpl := h.lt
  have hgl := h.toks.lt
  have hnm := text_le (s := s) h.ok
  have HN := Lib.hid (needN_any I0.out.did.rd)
  rw [show needN ts s = ((cur ts s).text, stepS s) from if_pos hk] at HN
  have HT := Lib.hid (fun (W : World) (I : FrI p g cap ts f x y z w.heap.size (stepS s) w W) => takeR_any (I.alloc (.cells #[.string ⟨#[40]⟩, .string ⟨#[91]⟩, .string ⟨#[46]⟩] 9)).did.rd (strs3 p W I.did.rd.lt).is)
  rw [ht] at HT
  have TSK := Lib.hid h.ok
  have b40 : (t.toList == [40]) = false := beqL_no hb40
  have b91 : (t.toList == [91]) = false := beqL_no hb91
  have b46 : (t.toList == [46]) = false := beqL_no hb46
  clear hb40 hb91 hb46
  clear h hG hk ht
  generalize (cur ts s).text = nm at HN hnm ⊢
  generalize stepS s = s1 at HN HT
  go_enter Tryz.func194, Tryz.ntmps194
  go_wp2_with fail
  refine HN.out.mono ?_
  rintro e w1 ⟨rfl, d1⟩
  have I1 := Lib.hid (I0.out.next d1)
  have bx1 := box_cells I1.out.bx
  have lx1 := heap_lt I1.out.bx
  clear d1
  go_wp2_with fail
  refine (HT.out _ I1.out).mono ?_
  rintro e w2 ⟨rfl, d2⟩
  have I2 := Lib.hid ((I1.out.alloc _).next d2)
  have bx2 := box_cells I2.out.bx
  have lx2 := heap_lt I2.out.bx
  have z2 : w.heap.size + 2 ≤ w2.heap.size := heap_lt I2.out.br
  clear d2
  have FN := Lib.hid (I2.out.fin hpl hgl (ExAt.leaf (Mk (Bd p w2.heap.size) w2) (op := 4) (n := 0) (nm := nm) (fd := noB) (by omega) (by omega) (by omega) (by omega) hnm (by decide)) z2)
  have bb := box_cells I2.out.br
  have ff : ∀ o, w2.frozen? ⟨w.heap.size + 1, o, none⟩ = false := fun o => by simp [World.frozen?, I2.out.br]
  go_wp2_with fail
  exact bodyPost_ret (v := exV 4 0 nm noB none 0 0) (results_cell (i := 2) (b := w.heap.size + 1) Tryz.results194 Tryz.isAgg25 Tryz.sizeOf25 rfl rfl FN.out.1) rfl ⟨_, _, _, _, _, _, _, rfl, FN.out.2.1, FN.out.2.2⟩
set_option maxRecDepth 100000 in
set_option maxHeartbeats 2000000 in
/-- A field. -/
theorem named_field {p g cap : Nat} {ts : List Tok} {f x y z : Int} {s : RS} {w : World} (h : RdAt p g cap ts s w) (hG : Gl p w) (hk : (cur ts s).kind = 1) {t : ByteArray} {s2 : RS} (ht : takeT ts (stepS s) brL = (t, s2)) (hb : t = ⟨#[46]⟩) :
    Calls Tryz.prog 194 #[xV p f x y z] w (XPost p g cap ts (mkE 6 0 (cur ts s).text (needN ts s2).1 [], (needN ts s2).2) w.heap.size w) := by
  have I0 := Lib.hid (FrI.start h hG f x y z)
  have hpl := h.lt
  have hgl := h.toks.lt
  have hnm := text_le (s := s) h.ok
  have HN := Lib.hid (needN_any I0.out.did.rd)
  rw [show needN ts s = ((cur ts s).text, stepS s) from if_pos hk] at HN
  have HT := Lib.hid (fun (W : World) (I : FrI p g cap ts f x y z w.heap.size (stepS s) w W) => takeR_any (I.alloc (.cells #[.string ⟨#[40]⟩, .string ⟨#[91]⟩, .string ⟨#[46]⟩] 9)).did.rd (strs3 p W I.did.rd.lt).is)
  rw [ht] at HT
  have TSK := Lib.hid h.ok
  have HN2 := Lib.hid (fun (W : World) (RR : RdAt p g cap ts s2 W) => needN_any RR)
  have hfd := needN_le (s := s2) h.ok
  have b40 : (t.toList == [40]) = false := beqL_no (by rw [hb]; decide)
  have b91 : (t.toList == [91]) = false := beqL_no (by rw [hb]; decide)
  have b46 : (t.toList == [46]) = true := beqL_yes hb
  clear hb
  generalize needN ts s2 = r at HN2 hfd ⊢
  clear h hG hk ht
  generalize (cur ts s).text = nm at HN hnm ⊢
  generalize stepS s = s1 at HN HT
  go_enter Tryz.func194, Tryz.ntmps194
  go_wp2_with fail
  refine HN.out.mono ?_
  rintro e w1 ⟨rfl, d1⟩
  have I1 := Lib.hid (I0.out.next d1)
  have bx1 := box_cells I1.out.bx
  have lx1 := heap_lt I1.out.bx
  clear d1
  go_wp2_with fail
  refine (HT.out _ I1.out).mono ?_
  rintro e w2 ⟨rfl, d2⟩
  have I2 := Lib.hid ((I1.out.alloc _).next d2)
  have bx2 := box_cells I2.out.bx
  have lx2 := heap_lt I2.out.bx
  have z2 : w.heap.size + 2 ≤ w2.heap.size := heap_lt I2.out.br
  clear d2
  go_wp2_with fail
  refine (HN2.out _ I2.out.did.rd).mono ?_
  rintro e w3 ⟨rfl, d3⟩
  have I3 := Lib.hid (I2.out.next d3)
  clear d3
  have FN := Lib.hid (I3.out.fin hpl hgl (ExAt.leaf (Mk (Bd p w2.heap.size) w3) (op := 6) (n := 0) (nm := nm) (fd := r.1) (by omega) (by omega) (by omega) (by omega) hnm hfd) z2)
  have bb := box_cells I3.out.br
  have ff : ∀ o, w3.frozen? ⟨w.heap.size + 1, o, none⟩ = false := fun o => by simp [World.frozen?, I3.out.br]
  go_wp2_with fail
  exact bodyPost_ret (v := exV 6 0 nm r.1 none 0 0) (results_cell (i := 2) (b := w.heap.size + 1) Tryz.results194 Tryz.isAgg25 Tryz.sizeOf25 rfl rfl FN.out.1) rfl ⟨_, _, _, _, _, _, _, rfl, FN.out.2.1, FN.out.2.2⟩
set_option maxRecDepth 100000 in
set_option maxHeartbeats 2000000 in
/-- A call. -/
theorem named_call {p g cap : Nat} {ts : List Tok} {f x y z : Int} {s : RS} {w : World} (h : RdAt p g cap ts s w) (hG : Gl p w) (hk : (cur ts s).kind = 1) {t : ByteArray} {s2 : RS} (ht : takeT ts (stepS s) brL = (t, s2)) (hb : t = ⟨#[40]⟩) {R : LS} (hO : ∀ W : World, RdAt p g cap ts s2 W → Gl p W → Calls Tryz.prog 208 #[xV p f x y z] W (OPost p g cap ts R W.heap.size W)) :
    Calls Tryz.prog 194 #[xV p f x y z] w (XPost p g cap ts (mkE 7 0 (cur ts s).text noB R.1, R.2) w.heap.size w) := by
  have I0 := Lib.hid (FrI.start h hG f x y z)
  have hpl := h.lt
  have hgl := h.toks.lt
  have hnm := text_le (s := s) h.ok
  have HN := Lib.hid (needN_any I0.out.did.rd)
  rw [show needN ts s = ((cur ts s).text, stepS s) from if_pos hk] at HN
  have HT := Lib.hid (fun (W : World) (I : FrI p g cap ts f x y z w.heap.size (stepS s) w W) => takeR_any (I.alloc (.cells #[.string ⟨#[40]⟩, .string ⟨#[91]⟩, .string ⟨#[46]⟩] 9)).did.rd (strs3 p W I.did.rd.lt).is)
  rw [ht] at HT
  have TSK := Lib.hid h.ok
  have HO := Lib.hid hO
  have b40 : (t.toList == [40]) = true := beqL_yes hb
  have b91 : (t.toList == [91]) = false := beqL_no (by rw [hb]; decide)
  have b46 : (t.toList == [46]) = false := beqL_no (by rw [hb]; decide)
  clear hb hO
  clear h hG hk ht
  generalize (cur ts s).text = nm at HN hnm ⊢
  generalize stepS s = s1 at HN HT
  go_enter Tryz.func194, Tryz.ntmps194
  go_wp2_with fail
  refine HN.out.mono ?_
  rintro e w1 ⟨rfl, d1⟩
  have I1 := Lib.hid (I0.out.next d1)
  have bx1 := box_cells I1.out.bx
  have lx1 := heap_lt I1.out.bx
  clear d1
  go_wp2_with fail
  refine (HT.out _ I1.out).mono ?_
  rintro e w2 ⟨rfl, d2⟩
  have I2 := Lib.hid ((I1.out.alloc _).next d2)
  have bx2 := box_cells I2.out.bx
  have lx2 := heap_lt I2.out.bx
  have z2 : w.heap.size + 2 ≤ w2.heap.size := heap_lt I2.out.br
  clear d2
  go_wp2_with fail
  refine (HO.out _ I2.out.did.rd I2.out.gl).mono ?_
  rintro e w3 ⟨oa, ol, oc, rfl, hat, hsh, d3⟩
  have I3 := Lib.hid (I2.out.next d3)
  have HA := Lib.hid hat
  have HS := Lib.hid hsh
  clear d3 hat hsh
  have FN := Lib.hid (I3.out.fin hpl hgl (ExAt.over (op := 7) (n := 0) (nm := nm) (fd := noB) HA.out HS.out (by omega) (by omega) (by omega) (by omega) hnm (by decide)) z2)
  have bb := box_cells I3.out.br
  have ff : ∀ o, w3.frozen? ⟨w.heap.size + 1, o, none⟩ = false := fun o => by simp [World.frozen?, I3.out.br]
  go_wp2_with fail
  exact bodyPost_ret (v := exV 7 0 nm noB oa ol oc) (results_cell (i := 2) (b := w.heap.size + 1) Tryz.results194 Tryz.isAgg25 Tryz.sizeOf25 rfl rfl FN.out.1) rfl ⟨_, _, _, _, _, _, _, rfl, FN.out.2.1, FN.out.2.2⟩
set_option maxRecDepth 100000 in
set_option maxHeartbeats 2000000 in
/-- An element. -/
theorem named_index {p g cap : Nat} {ts : List Tok} {f x y z : Int} {s : RS} {w : World} (h : RdAt p g cap ts s w) (hG : Gl p w) (hk : (cur ts s).kind = 1) {t : ByteArray} {s2 : RS} (ht : takeT ts (stepS s) brL = (t, s2)) (hb : t = ⟨#[91]⟩) {R : XS} (hE : ∀ W : World, RdAt p g cap ts s2 W → Gl p W → Calls Tryz.prog 46 #[xV p f x y z] W (XPost p g cap ts R W.heap.size W)) :
    Calls Tryz.prog 194 #[xV p f x y z] w (XPost p g cap ts (mkE 5 0 (cur ts s).text noB [R.1], needT ts R.2 [⟨#[93]⟩]) w.heap.size w) := by
  have I0 := Lib.hid (FrI.start h hG f x y z)
  have hpl := h.lt
  have hgl := h.toks.lt
  have hnm := text_le (s := s) h.ok
  have HN := Lib.hid (needN_any I0.out.did.rd)
  rw [show needN ts s = ((cur ts s).text, stepS s) from if_pos hk] at HN
  have HT := Lib.hid (fun (W : World) (I : FrI p g cap ts f x y z w.heap.size (stepS s) w W) => takeR_any (I.alloc (.cells #[.string ⟨#[40]⟩, .string ⟨#[91]⟩, .string ⟨#[46]⟩] 9)).did.rd (strs3 p W I.did.rd.lt).is)
  rw [ht] at HT
  have TSK := Lib.hid h.ok
  have HE := Lib.hid hE
  have HND := Lib.hid (fun (W : World) (RR : RdAt p g cap ts R.2 (W.alloc (.cells #[.string ⟨#[93]⟩] 9))) (hp : p < W.heap.size) => needR_any RR (strs1 p W ⟨#[93]⟩ (by decide) hp).is (fun h => absurd (List.mem_singleton.1 h) (by decide)))
  have b40 : (t.toList == [40]) = false := beqL_no (by rw [hb]; decide)
  have b91 : (t.toList == [91]) = true := beqL_yes hb
  have b46 : (t.toList == [46]) = false := beqL_no (by rw [hb]; decide)
  clear hb hE
  generalize needT ts R.2 [⟨#[93]⟩] = s6 at HND ⊢
  clear h hG hk ht
  generalize (cur ts s).text = nm at HN hnm ⊢
  generalize stepS s = s1 at HN HT
  go_enter Tryz.func194, Tryz.ntmps194
  go_wp2_with fail
  refine HN.out.mono ?_
  rintro e w1 ⟨rfl, d1⟩
  have I1 := Lib.hid (I0.out.next d1)
  have bx1 := box_cells I1.out.bx
  have lx1 := heap_lt I1.out.bx
  clear d1
  go_wp2_with fail
  refine (HT.out _ I1.out).mono ?_
  rintro e w2 ⟨rfl, d2⟩
  have I2 := Lib.hid ((I1.out.alloc _).next d2)
  have bx2 := box_cells I2.out.bx
  have lx2 := heap_lt I2.out.bx
  have z2 : w.heap.size + 2 ≤ w2.heap.size := heap_lt I2.out.br
  clear d2
  go_wp2_with fail
  refine (HE.out _ I2.out.did.rd I2.out.gl).mono ?_
  rintro e w5 ⟨op5, k5, nm5, fd5, a5, len5, c5, rfl, x5, d5⟩
  have I5 := Lib.hid (I2.out.next d5)
  have z5 := d5.onl.size
  have IE := Lib.hid (I5.out.alloc (.cells (exC op5 k5 nm5 fd5 a5 len5 c5) 25))
  have E5 := Lib.hid (heap_new w5 (.cells (exC op5 k5 nm5 fd5 a5 len5 c5) 25))
  have X5 := Lib.hid ((x5.sub (mk_onl (.inl rfl) ((Onl.refl p w5).alloc (.cells (exC op5 k5 nm5 fd5 a5 len5 c5) 25)))).sub (mk_onl (.inl rfl) ((Onl.refl p _).alloc (.cells #[.string ⟨#[93]⟩] 9))))
  have bx5 := box_cells I5.out.bx
  have lx5 := heap_lt I5.out.bx
  have hp5 := I5.out.did.rd.lt
  have hnd := HND.out (w5.alloc (.cells (exC op5 k5 nm5 fd5 a5 len5 c5) 25)) (IE.out.alloc _).did.rd IE.out.did.rd.lt
  rw [show (w5.alloc (.cells (exC op5 k5 nm5 fd5 a5 len5 c5) 25)).heap.size = w5.heap.size + 1 by simp] at hnd
  have HN5 := Lib.hid hnd
  clear hnd x5 d5
  go_wp2_with fail
  refine HN5.out.mono ?_
  rintro e w6 ⟨⟨v6, rfl⟩, d6⟩
  have I6 := Lib.hid ((IE.out.alloc (.cells #[.string ⟨#[93]⟩] 9)).next d6)
  have hq : w5.heap.size ≠ p := by omega
  have E6 := (d6.onl.block _ hq (by simp; omega)).trans ((((Below.refl _ _).alloc (Nat.le_refl _) (.cells #[.string ⟨#[93]⟩] 9)).block _ (heap_lt E5.out)).trans E5.out)
  have X6 := X5.out.sub (mk_onl (P := Bd p w2.heap.size) (.inl rfl) d6.onl)
  have z6 : w5.heap.size < w6.heap.size := heap_lt E6
  have hp6 := I6.out.did.rd.lt
  have I7 := Lib.hid (I6.out.alloc (.cells #[.int .i64 op5, .int .i64 k5, .string nm5, .string fd5, .slice a5 len5 c5] 25))
  have hrw := row1_at (P := Bd p w2.heap.size) (heap_new w6 (.cells #[.int .i64 op5, .int .i64 k5, .string nm5, .string fd5, .slice a5 len5 c5] 25)) (by rintro (h | h) <;> omega) (X6.sub (mk_onl (.inl rfl) ((Onl.refl p w6).alloc _))).1
  have HW := Lib.hid hrw
  have HX := Lib.hid X6.2
  have be6 := box_cells E6
  have le6 := heap_lt E6
  have fn := (I7.out.fin hpl hgl (ExAt.over (op := 5) (n := 0) (nm := nm) (fd := noB) HW.out (by
    intro z hz
    obtain rfl := List.mem_singleton.1 hz
    exact HX.out) (by omega) (by omega) (by omega) (by omega) hnm (by decide)) z2)
  have bb := box_cells I6.out.br
  have ff : ∀ o, w6.frozen? ⟨w.heap.size + 1, o, none⟩ = false := fun o => by simp [World.frozen?, I6.out.br]
  have lr := heap_lt I6.out.br
  have hc : ((((((w6.alloc (.cells #[.int .i64 op5, .int .i64 k5, .string nm5, .string fd5, .slice a5 len5 c5] 25)).setCell ⟨w.heap.size + 1, 0, none⟩ (.int .i64 5)).setCell ⟨w.heap.size + 1, 1, none⟩ (.int .i64 0)).setCell ⟨w.heap.size + 1, 2, none⟩ (.string nm)).setCell ⟨w.heap.size + 1, 3, none⟩ (.string ⟨#[]⟩)).setCell ⟨w.heap.size + 1, 4, none⟩ (.slice (some ⟨w6.heap.size, 0, none⟩) 1 1)) = (((((w6.setCell ⟨w.heap.size + 1, 0, none⟩ (.int .i64 5)).setCell ⟨w.heap.size + 1, 1, none⟩ (.int .i64 0)).setCell ⟨w.heap.size + 1, 2, none⟩ (.string nm)).setCell ⟨w.heap.size + 1, 3, none⟩ (.string ⟨#[]⟩)).setCell ⟨w.heap.size + 1, 4, none⟩ (.slice (some ⟨w6.heap.size, 0, none⟩) 1 1)).alloc (.cells #[.int .i64 op5, .int .i64 k5, .string nm5, .string fd5, .slice a5 len5 c5] 25) := by simp [go_sem, lr]
  unfold noB at fn
  rw [hc] at fn
  have FN := Lib.hid fn
  clear d6 E6 hq X6 hrw z5 z6 hc fn
  go_wp2_with fail
  exact bodyPost_ret (v := exV 5 0 nm noB (some ⟨w6.heap.size, 0, none⟩) 1 1) (results_cell (i := 2) (b := w.heap.size + 1) Tryz.results194 Tryz.isAgg25 Tryz.sizeOf25 rfl rfl FN.out.1) rfl ⟨_, _, _, _, _, _, _, rfl, FN.out.2.1, FN.out.2.2⟩
end Go.Proofs.YtpcldpnaljheoaaGreatDoor
end
section
namespace Go.Proofs.YtpcldpnaljheoaaGreatDoor
open Go.RowKit Go.Deep

/-- A reader's function: its box, its result's. -/
structure FrE (p g cap : Nat) (ts : List Tok) (f x y z : Int) (b : Nat) (s : RS) (w W : World) : Prop where
  did : Did p g cap ts s w W
  gl : Gl p W
  bx : W.heap[b]? = some (.cells (xC p f x y z) 90)
  br : W.heap[b + 1]? = some (.cells (exC 0 0 ⟨#[]⟩ ⟨#[]⟩ none 0 0) 25)
  nb : b ≠ p ∧ b + 1 ≠ p
theorem FrE.next {p g cap : Nat} {ts : List Tok} {f x y z : Int} {b : Nat} {s s1 : RS} {w W W1 : World} (h : FrE p g cap ts f x y z b s w W) (d : Did p g cap ts s1 W W1) : FrE p g cap ts f x y z b s1 w W1 :=
  ⟨h.did.trans d, h.gl.onl d.onl, (d.onl.block _ h.nb.1 (heap_lt h.bx)).trans h.bx, (d.onl.block _ h.nb.2 (heap_lt h.br)).trans h.br, h.nb⟩
theorem FrE.below {p g cap : Nat} {ts : List Tok} {f x y z : Int} {b : Nat} {s : RS} {w W W1 : World} (h : FrE p g cap ts f x y z b s w W) (d : Below W.heap.size W W1) : FrE p g cap ts f x y z b s w W1 := h.next (Did.of h.did.rd d)
theorem FrE.drew {p g cap : Nat} {ts : List Tok} {f x y z : Int} {b : Nat} {s : RS} {w W : World} (h : FrE p g cap ts f x y z b s w W) : FrE p g cap ts f x y z b s w W.drew := h.below (below_drew0 (Below.refl _ _))
theorem FrE.alloc {p g cap : Nat} {ts : List Tok} {f x y z : Int} {b : Nat} {s : RS} {w W : World} (h : FrE p g cap ts f x y z b s w W) (o : Obj) : FrE p g cap ts f x y z b s w (W.alloc o) := h.below ((Below.refl _ _).alloc (Nat.le_refl _) o)
theorem FrE.start {p g cap : Nat} {ts : List Tok} {s : RS} {w : World} (h : RdAt p g cap ts s w) (hG : Gl p w) (f x y z : Int) :
    FrE p g cap ts f x y z w.heap.size s w ((w.alloc (.cells (xC p f x y z) 90)).alloc (.cells (exC 0 0 ⟨#[]⟩ ⟨#[]⟩ none 0 0) 25)) := by
  have B0 := ((Below.refl w.heap.size w).alloc (Nat.le_refl _) (.cells (xC p f x y z) 90)).alloc (by simp) (.cells (exC 0 0 ⟨#[]⟩ ⟨#[]⟩ none 0 0) 25)
  have hpl := h.lt
  refine ⟨Did.of h B0, hG.onl (Onl.of B0 (Nat.le_refl _)), ?_, ?_, by omega, by omega⟩
  · exact (((Below.refl (w.heap.size + 1) (w.alloc (.cells (xC p f x y z) 90))).alloc (by simp) (.cells (exC 0 0 ⟨#[]⟩ ⟨#[]⟩ none 0 0) 25)).block w.heap.size (by omega)).trans (heap_new w _)
  · have e1 := heap_new (w.alloc (.cells (xC p f x y z) 90)) (.cells (exC 0 0 ⟨#[]⟩ ⟨#[]⟩ none 0 0) 25)
    simpa using e1
/-- What is stored as the result. -/
theorem FrE.fin {p g cap : Nat} {ts : List Tok} {f x y z : Int} {s : RS} {w W : World} (h : FrE p g cap ts f x y z w.heap.size s w W) (hp : p < w.heap.size) (hg : g < w.heap.size)
    {u : List D} {B : Nat} {op k : Int} {nm fd : ByteArray} {a : Option Addr} {len c : Nat} (hu : ExAt (Mk (Bd p B) W) u op k nm fd a len c) (hB : w.heap.size + 2 ≤ B) :
    (((((W.setCell ⟨w.heap.size + 1, 0, none⟩ (.int .i64 op)).setCell ⟨w.heap.size + 1, 1, none⟩ (.int .i64 k)).setCell ⟨w.heap.size + 1, 2, none⟩ (.string nm)).setCell ⟨w.heap.size + 1, 3, none⟩ (.string fd)).setCell ⟨w.heap.size + 1, 4, none⟩ (.slice a len c)).heap[w.heap.size + 1]? = some (.cells (exC op k nm fd a len c) 25) ∧ ExAt (Mk (Bd p w.heap.size) (((((W.setCell ⟨w.heap.size + 1, 0, none⟩ (.int .i64 op)).setCell ⟨w.heap.size + 1, 1, none⟩ (.int .i64 k)).setCell ⟨w.heap.size + 1, 2, none⟩ (.string nm)).setCell ⟨w.heap.size + 1, 3, none⟩ (.string fd)).setCell ⟨w.heap.size + 1, 4, none⟩ (.slice a len c))) u op k nm fd a len c ∧ Did p g cap ts s w (((((W.setCell ⟨w.heap.size + 1, 0, none⟩ (.int .i64 op)).setCell ⟨w.heap.size + 1, 1, none⟩ (.int .i64 k)).setCell ⟨w.heap.size + 1, 2, none⟩ (.string nm)).setCell ⟨w.heap.size + 1, 3, none⟩ (.string fd)).setCell ⟨w.heap.size + 1, 4, none⟩ (.slice a len c)) := by
  have hm : ∀ W : World, ∀ o : Nat, ∀ v : Value, Sub (Mk (Bd p B) W) (Mk (Bd p B) (W.setCell ⟨w.heap.size + 1, o, none⟩ v)) := fun W o v => mk_set (.inr (by omega)) W v
  exact ⟨(heap_setC (o := 4) (heap_setC (o := 3) (heap_setC (o := 2) (heap_setC (o := 1) (heap_setC (o := 0) h.br (.int .i64 op)) (.int .i64 k)) (.string nm)) (.string fd)) (.slice a len c)), ((((((hu.sub (hm _ _ _)).sub (hm _ _ _)).sub (hm _ _ _)).sub (hm _ _ _)).sub (hm _ _ _))).sub (mk_weak (P' := Bd p w.heap.size) _ (by rintro k (h | h); exact .inl h; exact .inr (by omega))), (((((h.did.own hp hg (by omega) (q := w.heap.size + 1) (o := 0) (.int .i64 op)).own hp hg (by omega) (q := w.heap.size + 1) (o := 1) (.int .i64 k)).own hp hg (by omega) (q := w.heap.size + 1) (o := 2) (.string nm)).own hp hg (by omega) (q := w.heap.size + 1) (o := 3) (.string fd)).own hp hg (by omega) (q := w.heap.size + 1) (o := 4) (.slice a len c))⟩
theorem FrE.set {p g cap : Nat} {ts : List Tok} {f x y z : Int} {s : RS} {w W : World} (h : FrE p g cap ts f x y z w.heap.size s w W) (hp : p < w.heap.size) (hg : g < w.heap.size) {q o : Nat} (hq : w.heap.size + 2 ≤ q) (v : Value) : FrE p g cap ts f x y z w.heap.size s w (W.setCell ⟨q, o, none⟩ v) :=
  ⟨h.did.own hp hg (by omega) v, h.gl.set (by omega) v, (Below.heap_setCell _ _ _ _ (by show w.heap.size ≠ q; omega)).trans h.bx, (Below.heap_setCell _ _ _ _ (by show w.heap.size + 1 ≠ q; omega)).trans h.br, h.nb⟩
set_option maxRecDepth 100000 in
set_option maxHeartbeats 2000000 in
theorem const_int {p g cap : Nat} {ts : List Tok} {f x y z : Int} {s : RS} {w : World} (h : RdAt p g cap ts s w) (hG : Gl p w) (hk : (cur ts s).kind = 3) :
    Calls Tryz.prog 195 #[xV p f x y z] w (XPost p g cap ts (mkE 1 ((cur ts s).n : Int) noB noB [], stepS s) w.heap.size w) := by
  have I0 := Lib.hid (FrE.start h hG f x y z)
  have hpl := h.lt
  have hgl := h.toks.lt
  have HK3 := Lib.hid (takeK_any I0.out.did.rd 3 (by decide))
  have hm : (cur ts s).n ≤ 9223372036854775807 := h.ok.num _ (List.mem_of_getElem? (cur_k (ts := ts) (s := s) (by omega)).2.2)
  unfold takeK tokK at HK3
  rw [if_pos hk, if_pos hk, show decide ((cur ts s).kind = 3) = true by simpa using hk] at HK3
  clear h hG hk
  generalize cur ts s = tk at HK3 hm ⊢
  generalize stepS s = s1 at HK3 ⊢
  go_enter Tryz.func195, Tryz.ntmps195
  go_wp2_with fail
  refine HK3.out.mono ?_
  rintro e w1 ⟨rfl, d1⟩
  rw [tokV_eq]
  have I1 := Lib.hid (I0.out.next d1)
  have I2 := Lib.hid (I1.out.alloc (.cells (tokA tk) 50))
  have z1 : w.heap.size + 2 ≤ w1.heap.size := heap_lt I1.out.br
  have fn := I1.out.fin hpl hgl (ExAt.leaf (Mk (Bd p w1.heap.size) w1) (op := 1) (n := (tk.n : Int)) (nm := noB) (fd := noB) (by omega) (by omega) (by omega) (by omega) (by decide) (by decide)) z1
  unfold noB at fn
  have FN := Lib.hid (And.intro ((((Below.refl _ _).alloc (Nat.le_refl _) (.cells (tokA tk) 50)).block _ (heap_lt fn.1)).trans fn.1) (And.intro (fn.2.1.sub (mk_step (by simp) fun k hk _ => ((Below.refl _ _).alloc (Nat.le_refl _) (.cells (tokA tk) 50)).block k hk)) (fn.2.2.alloc (.cells (tokA tk) 50))))
  have bb := box_cells I1.out.br
  have lb := heap_lt I1.out.br
  have ff : ∀ o, w1.frozen? ⟨w.heap.size + 1, o, none⟩ = false := fun o => by simp [World.frozen?, I1.out.br]
  clear d1 fn
  go_wp2_with fail
  exact bodyPost_ret (v := exV 1 (tk.n : Int) noB noB none 0 0) (results_cell (i := 2) (b := w.heap.size + 1) Tryz.results195 Tryz.isAgg25 Tryz.sizeOf25 rfl rfl FN.out.1) rfl ⟨_, _, _, _, _, _, _, rfl, FN.out.2.1, FN.out.2.2⟩
set_option maxRecDepth 100000 in
set_option maxHeartbeats 2000000 in
theorem const_chr {p g cap : Nat} {ts : List Tok} {f x y z : Int} {s : RS} {w : World} (h : RdAt p g cap ts s w) (hG : Gl p w) (hk : (cur ts s).kind = 4) :
    Calls Tryz.prog 195 #[xV p f x y z] w (XPost p g cap ts (mkE 3 ((cur ts s).n : Int) noB noB [], stepS s) w.heap.size w) := by
  have I0 := Lib.hid (FrE.start h hG f x y z)
  have hpl := h.lt
  have hgl := h.toks.lt
  have hk3 : (cur ts s).kind ≠ 3 := by omega
  have HK3 := Lib.hid (takeK_any I0.out.did.rd 3 (by decide))
  unfold takeK tokK at HK3
  rw [if_neg hk3, if_neg hk3, show decide ((cur ts s).kind = 3) = false by simpa using hk3] at HK3
  have HK4 := Lib.hid (fun (W : World) (RR : RdAt p g cap ts s W) => by
    have := takeK_any RR 4 (by decide)
    unfold takeK tokK at this
    rw [if_pos hk, if_pos hk, show decide ((cur ts s).kind = 4) = true by simpa using hk] at this
    exact this)
  have hm : (cur ts s).n ≤ 9223372036854775807 := h.ok.num _ (List.mem_of_getElem? (cur_k (ts := ts) (s := s) (by omega)).2.2)
  clear h hG hk hk3
  generalize cur ts s = tk at HK4 hm ⊢
  generalize stepS s = s1 at HK4 ⊢
  go_enter Tryz.func195, Tryz.ntmps195
  go_wp2_with fail
  refine HK3.out.mono ?_
  rintro e w0 ⟨rfl, d0⟩
  rw [tokV_eq]
  have IA := Lib.hid ((I0.out.next d0).alloc (.cells #[.int .i64 0, .string ⟨#[]⟩, .int .i64 0, .bool false, .int .i64 0, .int .i64 0, .int .i64 0] 50))
  have bxA := box_cells IA.out.bx
  have lxA := heap_lt IA.out.bx
  clear d0
  go_wp2_with fail
  refine (HK4.out _ IA.out.did.rd).mono ?_
  rintro e w1 ⟨rfl, d1⟩
  rw [tokV_eq]
  have I1 := Lib.hid (IA.out.next d1)
  have z1 : w.heap.size + 2 ≤ w1.heap.size := heap_lt I1.out.br
  have fn := I1.out.fin hpl hgl (ExAt.leaf (Mk (Bd p w1.heap.size) w1) (op := 3) (n := (tk.n : Int)) (nm := noB) (fd := noB) (by omega) (by omega) (by omega) (by omega) (by decide) (by decide)) z1
  unfold noB at fn
  have FN := Lib.hid (And.intro ((((Below.refl _ _).alloc (Nat.le_refl _) (.cells (tokA tk) 50)).block _ (heap_lt fn.1)).trans fn.1) (And.intro (fn.2.1.sub (mk_step (by simp) fun k hk _ => ((Below.refl _ _).alloc (Nat.le_refl _) (.cells (tokA tk) 50)).block k hk)) (fn.2.2.alloc (.cells (tokA tk) 50))))
  have bb := box_cells I1.out.br
  have lb := heap_lt I1.out.br
  have ff : ∀ o, w1.frozen? ⟨w.heap.size + 1, o, none⟩ = false := fun o => by simp [World.frozen?, I1.out.br]
  clear d1 fn
  go_wp2_with fail
  exact bodyPost_ret (v := exV 3 (tk.n : Int) noB noB none 0 0) (results_cell (i := 2) (b := w.heap.size + 1) Tryz.results195 Tryz.isAgg25 Tryz.sizeOf25 rfl rfl FN.out.1) rfl ⟨_, _, _, _, _, _, _, rfl, FN.out.2.1, FN.out.2.2⟩
theorem idx0 (w : World) : (Instr.index 148 (.agg #[.string ⟨#[102, 97, 108, 115, 101]⟩, .string ⟨#[116, 114, 117, 101]⟩]) (.int .i64 0)).run Tryz.prog w = .ok (.string ⟨#[102, 97, 108, 115, 101]⟩) w := by kernel_rfl
theorem idx1 (w : World) : (Instr.index 148 (.agg #[.string ⟨#[102, 97, 108, 115, 101]⟩, .string ⟨#[116, 114, 117, 101]⟩]) (.int .i64 1)).run Tryz.prog w = .ok (.string ⟨#[116, 114, 117, 101]⟩) w := by kernel_rfl
set_option maxRecDepth 100000 in
set_option maxHeartbeats 2000000 in
theorem const_more {p g cap : Nat} {ts : List Tok} {f x y z : Int} {s : RS} {w : World} (h : RdAt p g cap ts s w) (hG : Gl p w) (hk3 : (cur ts s).kind ≠ 3) (hk4 : (cur ts s).kind ≠ 4) :
    Calls Tryz.prog 195 #[xV p f x y z] w (XPost p g cap ts (if isT ts s [falseB] = true then (mkE 2 0 noB noB [], stepS s) else if isT ts s [trueB] = true then (mkE 2 1 noB noB [], stepS s) else (e0, refuseS ts s)) w.heap.size w) := by
  have I0 := Lib.hid (FrE.start h hG f x y z)
  have hpl := h.lt
  have hgl := h.toks.lt
  have HK3 := Lib.hid (takeK_any I0.out.did.rd 3 (by decide))
  unfold takeK tokK at HK3
  rw [if_neg hk3, if_neg hk3, show decide ((cur ts s).kind = 3) = false by simpa using hk3] at HK3
  have HK4 := Lib.hid (fun (W : World) (RR : RdAt p g cap ts s W) => by
    have := takeK_any RR 4 (by decide)
    unfold takeK tokK at this
    rw [if_neg hk4, if_neg hk4, show decide ((cur ts s).kind = 4) = false by simpa using hk4] at this
    exact this)
  generalize hR : (if isT ts s [falseB] = true then (mkE 2 0 noB noB [], stepS s) else if isT ts s [trueB] = true then (mkE 2 1 noB noB [], stepS s) else (e0, refuseS ts s)) = R
  have HR := Lib.hid hR
  clear h hG hk3 hk4 hR
  go_enter Tryz.func195, Tryz.ntmps195
  go_wp2_with fail
  refine HK3.out.mono ?_
  rintro e w0 ⟨rfl, d0⟩
  rw [tokV_eq]
  have IA := Lib.hid ((I0.out.next d0).alloc (.cells #[.int .i64 0, .string ⟨#[]⟩, .int .i64 0, .bool false, .int .i64 0, .int .i64 0, .int .i64 0] 50))
  have bxA := box_cells IA.out.bx
  have lxA := heap_lt IA.out.bx
  clear d0
  go_wp2_with fail
  refine (HK4.out _ IA.out.did.rd).mono ?_
  rintro e w1 ⟨rfl, d1⟩
  rw [tokV_eq]
  have I1 := Lib.hid ((IA.out.next d1).alloc (.cells #[.int .i64 0, .string ⟨#[]⟩, .int .i64 0, .bool false, .int .i64 0, .int .i64 0, .int .i64 0] 50))
  have g1 := (IA.out.next d1).gl
  have t0 := g1.tr0
  have t1 := g1.tr1
  have gl2 : 1 < w1.heap.size := by have := g1.lo; have := g1.hi; omega
  clear d1 g1
  unfold falseB at t0
  unfold trueB at t1
  go_wp2_with fail
  generalize w1.alloc (.cells #[.int .i64 0, .string ⟨#[]⟩, .int .i64 0, .bool false, .int .i64 0, .int .i64 0, .int .i64 0] 50) = W1 at I1 ⊢
  go_loopw [30] (fun v wr => ∃ k : Nat, v = .int .i64 (k : Nat) ∧ k ≤ 2 ∧ FrE p g cap ts f x y z w.heap.size s w wr ∧ (1 ≤ k → isT ts s [falseB] = false) ∧ (2 ≤ k → isT ts s [trueB] = false)) (fun v _ => 2 - (intOf v).toNat)
  case atStart => exact ⟨0, rfl, by omega, I1.out, fun h => absurd h (by decide), fun h => absurd h (by decide)⟩
  case round =>
    obtain ⟨k, rfl, hk2, hI, hf, ht⟩ := hrel
    have I := Lib.hid hI
    have HF := Lib.hid hf
    have HTT := Lib.hid ht
    have bx := box_cells hI.bx
    have lx := heap_lt hI.bx
    clear hI hf ht t0 t1 gl2
    have i0 := idx0
    have i1 := idx1
    rcases (by omega : k = 0 ∨ k = 1 ∨ k = 2) with rfl | rfl | rfl
    · have HT := Lib.hid (takeR_any (I.out.alloc (.cells #[.string falseB] 9)).did.rd (strs1 p _ falseB (by decide) I.out.did.rd.lt).is)
      cases hi : isT ts s [falseB] with
      | true =>
        obtain rfl : R = (mkE 2 0 noB noB [], stepS s) := by
          rw [← HR.out]
          rw [if_pos hi]
        have hne := text_ne (fun h => absurd (List.mem_singleton.1 h) (by decide)) hi
        have HTY := HT
        rw [takeT_yes hi] at HTY
        generalize cur ts s = tk at HTY hne
        clear hi HT
        go_wp2_with fail
        refine HTY.out.mono ?_
        rintro e w2 ⟨rfl, d2⟩
        have I2 := Lib.hid ((I.out.alloc _).next d2)
        have z2 : w.heap.size + 2 ≤ w2.heap.size := heap_lt I2.out.br
        have FN := Lib.hid (I2.out.fin hpl hgl (ExAt.leaf (Mk (Bd p w2.heap.size) w2) (op := 2) (n := 0) (nm := noB) (fd := noB) (by omega) (by omega) (by omega) (by omega) (by decide) (by decide)) z2)
        have bb := box_cells I2.out.br
        have ff : ∀ o, w2.frozen? ⟨w.heap.size + 1, o, none⟩ = false := fun o => by simp [World.frozen?, I2.out.br]
        clear d2
        go_wp2_with fail
        exact bodyPost_ret (v := exV 2 0 noB noB none 0 0) (results_cell (i := 2) (b := w.heap.size + 1) Tryz.results195 Tryz.isAgg25 Tryz.sizeOf25 rfl rfl FN.out.1) rfl ⟨_, _, _, _, _, _, _, rfl, FN.out.2.1, FN.out.2.2⟩
      | false =>
        have HTN := HT
        rw [takeT_no hi] at HTN
        have HI := Lib.hid hi
        clear hi HT
        go_wp2_with fail
        refine HTN.out.mono ?_
        rintro e w2 ⟨rfl, d2⟩
        have I2 := Lib.hid ((I.out.alloc _).next d2)
        clear d2
        go_wp2_with fail
        go_roundw
        case rel => exact ⟨1, rfl, by omega, I2.out, fun _ => by first | trivial | exact HI.out, fun h => absurd h (by decide)⟩
        case measure => simp [intOf]
    · have HT := Lib.hid (takeR_any (I.out.alloc (.cells #[.string trueB] 9)).did.rd (strs1 p _ trueB (by decide) I.out.did.rd.lt).is)
      cases hi : isT ts s [trueB] with
      | true =>
        obtain rfl : R = (mkE 2 1 noB noB [], stepS s) := by
          rw [← HR.out]
          rw [if_neg (by rw [HF.out (by decide)]; decide), if_pos hi]
        have hne := text_ne (fun h => absurd (List.mem_singleton.1 h) (by decide)) hi
        have HTY := HT
        rw [takeT_yes hi] at HTY
        generalize cur ts s = tk at HTY hne
        clear hi HT
        go_wp2_with fail
        refine HTY.out.mono ?_
        rintro e w2 ⟨rfl, d2⟩
        have I2 := Lib.hid ((I.out.alloc _).next d2)
        have z2 : w.heap.size + 2 ≤ w2.heap.size := heap_lt I2.out.br
        have FN := Lib.hid (I2.out.fin hpl hgl (ExAt.leaf (Mk (Bd p w2.heap.size) w2) (op := 2) (n := 1) (nm := noB) (fd := noB) (by omega) (by omega) (by omega) (by omega) (by decide) (by decide)) z2)
        have bb := box_cells I2.out.br
        have ff : ∀ o, w2.frozen? ⟨w.heap.size + 1, o, none⟩ = false := fun o => by simp [World.frozen?, I2.out.br]
        clear d2
        go_wp2_with fail
        exact bodyPost_ret (v := exV 2 1 noB noB none 0 0) (results_cell (i := 2) (b := w.heap.size + 1) Tryz.results195 Tryz.isAgg25 Tryz.sizeOf25 rfl rfl FN.out.1) rfl ⟨_, _, _, _, _, _, _, rfl, FN.out.2.1, FN.out.2.2⟩
      | false =>
        have HTN := HT
        rw [takeT_no hi] at HTN
        have HI := Lib.hid hi
        clear hi HT
        go_wp2_with fail
        refine HTN.out.mono ?_
        rintro e w2 ⟨rfl, d2⟩
        have I2 := Lib.hid ((I.out.alloc _).next d2)
        clear d2
        go_wp2_with fail
        go_roundw
        case rel => exact ⟨2, rfl, by omega, I2.out, fun _ => HF.out (by decide), fun _ => by first | trivial | exact HI.out⟩
        case measure => simp [intOf]
    · obtain rfl : R = (e0, refuseS ts s) := by rw [← HR.out, if_neg (by rw [HF.out (by decide)]; decide), if_neg (by rw [HTT.out (by decide)]; decide)]
      have HX := Lib.hid (refuse_any I.out.did.rd)
      go_wp2_with fail
      refine HX.out.mono ?_
      rintro e w2 ⟨rfl, d2⟩
      have I2 := Lib.hid (I.out.next d2)
      have z2 : w.heap.size + 2 ≤ w2.heap.size := heap_lt I2.out.br
      have FN := Lib.hid (I2.out.fin hpl hgl (ExAt.leaf (Mk (Bd p w2.heap.size) w2) (op := 0) (n := 0) (nm := noB) (fd := noB) (by omega) (by omega) (by omega) (by omega) (by decide) (by decide)) z2)
      have bb := box_cells I2.out.br
      have ff : ∀ o, w2.frozen? ⟨w.heap.size + 1, o, none⟩ = false := fun o => by simp [World.frozen?, I2.out.br]
      clear d2
      go_wp2_with fail
      exact bodyPost_ret (v := exV 0 0 noB noB none 0 0) (results_cell (i := 2) (b := w.heap.size + 1) Tryz.results195 Tryz.isAgg25 Tryz.sizeOf25 rfl rfl FN.out.1) rfl ⟨_, _, _, _, _, _, _, rfl, FN.out.2.1, FN.out.2.2⟩
theorem const_ok {p g cap : Nat} {ts : List Tok} {f x y z : Int} (s : RS) (w : World) (h : RdAt p g cap ts s w) (hG : Gl p w) :
    Calls Tryz.prog 195 #[xV p f x y z] w (XPost p g cap ts (constP ts s) w.heap.size w) := by
  unfold constP
  by_cases h3 : (cur ts s).kind = 3
  · rw [if_pos h3]; exact const_int h hG h3
  · rw [if_neg h3]
    by_cases h4 : (cur ts s).kind = 4
    · rw [if_pos h4]; exact const_chr h hG h4
    · rw [if_neg h4]; exact const_more h hG h3 h4
theorem left_const (ts : List Tok) (s : RS) : leftS ts (constP ts s).2 ≤ leftS ts s := by
  unfold constP
  by_cases h3 : (cur ts s).kind = 3
  · rw [if_pos h3]; exact Nat.le_of_lt (left_step (cur_k (by omega)))
  · rw [if_neg h3]
    by_cases h4 : (cur ts s).kind = 4
    · rw [if_pos h4]; exact Nat.le_of_lt (left_step (cur_k (by omega)))
    · rw [if_neg h4]
      cases hi : isT ts s [falseB] with
      | true => rw [if_pos rfl]; exact Nat.le_of_lt (left_stepT hi)
      | false =>
        rw [if_neg (by decide)]
        cases hj : isT ts s [trueB] with
        | true => rw [if_pos rfl]; exact Nat.le_of_lt (left_stepT hj)
        | false => rw [if_neg (by decide)]; exact left_refuse ts s
end Go.Proofs.YtpcldpnaljheoaaGreatDoor
end
section
namespace Go.Proofs.YtpcldpnaljheoaaGreatDoor
open Go.RowKit Go.Deep Go.Sort

/-- v is a list of expressions of one's own, from the block 'base' on. -/
structure OwnX (base : Nat) (w : World) (v : Value) (ls : List (List Value)) : Prop where
  els : ∀ vs ∈ ls, vs.length = 5 ∧ ∀ u ∈ vs, u.oneCell' = true
  own : w.ownsRow base 25 5 v ls.length ls.flatten
theorem flat_len : ∀ (ls : List (List Value)), (∀ vs ∈ ls, vs.length = 5) → ls.flatten.length = ls.length * 5
  | [], _ => rfl
  | vs :: r, h => by
    rw [List.flatten_cons, List.length_append, flat_len r fun x hx => h x (List.mem_cons_of_mem _ hx), h vs (List.mem_cons_self ..), List.length_cons]
    omega
theorem flat_at : ∀ (ls : List (List Value)) (i j : Nat) (vs : List Value), (∀ vs ∈ ls, vs.length = 5) → ls[i]? = some vs → j < 5 → ls.flatten[i * 5 + j]? = vs[j]?
  | [], _, _, _, _, h, _ => by simp at h
  | x :: r, 0, j, vs, hl, h, hj => by
    simp at h
    subst h
    rw [List.flatten_cons, List.getElem?_append_left (by rw [hl x (List.mem_cons_self ..)]; omega)]
    congr 1
    omega
  | x :: r, i + 1, j, vs, hl, h, hj => by
    rw [List.flatten_cons, List.getElem?_append_right (by rw [hl x (List.mem_cons_self ..)]; omega), hl x (List.mem_cons_self ..), show (i + 1) * 5 + j - 5 = i * 5 + j by omega]
    exact flat_at r i j vs (fun y hy => hl y (List.mem_cons_of_mem _ hy)) (by simpa using h) hj
theorem OwnX.kept {base : Nat} {w w' : World} {v : Value} {ls : List (List Value)} (h : OwnX base w v ls) (hb : ∀ k, v.ownBlock = some k → w'.heap[k]? = w.heap[k]?) : OwnX base w' v ls := by
  refine ⟨h.els, h.own.1, ?_⟩
  rcases h.own.2 with h4 | ⟨g, cap, cur, hv, hb', hg, r⟩
  · exact .inl h4
  · exact .inr ⟨g, cap, cur, hv, hb', (hb g (by rw [hv]; rfl)).trans hg, r⟩
theorem OwnX.lt {base : Nat} {w : World} {v : Value} {ls : List (List Value)} (h : OwnX base w v ls) (k : Nat) (hk : v.ownBlock = some k) : base ≤ k ∧ k < w.heap.size := World.ownsRow.lt h.own k hk
theorem OwnX.onl {base p : Nat} {w w' : World} {v : Value} {ls : List (List Value)} (h : OwnX base w v ls) (hp : p < base) (o : Onl p w w') : OwnX base w' v ls :=
  h.kept fun k hk => o.block k (by have := (h.lt k hk).1; omega) (h.lt k hk).2
theorem infoX : (Tryz.prog.info? 25).map (fun i => (i.zero, i.size, i.bytes)) = some (some (.agg #[.int .i64 0, .int .i64 0, .string ⟨#[]⟩, .string ⟨#[]⟩, .slice none 0 0]), 5, 72) := by kernel_rfl
theorem run_appX {base : Nat} {w : World} {v : Value} {ls : List (List Value)} (ty : TypeId) (h : OwnX base w v ls) (hbase : base ≤ w.heap.size) {b o m cap : Nat} {ns : List (List Value)} (hns : ∀ vs ∈ ns, vs.length = 5 ∧ ∀ u ∈ vs, u.oneCell' = true)
    (hm : ns.length = m) (hn : ∀ (j : Nat) u, ns.flatten[j]? = some u → w.cell? ⟨b, o + j, none⟩ = some u) (hb : ls.length + m ≤ 1000000) :
    ∃ v' w', (Builtin.append_ #[23, 23] ty #[v, .slice (some ⟨b, o, none⟩) m cap]).run Tryz.prog w = .ok v' w' ∧ OwnX base w' v' (ls ++ ns) ∧ w.grownBy w' v.ownBlock ∧ (v'.ownBlock = v.ownBlock ∨ v'.ownBlock = some w.heap.size) := by
  obtain ⟨i, hi, hz0, hz1, hz2⟩ := info_parts infoX
  obtain ⟨v', w', h1, h2, h3, _, h5⟩ := run_append_own_at (P := Tryz.prog) w base 23 ty 25 i _ 5 72 Tryz.underlying23 hi hz0 hz1 hz2 rfl (by decide) v ls.length ls.flatten h.own ⟨b, o, none⟩ m cap ns.flatten (by rw [flat_len ns fun x hx => (hns x hx).1, hm]) (fun j u hu => by rw [add_mid2]; exact hn j u hu) (by
    intro u hu
    obtain ⟨t, ht, hu⟩ := List.mem_flatten.1 hu
    exact (hns t ht).2 u hu) (by unfold maxLen; omega) (by omega) hbase
  refine ⟨v', w', h1, ⟨fun vs hvs => ?_, ?_⟩, h3, h5⟩
  · rcases List.mem_append.1 hvs with g | g
    · exact h.els vs g
    · exact hns vs g
  · rw [List.length_append, hm, List.flatten_append]
    exact h2
theorem OwnX.at_ {base : Nat} {w : World} {v : Value} {ls : List (List Value)} (h : OwnX base w v ls) {P : Nat → Prop} (hP : ∀ k, v.ownBlock = some k → ¬ P k) {l : List (List D)} (hl : ls.length = l.length)
    (hd : ∀ (i : Nat) vs ds, ls[i]? = some vs → l[i]? = some ds → AllAt (Mk P w) vs ds) : ∃ a c, v = .slice a l.length c ∧ At (Mk P w) v (.row l) := by
  rcases h.own.2 with ⟨rfl, h4⟩ | ⟨g, cap, cur, rfl, hb, hg, hn, hm, hs, ht⟩
  · obtain rfl : l = [] := List.eq_nil_of_length_eq_zero (by omega)
    exact ⟨none, 0, rfl, .nil _ _ (Nat.zero_le _)⟩
  · have hg' : ¬ P g := hP g rfl
    refine ⟨some ⟨g, 0, none⟩, cap, by rw [← hl], ?_⟩
    refine .row g 0 ls.length cap 5 l (fun j => (ls[j]?).getD []) hl.symm hn hm (by rw [mk_size]; exact heap_lt hg) (fun j hj => ?_) (fun j ds hds => ?_) (fun j i v hj hv => ?_) fun j i ds v d h1 h2 h3 => ?_
    · obtain ⟨vs, hvs⟩ : ∃ vs, ls[j]? = some vs := ⟨_, List.getElem?_eq_getElem hj⟩
      rw [hvs]
      exact (h.els vs (List.mem_of_getElem? hvs)).1
    · obtain ⟨vs, hvs⟩ : ∃ vs, ls[j]? = some vs := ⟨_, List.getElem?_eq_getElem (by rw [hl]; exact (List.getElem?_eq_some_iff.1 hds).1)⟩
      rw [← (hd j vs ds hvs hds).len]
      exact (h.els vs (List.mem_of_getElem? hvs)).1
    · obtain ⟨vs, hvs⟩ : ∃ vs, ls[j]? = some vs := ⟨_, List.getElem?_eq_getElem hj⟩
      rw [hvs] at hv
      have hv : vs[i]? = some v := hv
      have h5 := (h.els vs (List.mem_of_getElem? hvs)).1
      have hi : i < 5 := by have := (List.getElem?_eq_some_iff.1 hv).1; omega
      have hf := flat_at ls j i vs (fun x hx => (h.els x hx).1) hvs hi
      rw [hv, ← ht, List.getElem?_take_of_lt (by omega)] at hf
      rw [cell_eq (mk_get w hg'), Nat.zero_add]
      unfold World.cell?
      simp only [hg]
      simpa using hf
    · obtain ⟨vs, hvs⟩ : ∃ vs, ls[j]? = some vs := ⟨_, List.getElem?_eq_getElem (by rw [hl]; exact (List.getElem?_eq_some_iff.1 h1).1)⟩
      rw [hvs] at h2
      exact allAt_get (hd j vs ds hvs h1) i v d h2 h3
/-- The reader's block, all below B, and the list's own block. -/
def LQ (p B : Nat) (v : Value) (k : Nat) : Prop := Bd p B k ∨ v.ownBlock = some k
/-- Operands gathered. -/
structure LX (p B : Nat) (W : World) (v : Value) (acc : List (List D)) : Prop where
  ex : ∃ ls, OwnX (B + 1) W v ls ∧ ls.length = acc.length ∧ ∀ (i : Nat) vs ds, ls[i]? = some vs → acc[i]? = some ds → AllAt (Mk (LQ p B v) W) vs ds
  sh : ∀ z ∈ acc, ShE z
theorem LX.onl {p B : Nat} {W W' : World} {v : Value} {acc : List (List D)} (h : LX p B W v acc) (hp : p < B) (o : Onl p W W') : LX p B W' v acc := by
  obtain ⟨ls, h1, h2, h3⟩ := h.ex
  exact ⟨⟨ls, h1.onl (by omega) o, h2, fun i vs ds e1 e2 => (h3 i vs ds e1 e2).sub (mk_onl (.inl (.inl rfl)) o)⟩, h.sh⟩
theorem LX.lt {p B : Nat} {W : World} {v : Value} {acc : List (List D)} (h : LX p B W v acc) (k : Nat) (hk : v.ownBlock = some k) : B + 1 ≤ k ∧ k < W.heap.size := by
  obtain ⟨ls, h1, _⟩ := h.ex
  exact h1.lt k hk
theorem LX.fin {p B : Nat} {W : World} {v : Value} {acc : List (List D)} (h : LX p B W v acc) (hp : p < B) : ∃ a c, v = .slice a acc.length c ∧ At (Mk (Bd p B) W) (.slice a acc.length c) (.row acc) := by
  obtain ⟨ls, h1, h2, h3⟩ := h.ex
  obtain ⟨a, c, e, ha⟩ := h1.at_ (P := Bd p B) (fun k hk => by have := (h1.lt k hk).1; rintro (g | g) <;> omega) h2 fun i vs ds e1 e2 => (h3 i vs ds e1 e2).sub (mk_weak W fun k hk => .inl hk)
  exact ⟨a, c, e, e ▸ ha⟩
/-- The first operand, in a block of its own. -/
theorem LX.one {p B : Nat} {W : World} {u : List D} {op k : Int} {nm fd : ByteArray} {a : Option Addr} {len c : Nat} (hu : ExAt (Mk (Bd p B) W) u op k nm fd a len c) (hB : B + 1 ≤ W.heap.size) :
    LX p B (W.alloc (.cells (exC op k nm fd a len c) 25)) (.slice (some ⟨W.heap.size, 0, none⟩) 1 1) [u] := by
  refine ⟨⟨[[.int .i64 op, .int .i64 k, .string nm, .string fd, .slice a len c]], ⟨fun vs hvs => ?_, rfl, .inr ⟨W.heap.size, 1, _, rfl, hB, heap_new W _, Nat.le_refl _, by decide, rfl, rfl⟩⟩, rfl, fun i vs ds e1 e2 => ?_⟩, fun z hz => by rw [List.mem_singleton.1 hz]; exact hu.2⟩
  · rw [List.mem_singleton.1 hvs]
    exact ⟨rfl, hu.1.one⟩
  · match i, e1, e2 with
    | 0, e1, e2 =>
      obtain rfl := Option.some.inj e1
      obtain rfl := Option.some.inj e2
      refine hu.1.sub (sub_of_blocks (by simp) _ _ fun k hk hn => ⟨?_, ((Below.refl _ _).alloc (Nat.le_refl _) _).block k hk⟩)
      rintro (g | g)
      · exact hn g
      · have : W.heap.size = k := Option.some.inj g
        omega
/-- One operand more. -/
theorem LX.app {p B : Nat} {W : World} {v : Value} {acc : List (List D)} (h : LX p B W v acc) (hB : B + 1 ≤ W.heap.size) {C : Nat} (hBC : B ≤ C) (hv : ∀ k, v.ownBlock = some k → k < C) (hlen : acc.length ≤ 100000)
    {u : List D} {op k : Int} {nm fd : ByteArray} {a : Option Addr} {len c : Nat} (hu : ExAt (Mk (Bd p C) W) u op k nm fd a len c) (ty : TypeId) :
    ∃ v' w', (Builtin.append_ #[23, 23] ty #[v, .slice (some ⟨W.heap.size, 0, none⟩) 1 1]).run Tryz.prog (W.alloc (.cells (exC op k nm fd a len c) 25)) = .ok v' w' ∧ LX p B w' v' (acc ++ [u]) ∧ Below (B + 1) W w' := by
  obtain ⟨ls, h1, h2, h3⟩ := h.ex
  have hb6 := (Below.refl W.heap.size W).alloc (Nat.le_refl _) (.cells (exC op k nm fd a len c) 25)
  have h16 : OwnX (B + 1) (W.alloc (.cells (exC op k nm fd a len c) 25)) v ls := h1.kept fun k hk => hb6.block k (h1.lt k hk).2
  obtain ⟨v', w', hr, ho, hg, hloc⟩ := run_appX (w := W.alloc (.cells (exC op k nm fd a len c) 25)) ty h16 (by simp; omega) (b := W.heap.size) (o := 0) (m := 1) (cap := 1) (ns := [[.int .i64 op, .int .i64 k, .string nm, .string fd, .slice a len c]])
    (fun vs hvs => by rw [List.mem_singleton.1 hvs]; exact ⟨rfl, hu.1.one⟩) rfl (fun j u hj => by
      rw [box_cells (heap_new W _), Nat.zero_add]
      simpa using hj) (by omega)
  have hsub : Sub (Mk (LQ p B v) W) (Mk (LQ p B v') w') := by
    refine sub_of_blocks (Nat.le_trans hb6.size hg.size) _ _ fun j hj hn => ⟨?_, (hg.block j (by simp; omega) fun e => hn (.inr e.symm)).trans (hb6.block j hj)⟩
    rintro (g | g)
    · exact hn (.inl g)
    · rcases hloc with e | e
      · exact hn (.inr (e ▸ g))
      · rw [e] at g
        have : (W.alloc (.cells (exC op k nm fd a len c) 25)).heap.size = j := Option.some.inj g
        simp at this
        omega
  refine ⟨v', w', hr, ⟨⟨_, ho, by rw [List.length_append, List.length_append, h2]; rfl, fun i vs ds e1 e2 => ?_⟩, fun z hz => ?_⟩, ?_⟩
  · by_cases hi : i < ls.length
    · rw [List.getElem?_append_left hi] at e1
      rw [List.getElem?_append_left (by omega)] at e2
      exact (h3 i vs ds e1 e2).sub hsub
    · rw [List.getElem?_append_right (by omega)] at e1
      rw [List.getElem?_append_right (by omega), ← h2] at e2
      match hq : i - ls.length, e1, e2 with
      | 0, e1, e2 =>
        obtain rfl := Option.some.inj e1
        obtain rfl := Option.some.inj e2
        refine (hu.1.sub (mk_weak W (P' := LQ p B v) ?_)).sub hsub
        rintro j ((g | g) | g)
        · exact .inl g
        · exact .inr (by omega)
        · exact .inr (hv j g)
  · rcases List.mem_append.1 hz with g | g
    · exact h.sh z g
    · rw [List.mem_singleton.1 g]; exact hu.2
  · exact ⟨hg.os.trans hb6.os, hg.tape.trans hb6.tape, hg.output.trans hb6.output, Nat.le_trans hb6.size hg.size, fun j hj => (hg.block j (by simp; omega) fun e => by have := (h.lt j e.symm).1; omega).trans (hb6.block j (by omega))⟩
end Go.Proofs.YtpcldpnaljheoaaGreatDoor
end
section
namespace Go.Proofs.YtpcldpnaljheoaaGreatDoor
open Go.RowKit Go.Deep Go.Sort

def opsF (ts : List Tok) (E : RS → XS) : Nat → List (List D) → RS → LS
  | 0, acc, s => (acc, s)
  | m + 1, acc, s => if isT ts s [⟨#[44]⟩] = true then opsF ts E m (acc ++ [(E (stepS s)).1]) (E (stepS s)).2 else (acc, needT ts s [⟨#[41]⟩])
def oprF (ts : List Tok) (E : RS → XS) (s : RS) : LS := if isT ts s [⟨#[41]⟩] = true then ([], stepS s) else opsF ts E (ts.length + 1) [(E s).1] (E s).2
/-- The loop: the box, what has been read. -/
structure OpI (p g cap : Nat) (ts : List Tok) (f x y z : Int) (b : Nat) (s : RS) (w W : World) : Prop where
  did : Did p g cap ts s w W
  gl : Gl p W
  bx : W.heap[b]? = some (.cells (xC p f x y z) 92)
  nb : b ≠ p
theorem OpI.next {p g cap : Nat} {ts : List Tok} {f x y z : Int} {b : Nat} {s s1 : RS} {w W W1 : World} (h : OpI p g cap ts f x y z b s w W) (d : Did p g cap ts s1 W W1) : OpI p g cap ts f x y z b s1 w W1 :=
  ⟨h.did.trans d, h.gl.onl d.onl, (d.onl.block _ h.nb (heap_lt h.bx)).trans h.bx, h.nb⟩
theorem OpI.alloc {p g cap : Nat} {ts : List Tok} {f x y z : Int} {b : Nat} {s : RS} {w W : World} (h : OpI p g cap ts f x y z b s w W) (o : Obj) : OpI p g cap ts f x y z b s w (W.alloc o) :=
  h.next (Did.of h.did.rd ((Below.refl _ _).alloc (Nat.le_refl _) o))
theorem OpI.start {p g cap : Nat} {ts : List Tok} {s : RS} {w : World} (h : RdAt p g cap ts s w) (hG : Gl p w) (f x y z : Int) : OpI p g cap ts f x y z w.heap.size s w (w.alloc (.cells (xC p f x y z) 92)) := by
  have B := (Below.refl w.heap.size w).alloc (Nat.le_refl _) (.cells (xC p f x y z) 92)
  exact ⟨Did.of h B, hG.onl (Onl.of B (Nat.le_refl _)), heap_new w _, by have := h.lt; omega⟩
/-- What grows a list from the call's own blocks on leaves the rest. -/
theorem OpI.grown {p g cap : Nat} {ts : List Tok} {f x y z : Int} {s : RS} {w W W' : World} (h : OpI p g cap ts f x y z w.heap.size s w W) (hp : p < w.heap.size) (hg : g < w.heap.size) (hb : Below (w.heap.size + 1) W W') : OpI p g cap ts f x y z w.heap.size s w W' := by
  have h0 := h.gl.lo
  refine ⟨⟨⟨(hb.block _ (by omega)).trans h.did.rd.blk, h.did.rd.toks.kept hb.size (hb.block _ (by omega)), h.did.rd.ne, h.did.rd.ok, h.did.rd.kle⟩,
    ⟨hb.os.trans h.did.onl.os, hb.tape.trans h.did.onl.tape, hb.output.trans h.did.onl.output, Nat.le_trans h.did.onl.size hb.size, fun k hk hs => (hb.block k (by omega)).trans (h.did.onl.block k hk hs)⟩⟩, ?_, (hb.block _ (by omega)).trans h.bx, h.nb⟩
  exact ⟨h.gl.lo, Nat.lt_of_lt_of_le h.gl.hi hb.size, fun k x hx => (cell_eq (hb.block 0 (by omega))).trans (h.gl.sg k x hx), (cell_eq (hb.block 1 (by omega))).trans h.gl.tr0, (cell_eq (hb.block 1 (by omega))).trans h.gl.tr1⟩
theorem wp_appX {ops : Array Oper} {rest : List Oper} {o : Oper} {a : Act} {Q : Exit → Act → World → Prop} (hgd : o.guard = none) (sl x : Operand)
    (ho : o.op = .call { callee := .builtin .append, args := #[sl, x], argTypes := #[23, 23] })
    {p B : Nat} {W : World} {v : Value} {acc : List (List D)} (h : LX p B W v acc) (hB : B + 1 ≤ W.heap.size) {C : Nat} (hBC : B ≤ C) (hv : ∀ k, v.ownBlock = some k → k < C) (hlen : acc.length ≤ 100000)
    {u : List D} {op k : Int} {nm fd : ByteArray} {ad : Option Addr} {len c : Nat} (hu : ExAt (Mk (Bd p C) W) u op k nm fd ad len c) (hs : a.eval sl = v) (hx : a.eval x = .slice (some ⟨W.heap.size, 0, none⟩) 1 1)
    (hk : ∀ v' w', LX p B w' v' (acc ++ [u]) → Below (B + 1) W w' → wpList Tryz.prog ops Q rest (a.put o.dst v') w') :
    wpList Tryz.prog ops Q (o :: rest) a (W.alloc (.cells #[.int .i64 op, .int .i64 k, .string nm, .string fd, .slice ad len c] 25)) := by
  refine wpList_plain hgd fun K hK => ?_
  obtain ⟨v', w', hr, h2, h3⟩ := h.app hB hBC hv hlen hu o.type
  unfold Oper.wp execOp
  simp only [ho, resolve, invoke, builtin, Sem.run_bind, Sem.run_pure, Result.andThen_ok, List.map_toArray, List.map_cons, List.map_nil, hs, hx, hr]
  exact hK _ _ (hk v' w' h2 h3)
set_option maxRecDepth 100000 in
set_option maxHeartbeats 2000000 in
theorem operands_any {p g cap : Nat} {ts : List Tok} {f x y z : Int} {n : Nat} {E : RS → XS} (hE : Ok p g cap ts f x y z 46 E n) {s : RS} {w : World} (h : RdAt p g cap ts s w) (hG : Gl p w) (hn : leftS ts s < n) :
    Calls Tryz.prog 208 #[xV p f x y z] w (OPost p g cap ts (oprF ts E s) w.heap.size w) := by
  have I0 := Lib.hid (OpI.start h hG f x y z)
  have hpl := h.lt
  have hgl := h.toks.lt
  have hlen := h.ok.len
  have HT0 := Lib.hid (takeR_any (I0.out.alloc (.cells #[.string ⟨#[41]⟩] 9)).did.rd (strs1 p _ ⟨#[41]⟩ (by decide) I0.out.did.rd.lt).is)
  have htk := HT0.out
  rw [show (w.alloc (.cells (xC p f x y z) 92)).heap.size = w.heap.size + 1 by simp] at htk
  have HTK := Lib.hid htk
  clear htk HT0
  unfold oprF
  cases hi : isT ts s [⟨#[41]⟩] with
  | true =>
    rw [takeT_yes hi] at HTK
    have hne := text_ne (fun h => absurd (List.mem_singleton.1 h) (by decide)) hi
    rw [if_pos rfl]
    clear hi hE h hG
    generalize cur ts s = tk at HTK hne
    go_enter Tryz.func208, Tryz.ntmps208
    go_wp2_with fail
    refine HTK.out.mono ?_
    rintro e w1 ⟨rfl, d1⟩
    have I1 := Lib.hid ((I0.out.alloc _).next d1)
    clear d1
    go_wp2_with fail
    go_ret
    exact ⟨none, 0, 0, rfl, .nil _ _ (Nat.zero_le _), by simp, I1.out.did⟩
  | false =>
    rw [takeT_no hi] at HTK
    rw [if_neg (by decide)]
    have HC := Lib.hid (fun W (RR : RdAt p g cap ts s W) (G' : Gl p W) => hE.call s W RR G' hn)
    have HE := Lib.hid hE
    have hn1 : leftS ts (E s).2 < n := Nat.lt_of_le_of_lt (hE.mono s) hn
    have hm1 : leftS ts (E s).2 < ts.length + 1 := by
      have := hE.mono s
      have : leftS ts s ≤ ts.length := by unfold leftS; split <;> omega
      omega
    generalize hR : opsF ts E (ts.length + 1) [(E s).1] (E s).2 = R
    have HR := Lib.hid hR
    clear hi h hG hE hR
    generalize E s = r at HC HR hn1 hm1
    go_enter Tryz.func208, Tryz.ntmps208
    go_wp2_with fail
    refine HTK.out.mono ?_
    rintro e w1 ⟨rfl, d1⟩
    have I1 := Lib.hid ((I0.out.alloc _).next d1)
    have bx1 := box_cells I1.out.bx
    have lx1 := heap_lt I1.out.bx
    clear d1
    go_wp2_with fail
    refine (HC.out _ I1.out.did.rd I1.out.gl).mono ?_
    rintro e w5 ⟨op5, k5, nm5, fd5, a5, len5, c5, rfl, x5, d5⟩
    have I5 := Lib.hid ((I1.out.next d5).alloc (.cells (exC op5 k5 nm5 fd5 a5 len5 c5) 25))
    have z5 := d5.onl.size
    have L5 := Lib.hid (LX.one (B := w.heap.size) (x5.sub (mk_weak w5 (P' := Bd p w.heap.size) (by rintro k (h | h); exact .inl h; exact .inr (by omega)))) (by omega))
    clear x5 d5 z5 bx1 lx1
    go_wp2_with fail
    generalize hv : Value.slice (some ⟨w5.heap.size, 0, none⟩) 1 1 = v5 at L5 ⊢
    generalize w5.alloc (.cells (exC op5 k5 nm5 fd5 a5 len5 c5) 25) = W5 at I5 L5 ⊢
    clear hv
    go_loopw [3] (fun v wr => ∃ (m : Nat) (acc : List (List D)) (s' : RS), OpI p g cap ts f x y z w.heap.size s' w wr ∧ LX p w.heap.size wr v acc ∧ leftS ts s' < m ∧ leftS ts s' < n ∧ opsF ts E m acc s' = R ∧ acc.length + leftS ts s' ≤ 80000) (fun _ wr => leftW ts p wr)
    case atStart => exact ⟨_, _, r.2, I5.out, L5.out, hm1, hn1, HR.out, by simp; omega⟩
    case round =>
      obtain ⟨m, acc, s', hI, hL, hm, hn', hr, hac⟩ := hrel
      have I := Lib.hid hI
      have L := Lib.hid hL
      have HR' := Lib.hid hr
      have HT := Lib.hid (takeR_any (hI.alloc (.cells #[.string ⟨#[44]⟩] 9)).did.rd (strs1 p _ ⟨#[44]⟩ (by decide) hI.did.rd.lt).is)
      have bx := box_cells hI.bx
      have lx := heap_lt hI.bx
      have lw := leftW_at hI.did.rd
      have LW := Lib.hid lw
      clear hI hL hr lw HR I5 L5
      obtain ⟨m, rfl⟩ : ∃ m', m = m' + 1 := ⟨m - 1, by omega⟩
      cases hj : isT ts s' [⟨#[44]⟩] with
      | false =>
        rw [takeT_no hj] at HT
        obtain rfl : R = (acc, needT ts s' [⟨#[41]⟩]) := by rw [← HR'.out]; unfold opsF; rw [if_neg (by rw [hj]; decide)]
        clear hj
        go_wp2_with fail
        refine HT.out.mono ?_
        rintro e w2 ⟨rfl, d2⟩
        have I2 := Lib.hid ((I.out.alloc _).next d2)
        have L2 := Lib.hid ((L.out.onl hpl ((Onl.refl p wr).alloc (.cells #[.string ⟨#[44]⟩] 9))).onl hpl d2.onl)
        have bx2 := box_cells I2.out.bx
        have lx2 := heap_lt I2.out.bx
        have HND := Lib.hid (needR_any (I2.out.alloc (.cells #[.string ⟨#[41]⟩] 9)).did.rd (strs1 p _ ⟨#[41]⟩ (by decide) I2.out.did.rd.lt).is (fun h => absurd (List.mem_singleton.1 h) (by decide)))
        clear d2
        go_wp2_with fail
        refine HND.out.mono ?_
        rintro e w3 ⟨⟨v3, rfl⟩, d3⟩
        have I3 := Lib.hid ((I2.out.alloc _).next d3)
        have L3 := Lib.hid ((L2.out.onl hpl ((Onl.refl p w2).alloc (.cells #[.string ⟨#[41]⟩] 9))).onl hpl d3.onl)
        obtain ⟨la, lc, rfl, hat⟩ := L3.out.fin hpl
        have HA := Lib.hid hat
        clear d3 hat
        go_wp2_with fail
        go_ret
        exact ⟨la, acc.length, lc, rfl, HA.out, L3.out.sh, I3.out.did⟩
      | true =>
        have hlt := left_stepT hj
        rw [takeT_yes hj] at HT
        have hne := text_ne (fun h => absurd (List.mem_singleton.1 h) (by decide)) hj
        have HC2 := Lib.hid (fun W (RR : RdAt p g cap ts (stepS s') W) (G' : Gl p W) => HE.out.call (stepS s') W RR G' (by omega))
        have hmo := HE.out.mono (stepS s')
        have HR2 := Lib.hid (show opsF ts E m (acc ++ [(E (stepS s')).1]) (E (stepS s')).2 = R by rw [← HR'.out]; conv => rhs; unfold opsF; rw [if_pos hj])
        clear hj HR'
        generalize E (stepS s') = r2 at HC2 HR2 hmo
        generalize cur ts s' = tk at HT hne
        generalize stepS s' = s1 at HT HC2 hmo hlt
        go_wp2_with fail
        refine HT.out.mono ?_
        rintro e w2 ⟨rfl, d2⟩
        have I2 := Lib.hid ((I.out.alloc _).next d2)
        have L2 := Lib.hid ((L.out.onl hpl ((Onl.refl p wr).alloc (.cells #[.string ⟨#[44]⟩] 9))).onl hpl d2.onl)
        have bx2 := box_cells I2.out.bx
        have lx2 := heap_lt I2.out.bx
        clear d2
        go_wp2_with fail
        refine (HC2.out _ I2.out.did.rd I2.out.gl).mono ?_
        rintro e w5 ⟨op5, k5, nm5, fd5, a5, len5, c5, rfl, x5, d5⟩
        have I6 := Lib.hid (I2.out.next d5)
        have L6 := Lib.hid (L2.out.onl hpl d5.onl)
        have X6 := Lib.hid x5
        have hb6 : w.heap.size + 1 ≤ w5.heap.size := heap_lt I6.out.bx
        have hb2 : w.heap.size ≤ w2.heap.size := Nat.le_of_lt lx2
        have hal : acc.length ≤ 100000 := by omega
        have hown := fun k hk => (L2.out.lt k hk).2
        have HOW := Lib.hid hown
        clear x5 d5 hown
        have tok1 : True := trivial
        go_wp2_with (have _t := tok1; at_builtin; (refine wp_appX rfl (.tmp 19) (.tmp 22) rfl L6.out hb6 hb2 HOW.out hal X6.out rfl rfl ?_; intro v7 w7 l7 b7); (have L7 := Lib.hid l7); (have I7 := Lib.hid (I6.out.grown hpl hgl b7)); clear l7 b7 tok1)
        go_roundw
        case rel => exact ⟨m, _, _, I7.out, L7.out, by omega, by omega, HR2.out, by simp only [List.length_append, List.length_cons, List.length_nil]; omega⟩
        case measure => rw [leftW_at I7.out.did.rd, LW.out]; omega
theorem left_opsF (ts : List Tok) (E : RS → XS) (hE : ∀ s, leftS ts (E s).2 ≤ leftS ts s) : ∀ (m : Nat) (acc : List (List D)) (s : RS), leftS ts (opsF ts E m acc s).2 ≤ leftS ts s
  | 0, _, _ => Nat.le_refl _
  | m + 1, acc, s => by
    unfold opsF
    cases h : isT ts s [⟨#[44]⟩] with
    | true => rw [if_pos rfl]; exact Nat.le_trans (left_opsF ts E hE m _ _) (Nat.le_trans (hE _) (Nat.le_of_lt (left_stepT h)))
    | false => rw [if_neg (by decide)]; exact left_needT ts s _
theorem left_oprF (ts : List Tok) (E : RS → XS) (hE : ∀ s, leftS ts (E s).2 ≤ leftS ts s) (s : RS) : leftS ts (oprF ts E s).2 ≤ leftS ts s := by
  unfold oprF
  cases h : isT ts s [⟨#[41]⟩] with
  | true => rw [if_pos rfl]; exact Nat.le_of_lt (left_stepT h)
  | false => rw [if_neg (by decide)]; exact Nat.le_trans (left_opsF ts E hE _ _ _) (hE _)
end Go.Proofs.YtpcldpnaljheoaaGreatDoor
end
section
namespace Go.Proofs.YtpcldpnaljheoaaGreatDoor
open Go.RowKit Go.Deep

theorem opsP_eq (ts : List Tok) (g : RS → XS) : ∀ (m : Nat) (acc : List (List D)) (s : RS), opsP ts g m acc s = opsF ts (exprP ts g) m acc s
  | 0, _, _ => rfl
  | m + 1, acc, s => by
    unfold opsP opsF
    split
    · exact opsP_eq ts g m _ _
    · rfl
theorem operandsP_eq (ts : List Tok) (g : RS → XS) (s : RS) : operandsP ts g s = oprF ts (exprP ts g) s := by
  unfold operandsP oprF
  rw [opsP_eq]
theorem take3 {ts : List Tok} {s : RS} {t : ByteArray} {s2 : RS} (ht : takeT ts s brL = (t, s2)) (h40 : t ≠ ⟨#[40]⟩) (h91 : t ≠ ⟨#[91]⟩) (h46 : t ≠ ⟨#[46]⟩) : s2 = s := by
  cases hi : isT ts s brL with
  | false => rw [takeT_no hi] at ht; exact (Prod.mk.inj ht).2.symm
  | true =>
    rw [takeT_yes hi] at ht
    unfold isT isW at hi
    rw [Bool.and_eq_true] at hi
    have hm := (isIn_iff _ _).1 hi.2
    rw [(Prod.mk.inj ht).1] at hm
    unfold brL at hm
    simp only [List.mem_cons, List.mem_nil_iff, or_false] at hm
    rcases hm with e | e | e
    · exact absurd e h40
    · exact absurd e h91
    · exact absurd e h46
theorem left_namedP (ts : List Tok) (g : RS → XS) (hE : ∀ s, leftS ts (exprP ts g s).2 ≤ leftS ts s) (s : RS) : leftS ts (namedP ts g s).2 ≤ leftS ts s := by
  have h1 := left_needN ts s
  have h2 := left_takeT ts (needN ts s).2 brL
  unfold namedP
  rw [operandsP_eq]
  generalize hr : takeT ts (needN ts s).2 brL = r at h2 ⊢
  generalize exprP ts g = E at hE ⊢
  split
  · have h3 := left_oprF ts E hE r.2
    show leftS ts (oprF ts E r.2).2 ≤ leftS ts s
    omega
  · split
    · have h3 := left_needT ts (E r.2).2 [⟨#[93]⟩]
      have h4 := hE r.2
      show leftS ts (needT ts (E r.2).2 [⟨#[93]⟩]) ≤ leftS ts s
      omega
    · split
      · have h3 := left_needN ts r.2
        show leftS ts (needN ts r.2).2 ≤ leftS ts s
        omega
      · exact h1
theorem named_any {p g cap : Nat} {ts : List Tok} {f x y z : Int} {n : Nat} {G : RS → XS} (hE : Ok p g cap ts f x y z 46 (exprP ts G) n) {s : RS} {w : World} (h : RdAt p g cap ts s w) (hG : Gl p w) (hn : leftS ts s < n + 1) (hk : (cur ts s).kind = 1) :
    Calls Tryz.prog 194 #[xV p f x y z] w (XPost p g cap ts (namedP ts G s) w.heap.size w) := by
  have hlt : leftS ts (stepS s) < leftS ts s := left_step (cur_k (by omega))
  have e1 : needN ts s = ((cur ts s).text, stepS s) := if_pos hk
  have h2 := left_takeT ts (stepS s) brL
  unfold namedP
  rw [e1]
  rcases ht : takeT ts (stepS s) brL with ⟨t, s2⟩
  rw [ht] at h2
  dsimp only
  by_cases h40 : t = ⟨#[40]⟩
  · rw [if_pos h40, operandsP_eq]
    exact named_call h hG hk ht h40 fun W RR G'' => operands_any hE RR G'' (by simp only at h2; omega)
  · rw [if_neg h40]
    by_cases h91 : t = ⟨#[91]⟩
    · rw [if_pos h91]
      exact named_index h hG hk ht h91 fun W RR G'' => hE.call s2 W RR G'' (by simp only at h2; omega)
    · rw [if_neg h91]
      by_cases h46 : t = ⟨#[46]⟩
      · rw [if_pos h46]
        exact named_field h hG hk ht h46
      · rw [if_neg h46]
        have := named_var h hG hk ht h40 h91 h46 (f := f) (x := x) (y := y) (z := z)
        rw [take3 ht h40 h91 h46] at this
        exact this
theorem expr_of {p g cap : Nat} {ts : List Tok} {f x y z : Int} {n : Nat} {G : RS → XS} (hF : Ok p g cap ts f x y z 167 G n) : Ok p g cap ts f x y z 46 (exprP ts G) n := by
  have hT : Ok p g cap ts f x y z 133 (termP ts G) n := term_row hF hF
  have h1 : Ok p g cap ts f x y z 132 (firstP ts G) n := first_ok hT
  have hS : Ok p g cap ts f x y z 82 (simpleP ts G) n := simple_row h1 hT
  exact expr_ok hS
theorem fac_ok {p g cap : Nat} {ts : List Tok} {f x y z : Int} : ∀ n, Ok p g cap ts f x y z 167 (fac ts n) n
  | 0 => ⟨fun s w _ _ hn => absurd hn (Nat.not_lt_zero _), fun s => Nat.le_refl _⟩
  | n + 1 => by
    have hF := fac_ok (p := p) (g := g) (cap := cap) (ts := ts) (f := f) (x := x) (y := y) (z := z) n
    have hX := expr_of hF
    exact factor_ok (N := namedP ts (fac ts n)) (C := constP ts) hF hX (fun s w h hG hn hk => named_any hX h hG hn hk) (left_namedP ts _ hX.mono) (fun s w h hG => const_ok s w h hG) (left_const ts)
/-- An expression, read from any place on. -/
theorem expr_any {p g cap : Nat} {ts : List Tok} {f x y z : Int} {s : RS} {w : World} (h : RdAt p g cap ts s w) (hG : Gl p w) :
    Calls Tryz.prog 46 #[xV p f x y z] w (XPost p g cap ts (exprP ts (fac ts (ts.length + 1)) s) w.heap.size w) :=
  (expr_of (fac_ok (ts.length + 1))).call s w h hG (by unfold leftS; split <;> omega)
end Go.Proofs.YtpcldpnaljheoaaGreatDoor
end
section
namespace Go.Proofs.YtpcldpnaljheoaaGreatDoor
open Go.RowKit Go.Deep

set_option maxHeartbeats 1000000 in
theorem needEnd_any {p g cap : Nat} {ts : List Tok} {s : RS} {w : World} (h : RdAt p g cap ts s w) :
    Calls Tryz.prog 39 #[.pointer (some ⟨p, 0, none⟩)] w fun e w' => e = .returned (.tuple #[]) ∧ Did p g cap ts (needEndS ts s) w w' := by
  have H := Lib.hid h
  have HN := Lib.hid (next_any h)
  have HF := Lib.hid (fun (W : World) (R : RdAt p g cap ts s W) => refuse_any R)
  unfold needEndS
  generalize cur ts s = t at HN ⊢
  clear h
  have hfk := field_kind t
  by_cases hk : t.kind = 0
  · have d : ((t.kind : Int) != 0) = false := by simp [hk]
    rw [if_pos hk]
    clear hk
    go_enter Tryz.func39, Tryz.ntmps39
    go_wp2_with fail
    refine HN.out.mono ?_
    rintro e w1 ⟨rfl, b1⟩
    rw [tokV_eq]
    have D1 := Lib.hid (Did.of H.out b1)
    clear b1
    go_wp2_with fail
    go_end0
    exact ⟨rfl, D1.out⟩
  · have d : ((t.kind : Int) != 0) = true := by simp; omega
    rw [if_neg hk]
    clear hk
    go_enter Tryz.func39, Tryz.ntmps39
    go_wp2_with fail
    refine HN.out.mono ?_
    rintro e w1 ⟨rfl, b1⟩
    rw [tokV_eq]
    have D1 := Lib.hid (Did.of H.out b1)
    clear b1
    go_wp2_with fail
    refine (HF.out _ D1.out.rd).mono ?_
    rintro e w2 ⟨rfl, d2⟩
    have D2 := Lib.hid (D1.out.trans d2)
    clear d2
    go_wp2_with fail
    go_end0
    exact ⟨rfl, D2.out⟩
theorem field_pos (t : Tok) (w : World) : (Instr.field 50 (.agg (tokA t)) 4).run Tryz.prog w = .ok (.agg #[.int .i64 (t.pos : Nat), .int .i64 (t.line : Nat), .int .i64 (t.col : Nat)]) w := by kernel_rfl
set_option maxHeartbeats 1000000 in
theorem newReader_any {g cap : Nat} {ts : List Tok} {k : Nat} {w : World} (ht : ToksAt g ts w) (hok : TsOk ts) (hk : k ≤ ts.length) :
    Calls Tryz.prog 80 #[.slice (some ⟨g, 0, none⟩) ts.length cap, .int .i64 (k : Nat)] w fun e w' =>
      ∃ p, w.heap.size ≤ p ∧ e = .returned (xV p (k : Nat) ((cur ts ⟨k, 0, 0, 0, 0⟩).pos : Nat) ((cur ts ⟨k, 0, 0, 0, 0⟩).line : Nat) ((cur ts ⟨k, 0, 0, 0, 0⟩).col : Nat)) ∧ RdAt p g cap ts ⟨k, 0, 0, 0, 0⟩ w' ∧ Below w.heap.size w w' := by
  have B0 := (Below.refl w.heap.size w).alloc (Nat.le_refl _) (.cells #[.pointer none, .int .i64 0, .int .i64 0, .int .i64 0, .int .i64 0] 90)
  have HB0 := Lib.hid B0
  have K0 := Lib.hid (heap_new w (.cells #[.pointer none, .int .i64 0, .int .i64 0, .int .i64 0, .int .i64 0] 90))
  have HN := Lib.hid (newR_any (cap := cap) (ht.kept B0.size (B0.block _ ht.lt)) hok hk)
  have HX := Lib.hid (fun (p : Nat) (W : World) (R : RdAt p g cap ts ⟨k, 0, 0, 0, 0⟩ W) => next_any R)
  generalize cur ts ⟨k, 0, 0, 0, 0⟩ = t at HX ⊢
  have hfp := field_pos t
  have hgl := ht.lt
  clear ht hok hk B0
  go_enter Tryz.func80, Tryz.ntmps80
  go_wp2_with fail
  generalize w.alloc (.cells #[.pointer none, .int .i64 0, .int .i64 0, .int .i64 0, .int .i64 0] 90) = W0 at HB0 K0 HN ⊢
  refine HN.out.mono ?_
  rintro e w1 ⟨rfl, r1, b1⟩
  have R1 := Lib.hid r1
  have hz0 := heap_lt K0.out
  have K1 := Lib.hid ((b1.block _ hz0).trans K0.out)
  have B1 := Lib.hid (HB0.out.trans (b1.mono HB0.out.size))
  have hp : w.heap.size < W0.heap.size := hz0
  generalize W0.heap.size = p at R1 hp ⊢
  clear r1 b1 hz0
  go_wp2_with fail
  refine (HX.out _ _ R1.out).mono ?_
  rintro e w2 ⟨rfl, b2⟩
  rw [tokV_eq]
  have R2 := Lib.hid (R1.out.below b2)
  have K2 := Lib.hid ((b2.block _ (heap_lt K1.out)).trans K1.out)
  have B2 := Lib.hid (B1.out.trans (b2.mono B1.out.size))
  have k2 := box_cells K2.out
  have f2 : ∀ o, w2.frozen? ⟨w.heap.size, o, none⟩ = false := fun o => by simp [World.frozen?, K2.out]
  clear b2
  have KF := Lib.hid (heap_setC (o := 4) (heap_setC (o := 3) (heap_setC (o := 2) (heap_setC (o := 1) (heap_setC (o := 0) K2.out (.pointer (some ⟨p, 0, none⟩))) (.int .i64 (k : Nat))) (.int .i64 (t.pos : Nat))) (.int .i64 (t.line : Nat))) (.int .i64 (t.col : Nat)))
  have h5 := heap_set5 w2 w.heap.size p (by omega) (.pointer (some ⟨p, 0, none⟩)) (.int .i64 (k : Nat)) (.int .i64 (t.pos : Nat)) (.int .i64 (t.line : Nat)) (.int .i64 (t.col : Nat))
  have h6 := heap_set5 w2 w.heap.size g (by omega) (.pointer (some ⟨p, 0, none⟩)) (.int .i64 (k : Nat)) (.int .i64 (t.pos : Nat)) (.int .i64 (t.line : Nat)) (.int .i64 (t.col : Nat))
  have RF := Lib.hid (show RdAt p g cap ts ⟨k, 0, 0, 0, 0⟩ (((((w2.setCell ⟨w.heap.size, 0, none⟩ (.pointer (some ⟨p, 0, none⟩))).setCell ⟨w.heap.size, 1, none⟩ (.int .i64 (k : Nat))).setCell ⟨w.heap.size, 2, none⟩ (.int .i64 (t.pos : Nat))).setCell ⟨w.heap.size, 3, none⟩ (.int .i64 (t.line : Nat))).setCell ⟨w.heap.size, 4, none⟩ (.int .i64 (t.col : Nat))) from ⟨h5.trans R2.out.blk, R2.out.toks.kept (by simp [World.setCell]) h6, R2.out.ne, R2.out.ok, R2.out.kle⟩)
  have BF := Lib.hid (((((B2.out.setCell (p := ⟨w.heap.size, 0, none⟩) (Nat.le_refl _) (.pointer (some ⟨p, 0, none⟩))).setCell (p := ⟨w.heap.size, 1, none⟩) (Nat.le_refl _) (.int .i64 (k : Nat))).setCell (p := ⟨w.heap.size, 2, none⟩) (Nat.le_refl _) (.int .i64 (t.pos : Nat))).setCell (p := ⟨w.heap.size, 3, none⟩) (Nat.le_refl _) (.int .i64 (t.line : Nat))).setCell (p := ⟨w.heap.size, 4, none⟩) (Nat.le_refl _) (.int .i64 (t.col : Nat)))
  have HP := Lib.hid hp
  clear h5 h6 hp
  go_wp2_with fail
  exact bodyPost_ret (v := xV p (k : Nat) (t.pos : Nat) (t.line : Nat) (t.col : Nat)) (results_cell (i := 4) (b := w.heap.size) Tryz.results80 Tryz.isAgg90 Tryz.sizeOf90 rfl rfl KF.out) rfl ⟨p, Nat.le_of_lt HP.out, rfl, RF.out, BF.out⟩
end Go.Proofs.YtpcldpnaljheoaaGreatDoor
end
section
namespace Go.Proofs.YtpcldpnaljheoaaGreatDoor
open Go.RowKit

def Stay (F : RS → XS) : Prop := ∀ s, s.f ≠ 0 → (F s).2 = s
theorem endT_kind (ts : List Tok) : (endT ts).kind = 0 := by unfold endT; split <;> rfl
theorem cur_fault (ts : List Tok) {s : RS} (h : s.f ≠ 0) : cur ts s = endT ts := if_neg h
theorem isT_f (ts : List Tok) {s : RS} (h : s.f ≠ 0) (l : List ByteArray) : isT ts s l = false := by
  unfold isT isW
  rw [cur_fault ts h, endT_kind]
  rfl
theorem takeT_f (ts : List Tok) {s : RS} (h : s.f ≠ 0) (l : List ByteArray) : takeT ts s l = (⟨#[]⟩, s) := takeT_no (isT_f ts h l)
theorem refuse_f (ts : List Tok) {s : RS} (h : s.f ≠ 0) : refuseS ts s = s := if_neg h
theorem needT_f (ts : List Tok) {s : RS} (h : s.f ≠ 0) (l : List ByteArray) : needT ts s l = s := by
  unfold needT
  rw [isT_f ts h, if_neg (by decide)]
  exact refuse_f ts h
theorem needN_f (ts : List Tok) {s : RS} (h : s.f ≠ 0) : needN ts s = (⟨#[]⟩, s) := by
  unfold needN
  rw [cur_fault ts h, endT_kind, if_neg (by decide), refuse_f ts h]
theorem opP_f (ts : List Tok) {s : RS} (h : s.f ≠ 0) (l : List ByteArray) : opP ts s l = (0, s) := by
  rcases opP_cases ts s l with ⟨_, e⟩ | ⟨e, _⟩
  · exact e
  · rw [isT_f ts h] at e; cases e
theorem rowP_f (ts : List Tok) (l : List ByteArray) (g : RS → XS) (m : Nat) (e : List D) {s : RS} (h : s.f ≠ 0) : rowP ts l g m e s = (e, s) := by
  cases m with
  | zero => rfl
  | succ m => unfold rowP; rw [opP_f ts h]; rfl
section
variable {ts : List Tok} {g : RS → XS}
theorem stay_term (hg : Stay g) : Stay (termP ts g) := fun s h => by
  unfold termP
  rw [hg s h, rowP_f ts _ g _ _ h]
theorem stay_first (hg : Stay g) : Stay (firstP ts g) := fun s h => by
  unfold firstP
  rw [isT_f ts h, if_neg (by decide)]
  exact stay_term hg s h
theorem stay_simple (hg : Stay g) : Stay (simpleP ts g) := fun s h => by
  unfold simpleP
  rw [stay_first hg s h, rowP_f ts _ _ _ _ h]
theorem stay_expr (hg : Stay g) : Stay (exprP ts g) := fun s h => by
  unfold exprP
  rw [stay_simple hg s h, opP_f ts h, if_pos rfl]
theorem stay_ops (m : Nat) (acc : List (List D)) {s : RS} (h : s.f ≠ 0) : opsP ts g m acc s = (acc, s) := by
  cases m with
  | zero => rfl
  | succ m => unfold opsP; rw [isT_f ts h, if_neg (by decide), needT_f ts h]
theorem stay_operands (hg : Stay g) {s : RS} (h : s.f ≠ 0) : (operandsP ts g s).2 = s := by
  unfold operandsP
  rw [isT_f ts h, if_neg (by decide), stay_expr hg s h, stay_ops _ _ h]
theorem stay_named (ts : List Tok) (g : RS → XS) : Stay (namedP ts g) := fun s h => by
  unfold namedP
  rw [needN_f ts h]
  dsimp only
  rw [takeT_f ts h]
  dsimp only
  rw [if_neg (by decide), if_neg (by decide), if_neg (by decide)]
theorem stay_const (ts : List Tok) : Stay (constP ts) := fun s h => by
  unfold constP
  rw [cur_fault ts h, endT_kind, isT_f ts h, isT_f ts h, if_neg (by decide), if_neg (by decide), if_neg (by decide), if_neg (by decide)]
  exact refuse_f ts h
theorem stay_factor : Stay (factorP ts g) := fun s h => by
  unfold factorP
  rw [cur_fault ts h, endT_kind, isT_f ts h, isT_f ts h, if_neg (by decide), if_neg (by decide), if_neg (by decide)]
  exact stay_const ts s h
end
theorem stay_fac (ts : List Tok) : ∀ n, Stay (fac ts n)
  | 0 => fun _ _ => rfl
  | _ + 1 => stay_factor
/-- An answer without a fault comes of a state without one. -/
theorem Stay.no {F : RS → XS} (h : Stay F) {s : RS} (hf : (F s).2.f = 0) : s.f = 0 := by
  by_cases e : s.f = 0
  · exact e
  · rw [h s e] at hf; exact absurd hf e
theorem code_ne (t : Tok) : codeT t ≠ 0 := by unfold codeT; split <;> decide
theorem refuse_ne (ts : List Tok) (s : RS) : (refuseS ts s).f ≠ 0 := by
  unfold refuseS failS
  by_cases h : s.f = 0
  · rw [if_pos h]; exact code_ne _
  · rw [if_neg h]; exact h
end Go.Proofs.YtpcldpnaljheoaaGreatDoor
end
section
namespace Go.Proofs.YtpcldpnaljheoaaGreatDoor
open Go.RowKit

/-- A token but for its place. -/
structure Bt where
  kind : Nat
  text : ByteArray
  n : Nat
def btk (t : Tok) : Bt := ⟨t.kind, t.text, t.n⟩
def isB (t : Bt) (l : List ByteArray) : Bool := (t.kind == 2 || t.kind == 5) && isIn t.text l
theorem isB_bt (t : Tok) (l : List ByteArray) : isB (btk t) l = isW t l := rfl
inductive OpS (l : List ByteArray) : List Bt → Nat → Prop
  | one (t : Bt) (o : Nat) : isB t l = true → o = opNo signsP t.text → OpS l [t] o
  | orElse (t u : Bt) : isB t l = true → t.text = orB → isB u [elseB] = true → OpS l [t, u] 18
  | andThen (t u : Bt) : isB t l = true → t.text = andB → isB u [thenB] = true → OpS l [t, u] 14
/-- Level 0: the operands of a call, the closing bracket with them. -/
inductive Der : Nat → List Bt → List D → Prop
  | int (t : Bt) : t.kind = 3 → Der 4 [t] (mkE 1 (t.n : Int) noB noB [])
  | chr (t : Bt) : t.kind = 4 → Der 4 [t] (mkE 3 (t.n : Int) noB noB [])
  | fls (t : Bt) : isB t [falseB] = true → Der 4 [t] (mkE 2 0 noB noB [])
  | tru (t : Bt) : isB t [trueB] = true → Der 4 [t] (mkE 2 1 noB noB [])
  | no (t : Bt) (T : List Bt) (e : List D) : isB t [notB] = true → Der 4 T e → Der 4 (t :: T) (mkE 9 0 noB noB [e])
  | par (t u : Bt) (T : List Bt) (e : List D) : isB t [⟨#[40]⟩] = true → Der 1 T e → isB u [⟨#[41]⟩] = true → Der 4 (t :: (T ++ [u])) e
  | var (t : Bt) : t.kind = 1 → Der 4 [t] (mkE 4 0 t.text noB [])
  | idx (t u v : Bt) (T : List Bt) (e : List D) : t.kind = 1 → isB u [⟨#[91]⟩] = true → Der 1 T e → isB v [⟨#[93]⟩] = true → Der 4 (t :: u :: (T ++ [v])) (mkE 5 0 t.text noB [e])
  | fld (t u v : Bt) : t.kind = 1 → isB u [⟨#[46]⟩] = true → v.kind = 1 → Der 4 [t, u, v] (mkE 6 0 t.text v.text [])
  | call0 (t u v : Bt) : t.kind = 1 → isB u [⟨#[40]⟩] = true → isB v [⟨#[41]⟩] = true → Der 4 [t, u, v] (mkE 7 0 t.text noB [])
  | call (t u : Bt) (T : List Bt) (l : List (List D)) : t.kind = 1 → isB u [⟨#[40]⟩] = true → Der 0 T [.row l] → Der 4 (t :: u :: T) (mkE 7 0 t.text noB l)
  | last (u : Bt) (T : List Bt) (e : List D) : Der 1 T e → isB u [⟨#[41]⟩] = true → Der 0 (T ++ [u]) [.row [e]]
  | more (u : Bt) (T T' : List Bt) (e : List D) (l : List (List D)) : Der 1 T e → isB u [⟨#[44]⟩] = true → Der 0 T' [.row l] → Der 0 (T ++ u :: T') [.row (e :: l)]
  | up3 (T : List Bt) (e : List D) : Der 4 T e → Der 3 T e
  | up2 (T : List Bt) (e : List D) : Der 3 T e → Der 2 T e
  | up1 (T : List Bt) (e : List D) : Der 2 T e → Der 1 T e
  | mul (T S T' : List Bt) (o : Nat) (a b : List D) : Der 3 T a → OpS mulL S o → Der 4 T' b → Der 3 (T ++ (S ++ T')) (mkE (o : Int) 0 noB noB [a, b])
  | neg (t : Bt) (T : List Bt) (e : List D) : isB t [⟨#[45]⟩] = true → Der 3 T e → Der 2 (t :: T) (mkE 8 0 noB noB [e])
  | add (T S T' : List Bt) (o : Nat) (a b : List D) : Der 2 T a → OpS addL S o → Der 3 T' b → Der 2 (T ++ (S ++ T')) (mkE (o : Int) 0 noB noB [a, b])
  | cmp (T S T' : List Bt) (o : Nat) (a b : List D) : Der 2 T a → OpS cmpL S o → Der 2 T' b → Der 1 (T ++ (S ++ T')) (mkE (o : Int) 0 noB noB [a, b])

/-- The tokens from i to j. -/
def seg (ts : List Tok) (i j : Nat) : List Bt := ((ts.drop i).take (j - i)).map btk
theorem seg_self (ts : List Tok) (i : Nat) : seg ts i i = [] := by simp [seg]
theorem seg_one {ts : List Tok} {i : Nat} {t : Tok} (h : ts[i]? = some t) : seg ts i (i + 1) = [btk t] := by
  unfold seg
  obtain ⟨hl, rfl⟩ := List.getElem?_eq_some_iff.1 h
  rw [List.drop_eq_getElem_cons hl, show i + 1 - i = 1 by omega]
  rfl
theorem seg_app (ts : List Tok) {i j k : Nat} (h : i ≤ j) (h' : j ≤ k) : seg ts i k = seg ts i j ++ seg ts j k := by
  unfold seg
  rw [← List.map_append]
  congr 1
  rw [show k - i = (j - i) + (k - j) by omega, List.take_add, List.drop_drop, show i + (j - i) = j by omega]
/-- An answer of a level, if nothing is wrong. -/
def Good (ts : List Tok) (k : Nat) (s : RS) (x : XS) : Prop := s.f = 0 → x.2.f = 0 → s.k < x.2.k ∧ x.2.k ≤ ts.length ∧ Der k (seg ts s.k x.2.k) x.1
end Go.Proofs.YtpcldpnaljheoaaGreatDoor
end
section
namespace Go.Proofs.YtpcldpnaljheoaaGreatDoor
open Go.RowKit

def GoodF (ts : List Tok) (k n : Nat) (F : RS → XS) : Prop := ∀ s, leftS ts s < n → Good ts k s (F s)
theorem left_eq {ts : List Tok} {s : RS} (h : s.f = 0) : leftS ts s = ts.length - s.k := if_pos h
theorem isT_seg {ts : List Tok} {s : RS} {l : List ByteArray} (h : isT ts s l = true) : s.f = 0 ∧ s.k < ts.length ∧ ts[s.k]? = some (cur ts s) ∧ isB (btk (cur ts s)) l = true :=
  ⟨(isT_k h).1, (isT_k h).2.1, (isT_k h).2.2, h⟩
theorem opP_seg {ts : List Tok} {l : List ByteArray} (hl : ∀ t ∈ l, opNo signsP t ≠ 0) (s : RS) : opP ts s l = (0, s) ∨
    ((opP ts s l).1 ≠ 0 ∧ s.f = 0 ∧ (opP ts s l).2.f = 0 ∧ s.k < (opP ts s l).2.k ∧ (opP ts s l).2.k ≤ ts.length ∧ OpS l (seg ts s.k (opP ts s l).2.k) (opP ts s l).1) := by
  cases h : isT ts s l with
  | false =>
    rcases opP_cases ts s l with ⟨_, e⟩ | ⟨e, _⟩
    · exact .inl e
    · rw [h] at e; cases e
  | true =>
    right
    obtain ⟨hf, hk, ht, hb⟩ := isT_seg h
    have e1 := takeT_yes h
    have hsf : (stepS s).f = 0 := hf
    unfold opP
    rw [e1]
    dsimp only
    by_cases c1 : (cur ts s).text = orB ∧ isT ts (stepS s) [elseB] = true
    · obtain ⟨_, hk2, ht2, hb2⟩ := isT_seg c1.2
      rw [if_pos c1]
      refine ⟨(by decide : (18 : Nat) ≠ 0), hf, hsf, by show s.k < s.k + 1 + 1; omega, hk2, ?_⟩
      show OpS l (seg ts s.k (s.k + 1 + 1)) 18
      rw [seg_app ts (show s.k ≤ s.k + 1 by omega) (show s.k + 1 ≤ s.k + 1 + 1 by omega), seg_one ht, seg_one (i := s.k + 1) ht2]
      exact .orElse _ _ hb c1.1 hb2
    · rw [if_neg c1]
      by_cases c2 : (cur ts s).text = andB ∧ isT ts (stepS s) [thenB] = true
      · obtain ⟨_, hk2, ht2, hb2⟩ := isT_seg c2.2
        rw [if_pos c2]
        refine ⟨(by decide : (14 : Nat) ≠ 0), hf, hsf, by show s.k < s.k + 1 + 1; omega, hk2, ?_⟩
        show OpS l (seg ts s.k (s.k + 1 + 1)) 14
        rw [seg_app ts (show s.k ≤ s.k + 1 by omega) (show s.k + 1 ≤ s.k + 1 + 1 by omega), seg_one ht, seg_one (i := s.k + 1) ht2]
        exact .andThen _ _ hb c2.1 hb2
      · rw [if_neg c2]
        refine ⟨?_, hf, hsf, by show s.k < s.k + 1; omega, hk, ?_⟩
        · have h2 := h
          unfold isT isW at h2
          rw [Bool.and_eq_true] at h2
          exact hl _ ((isIn_iff _ _).1 h2.2)
        · show OpS l (seg ts s.k (s.k + 1)) _
          rw [seg_one ht]
          exact .one _ _ hb rfl
theorem row_good {ts : List Tok} {l : List ByteArray} {lvl j n : Nat} (hl : ∀ t ∈ l, opNo signsP t ≠ 0)
    (C : ∀ (T S T' : List Bt) (o : Nat) (a b : List D), Der lvl T a → OpS l S o → Der j T' b → Der lvl (T ++ (S ++ T')) (mkE (o : Int) 0 noB noB [a, b]))
    {g : RS → XS} (hg : GoodF ts j n g) (hst : Stay g) (i : Nat) : ∀ (m : Nat) (e : List D) (s : RS), s.f = 0 → i < s.k → s.k ≤ ts.length → leftS ts s < n → Der lvl (seg ts i s.k) e →
      (rowP ts l g m e s).2.f = 0 → i < (rowP ts l g m e s).2.k ∧ (rowP ts l g m e s).2.k ≤ ts.length ∧ Der lvl (seg ts i (rowP ts l g m e s).2.k) (rowP ts l g m e s).1
  | 0, _, _, _, hi, hk, _, hd, _ => ⟨hi, hk, hd⟩
  | m + 1, e, s, hf, hi, hk, hn, hd, hr => by
    unfold rowP at hr ⊢
    rcases opP_seg (ts := ts) hl s with e0 | ⟨h1, _, h2, h3, h4, h5⟩
    · rw [e0, if_pos rfl]
      exact ⟨hi, hk, hd⟩
    · rw [if_neg h1] at hr ⊢
      have hxf : (g (opP ts s l).2).2.f = 0 := by
        by_cases hx : (g (opP ts s l).2).2.f = 0
        · exact hx
        · rw [rowP_f ts l g m _ hx] at hr; exact absurd hr hx
      have hn2 : leftS ts (opP ts s l).2 < n := by rw [left_eq h2]; rw [left_eq hf] at hn; omega
      obtain ⟨k1, k2, d⟩ := hg _ hn2 h2 hxf
      refine row_good hl C hg hst i m _ _ hxf (by omega) k2 (by rw [left_eq hxf]; rw [left_eq hf] at hn; omega) ?_ hr
      rw [seg_app ts (show i ≤ s.k by omega) (show s.k ≤ (g (opP ts s l).2).2.k by omega), seg_app ts (show s.k ≤ (opP ts s l).2.k by omega) (show (opP ts s l).2.k ≤ (g (opP ts s l).2).2.k by omega)]
      exact C _ _ _ _ _ _ hd h5 d
theorem mul_ne : ∀ t ∈ mulL, opNo signsP t ≠ 0 := by decide
theorem add_ne : ∀ t ∈ addL, opNo signsP t ≠ 0 := by decide
theorem cmp_ne : ∀ t ∈ cmpL, opNo signsP t ≠ 0 := by decide
section
variable {ts : List Tok} {n : Nat} {g : RS → XS}
theorem good_term (hg : GoodF ts 4 n g) (hst : Stay g) : GoodF ts 3 n (termP ts g) := fun s hn hf hr => by
  unfold termP at hr ⊢
  have hxf : (g s).2.f = 0 := by
    by_cases hx : (g s).2.f = 0
    · exact hx
    · rw [rowP_f ts _ g _ _ hx] at hr; exact absurd hr hx
  obtain ⟨k1, k2, d⟩ := hg s hn hf hxf
  exact row_good (lvl := 3) mul_ne (fun T S T' o a b => Der.mul T S T' o a b) hg hst s.k _ _ _ hxf k1 k2 (by rw [left_eq hxf]; rw [left_eq hf] at hn; omega) (.up3 _ _ d) hr
theorem good_first (hg : GoodF ts 4 n g) (hst : Stay g) : GoodF ts 2 n (firstP ts g) := fun s hn hf hr => by
  unfold firstP at hr ⊢
  cases h : isT ts s [⟨#[45]⟩] with
  | false =>
    rw [h, if_neg (by decide)] at hr
    rw [if_neg (by decide)]
    obtain ⟨k1, k2, d⟩ := good_term hg hst s hn hf hr
    exact ⟨k1, k2, .up2 _ _ d⟩
  | true =>
    obtain ⟨_, hk, ht, hb⟩ := isT_seg h
    rw [h, if_pos rfl] at hr
    rw [if_pos rfl]
    obtain ⟨k1, k2, d⟩ := good_term hg hst (stepS s) (Nat.lt_trans (left_stepT h) hn) hf hr
    have k1' : s.k + 1 < (termP ts g (stepS s)).2.k := k1
    refine ⟨by show s.k < (termP ts g (stepS s)).2.k; omega, k2, ?_⟩
    show Der 2 (seg ts s.k (termP ts g (stepS s)).2.k) (mkE 8 0 noB noB [(termP ts g (stepS s)).1])
    rw [seg_app ts (show s.k ≤ s.k + 1 by omega) (show s.k + 1 ≤ _ from Nat.le_of_lt k1'), seg_one ht]
    exact .neg _ _ _ hb d
theorem good_simple (hg : GoodF ts 4 n g) (hst : Stay g) : GoodF ts 2 n (simpleP ts g) := fun s hn hf hr => by
  unfold simpleP at hr ⊢
  have hxf : (firstP ts g s).2.f = 0 := by
    by_cases hx : (firstP ts g s).2.f = 0
    · exact hx
    · rw [rowP_f ts _ _ _ _ hx] at hr; exact absurd hr hx
  obtain ⟨k1, k2, d⟩ := good_first hg hst s hn hf hxf
  exact row_good (lvl := 2) add_ne (fun T S T' o a b => Der.add T S T' o a b) (good_term hg hst) (stay_term hst) s.k _ _ _ hxf k1 k2 (by rw [left_eq hxf]; rw [left_eq hf] at hn; omega) d hr
theorem good_expr (hg : GoodF ts 4 n g) (hst : Stay g) : GoodF ts 1 n (exprP ts g) := fun s hn hf hr => by
  unfold exprP at hr ⊢
  have A := good_simple hg hst s hn hf
  generalize simpleP ts g s = x at A hr ⊢
  have B := opP_seg (ts := ts) cmp_ne x.2
  generalize opP ts x.2 cmpL = o at B hr ⊢
  rcases B with rfl | ⟨h1, h0, h2, h3, h4, h5⟩
  · rw [if_pos rfl] at hr ⊢
    obtain ⟨k1, k2, d⟩ := A hr
    exact ⟨k1, k2, .up1 _ _ d⟩
  · rw [if_neg h1] at hr ⊢
    obtain ⟨k1, k2, d⟩ := A h0
    have hn2 : leftS ts o.2 < n := by rw [left_eq h2]; rw [left_eq hf] at hn; omega
    have C := good_simple hg hst o.2 hn2 h2
    generalize simpleP ts g o.2 = y at C hr ⊢
    obtain ⟨k3, k4, d2⟩ := C hr
    refine ⟨by show s.k < y.2.k; omega, k4, ?_⟩
    show Der 1 (seg ts s.k y.2.k) (mkE o.1 0 noB noB [x.1, y.1])
    rw [seg_app ts (show s.k ≤ x.2.k by omega) (show x.2.k ≤ y.2.k by omega), seg_app ts (show x.2.k ≤ o.2.k by omega) (show o.2.k ≤ y.2.k by omega)]
    exact .cmp _ _ _ _ _ _ d h5 d2
theorem seg_tok {i k : Nat} {t : Tok} (h : ts[i]? = some t) (hk : i + 1 ≤ k) : seg ts i k = btk t :: seg ts (i + 1) k := by
  rw [seg_app ts (show i ≤ i + 1 by omega) hk, seg_one h]
  rfl
theorem good_ops (hg : GoodF ts 4 n g) (hst : Stay g) : ∀ (m i : Nat) (acc : List (List D)) (e : List D) (s : RS), s.f = 0 → i < s.k → s.k ≤ ts.length → leftS ts s < n → leftS ts s < m → Der 1 (seg ts i s.k) e →
    (opsP ts g m (acc ++ [e]) s).2.f = 0 → i < (opsP ts g m (acc ++ [e]) s).2.k ∧ (opsP ts g m (acc ++ [e]) s).2.k ≤ ts.length ∧
      ∃ l, (opsP ts g m (acc ++ [e]) s).1 = acc ++ e :: l ∧ Der 0 (seg ts i (opsP ts g m (acc ++ [e]) s).2.k) [.row (e :: l)]
  | 0, _, _, _, _, _, _, _, _, hm, _, _ => absurd hm (Nat.not_lt_zero _)
  | m + 1, i, acc, e, s, hf, hi, hk, hn, hm, hd, hr => by
    unfold opsP at hr ⊢
    cases h : isT ts s [⟨#[44]⟩] with
    | true =>
      obtain ⟨_, hk2, ht, hb⟩ := isT_seg h
      rw [h, if_pos rfl] at hr
      rw [if_pos rfl]
      have hsl := left_stepT h
      have E := good_expr hg hst (stepS s) (Nat.lt_trans hsl hn) hf
      generalize exprP ts g (stepS s) = x at E hr ⊢
      have hxf : x.2.f = 0 := by
        by_cases hx : x.2.f = 0
        · exact hx
        · rw [stay_ops _ _ hx] at hr; exact absurd hr hx
      obtain ⟨k1, k2, d⟩ := E hxf
      have k1' : s.k + 1 < x.2.k := k1
      have hll : leftS ts x.2 < leftS ts s := by rw [left_eq hxf, left_eq hf]; omega
      have I := good_ops hg hst m (s.k + 1) (acc ++ [e]) x.1 x.2 hxf k1' k2 (Nat.lt_trans hll hn) (by omega) d
      generalize opsP ts g m (acc ++ [e] ++ [x.1]) x.2 = y at I hr ⊢
      obtain ⟨k3, k4, l, e1, d2⟩ := I hr
      refine ⟨by omega, k4, x.1 :: l, by rw [e1, List.append_assoc]; rfl, ?_⟩
      rw [seg_app ts (show i ≤ s.k by omega) (show s.k ≤ y.2.k by omega), seg_tok ht (by omega)]
      exact .more _ _ _ _ _ hd hb d2
    | false =>
      rw [h, if_neg (by decide)] at hr
      rw [if_neg (by decide)]
      unfold needT at hr ⊢
      cases h2 : isT ts s [⟨#[41]⟩] with
      | false => rw [h2, if_neg (by decide)] at hr; exact absurd hr (refuse_ne ts s)
      | true =>
        obtain ⟨_, hk2, ht, hb⟩ := isT_seg h2
        rw [if_pos rfl]
        refine ⟨by show i < s.k + 1; omega, hk2, [], rfl, ?_⟩
        show Der 0 (seg ts i (s.k + 1)) _
        rw [seg_app ts (show i ≤ s.k by omega) (show s.k ≤ s.k + 1 by omega), seg_one ht]
        exact .last _ _ _ hd hb
theorem good_operands (hg : GoodF ts 4 n g) (hst : Stay g) (s : RS) (hn : leftS ts s < n) (hf : s.f = 0) (hr : (operandsP ts g s).2.f = 0) :
    s.k < (operandsP ts g s).2.k ∧ (operandsP ts g s).2.k ≤ ts.length ∧ (((operandsP ts g s).1 = [] ∧ ∃ v, isB v [⟨#[41]⟩] = true ∧ seg ts s.k (operandsP ts g s).2.k = [v]) ∨ Der 0 (seg ts s.k (operandsP ts g s).2.k) [.row (operandsP ts g s).1]) := by
  unfold operandsP at hr ⊢
  cases h3 : isT ts s [⟨#[41]⟩] with
  | true =>
    obtain ⟨_, hk3, ht3, hb3⟩ := isT_seg h3
    rw [if_pos rfl]
    exact ⟨Nat.lt_succ_self _, hk3, .inl ⟨rfl, _, hb3, seg_one ht3⟩⟩
  | false =>
    rw [h3, if_neg (by decide)] at hr
    rw [if_neg (by decide)]
    have E := good_expr hg hst s hn hf
    generalize exprP ts g s = x at E hr ⊢
    have hxf : x.2.f = 0 := by
      by_cases hx : x.2.f = 0
      · exact hx
      · rw [stay_ops _ _ hx] at hr; exact absurd hr hx
    obtain ⟨k1, k2, d⟩ := E hxf
    have hll : leftS ts x.2 < leftS ts s := by rw [left_eq hxf, left_eq hf]; omega
    have hle : leftS ts x.2 < ts.length + 1 := by rw [left_eq hxf]; omega
    have I := good_ops hg hst (ts.length + 1) s.k [] x.1 x.2 hxf k1 k2 (Nat.lt_trans hll hn) hle d
    rw [List.nil_append] at I
    generalize opsP ts g (ts.length + 1) [x.1] x.2 = y at I hr ⊢
    obtain ⟨k3, k4, l, e1, d2⟩ := I hr
    rw [List.nil_append] at e1
    exact ⟨k3, k4, .inr (by rw [e1]; exact d2)⟩
theorem good_named (hg : GoodF ts 4 n g) (hst : Stay g) : GoodF ts 4 (n + 1) (namedP ts g) := fun s hn hf hr => by
  unfold namedP at hr ⊢
  by_cases hk : (cur ts s).kind = 1
  · have e1 : needN ts s = ((cur ts s).text, stepS s) := if_pos hk
    obtain ⟨_, hkl, htk⟩ := cur_k (ts := ts) (s := s) (by omega)
    rw [e1] at hr ⊢
    dsimp only at hr ⊢
    have hlt : leftS ts (stepS s) < n := Nat.lt_of_lt_of_le (left_step (cur_k (ts := ts) (s := s) (by omega))) (Nat.le_of_lt_succ hn)
    have hsf : (stepS s).f = 0 := hf
    cases h : isT ts (stepS s) brL with
    | false =>
      rw [takeT_no h]
      dsimp only
      rw [if_neg (by decide), if_neg (by decide), if_neg (by decide)]
      refine ⟨Nat.lt_succ_self _, hkl, ?_⟩
      show Der 4 (seg ts s.k (s.k + 1)) _
      rw [seg_one htk]
      exact .var (btk (cur ts s)) hk
    | true =>
      obtain ⟨_, hk2, ht2, _⟩ := isT_seg h
      have ht2' : ts[s.k + 1]? = some (cur ts (stepS s)) := ht2
      have hl2 := Nat.lt_trans (left_stepT h) hlt
      have hs2 : (stepS (stepS s)).f = 0 := hf
      have hw : ∀ x, (cur ts (stepS s)).text = x → isB (btk (cur ts (stepS s))) [x] = true := fun x hx => by
        have h2 := h
        unfold isT isW at h2
        unfold isB
        rw [Bool.and_eq_true] at h2 ⊢
        exact ⟨h2.1, (isIn_iff _ _).2 (by rw [← hx]; exact List.mem_singleton.2 rfl)⟩
      have hbr : (cur ts (stepS s)).text = ⟨#[40]⟩ ∨ (cur ts (stepS s)).text = ⟨#[91]⟩ ∨ (cur ts (stepS s)).text = ⟨#[46]⟩ := by
        have h2 := h
        unfold isT isW at h2
        rw [Bool.and_eq_true] at h2
        have hm := (isIn_iff _ _).1 h2.2
        unfold brL at hm
        simpa only [List.mem_cons, List.mem_nil_iff, or_false] using hm
      rw [takeT_yes h] at hr ⊢
      dsimp only at hr ⊢
      have hss : (stepS (stepS s)).k = s.k + 1 + 1 := rfl
      rcases hbr with c | c | c
      · rw [if_pos c] at hr ⊢
        have O := good_operands hg hst (stepS (stepS s)) hl2 hs2
        generalize operandsP ts g (stepS (stepS s)) = y at O hr ⊢
        obtain ⟨k1, k2, d⟩ := O hr
        rw [hss] at k1 d
        refine ⟨by show s.k < y.2.k; omega, k2, ?_⟩
        show Der 4 (seg ts s.k y.2.k) (mkE 7 0 (cur ts s).text noB y.1)
        rw [seg_tok htk (by omega), seg_tok ht2' (by omega)]
        rcases d with ⟨e2, v, hv, e3⟩ | d
        · rw [e2, e3]
          exact .call0 (btk (cur ts s)) _ _ hk (hw _ c) hv
        · exact .call (btk (cur ts s)) _ _ _ hk (hw _ c) d
      · rw [if_neg (by rw [c]; decide), if_pos c] at hr ⊢
        dsimp only at hr ⊢
        have E := good_expr hg hst (stepS (stepS s)) hl2 hs2
        generalize exprP ts g (stepS (stepS s)) = x at E hr ⊢
        have hxf : x.2.f = 0 := by
          by_cases hx : x.2.f = 0
          · exact hx
          · rw [needT_f ts hx] at hr; exact absurd hr hx
        obtain ⟨k1, k2, d⟩ := E hxf
        rw [hss] at k1 d
        unfold needT at hr ⊢
        cases h3 : isT ts x.2 [⟨#[93]⟩] with
        | false => rw [h3, if_neg (by decide)] at hr; exact absurd hr (refuse_ne ts _)
        | true =>
          obtain ⟨_, hk3, ht3, hb3⟩ := isT_seg h3
          rw [if_pos rfl]
          refine ⟨by show s.k < x.2.k + 1; omega, hk3, ?_⟩
          show Der 4 (seg ts s.k (x.2.k + 1)) _
          rw [seg_tok htk (by omega), seg_tok ht2' (by omega), seg_app ts (show s.k + 1 + 1 ≤ x.2.k by omega) (show x.2.k ≤ x.2.k + 1 by omega), seg_one ht3]
          exact .idx (btk (cur ts s)) _ _ _ _ hk (hw _ c) d hb3
      · rw [if_neg (by rw [c]; decide), if_neg (by rw [c]; decide), if_pos c] at hr ⊢
        dsimp only at hr ⊢
        by_cases hk3 : (cur ts (stepS (stepS s))).kind = 1
        · have e3 : needN ts (stepS (stepS s)) = ((cur ts (stepS (stepS s))).text, stepS (stepS (stepS s))) := if_pos hk3
          obtain ⟨_, hkl3, ht3⟩ := cur_k (ts := ts) (s := stepS (stepS s)) (by omega)
          rw [e3]
          refine ⟨by show s.k < s.k + 1 + 1 + 1; omega, hkl3, ?_⟩
          show Der 4 (seg ts s.k (s.k + 1 + 1 + 1)) _
          rw [seg_tok htk (by omega), seg_tok ht2' (by omega), seg_one (i := s.k + 1 + 1) ht3]
          exact .fld (btk (cur ts s)) _ (btk (cur ts (stepS (stepS s)))) hk (hw _ c) hk3
        · have e3 : needN ts (stepS (stepS s)) = (⟨#[]⟩, refuseS ts (stepS (stepS s))) := if_neg hk3
          rw [e3] at hr
          exact absurd hr (refuse_ne ts _)
  · have e1 : needN ts s = (⟨#[]⟩, refuseS ts s) := if_neg hk
    rw [e1] at hr
    dsimp only at hr
    rw [takeT_f ts (refuse_ne ts s)] at hr
    dsimp only at hr
    rw [if_neg (by decide), if_neg (by decide), if_neg (by decide)] at hr
    exact absurd hr (refuse_ne ts s)
theorem good_const : GoodF ts 4 n (constP ts) := fun s _ hf hr => by
  have one : ∀ x : List D, (cur ts s).kind ≠ 0 → Der 4 [btk (cur ts s)] x → Good ts 4 s (x, stepS s) := fun x h0 hd _ _ => by
    obtain ⟨_, hkl, ht⟩ := cur_k (ts := ts) (s := s) h0
    refine ⟨by show s.k < s.k + 1; omega, hkl, ?_⟩
    show Der 4 (seg ts s.k (s.k + 1)) x
    rw [seg_one ht]
    exact hd
  unfold constP at hr ⊢
  by_cases c1 : (cur ts s).kind = 3
  · rw [if_pos c1]
    exact one _ (by omega) (.int (btk (cur ts s)) c1) hf hf
  · rw [if_neg c1] at hr ⊢
    by_cases c2 : (cur ts s).kind = 4
    · rw [if_pos c2]
      exact one _ (by omega) (.chr (btk (cur ts s)) c2) hf hf
    · rw [if_neg c2] at hr ⊢
      by_cases c3 : isT ts s [falseB] = true
      · rw [if_pos c3]
        exact one _ (isW_kind c3) (.fls _ c3) hf hf
      · rw [if_neg c3] at hr ⊢
        by_cases c4 : isT ts s [trueB] = true
        · rw [if_pos c4]
          exact one _ (isW_kind c4) (.tru _ c4) hf hf
        · rw [if_neg c4] at hr
          exact absurd hr (refuse_ne ts s)
theorem good_factor (hg : GoodF ts 4 n g) (hst : Stay g) : GoodF ts 4 (n + 1) (factorP ts g) := fun s hn hf hr => by
  unfold factorP at hr ⊢
  have hs1 : (stepS s).k = s.k + 1 := rfl
  by_cases c1 : isT ts s [notB] = true
  · rw [if_pos c1] at hr ⊢
    obtain ⟨_, hk, ht, hb⟩ := isT_seg c1
    have G := hg (stepS s) (by have := left_stepT c1; omega) hf
    generalize g (stepS s) = x at G hr ⊢
    obtain ⟨k1, k2, d⟩ := G hr
    rw [hs1] at k1 d
    refine ⟨by show s.k < x.2.k; omega, k2, ?_⟩
    show Der 4 (seg ts s.k x.2.k) (mkE 9 0 noB noB [x.1])
    rw [seg_tok ht (by omega)]
    exact .no _ _ _ hb d
  · rw [if_neg c1] at hr ⊢
    by_cases c2 : isT ts s [⟨#[40]⟩] = true
    · rw [if_pos c2] at hr ⊢
      obtain ⟨_, hk, ht, hb⟩ := isT_seg c2
      dsimp only at hr ⊢
      have E := good_expr hg hst (stepS s) (by have := left_stepT c2; omega) hf
      generalize exprP ts g (stepS s) = x at E hr ⊢
      have hxf : x.2.f = 0 := by
        by_cases hx : x.2.f = 0
        · exact hx
        · rw [needT_f ts hx] at hr; exact absurd hr hx
      obtain ⟨k1, k2, d⟩ := E hxf
      rw [hs1] at k1 d
      unfold needT at hr ⊢
      cases h3 : isT ts x.2 [⟨#[41]⟩] with
      | false => rw [h3, if_neg (by decide)] at hr; exact absurd hr (refuse_ne ts _)
      | true =>
        obtain ⟨_, hk3, ht3, hb3⟩ := isT_seg h3
        rw [if_pos rfl]
        refine ⟨by show s.k < x.2.k + 1; omega, hk3, ?_⟩
        show Der 4 (seg ts s.k (x.2.k + 1)) x.1
        rw [seg_tok ht (by omega), seg_app ts (show s.k + 1 ≤ x.2.k by omega) (show x.2.k ≤ x.2.k + 1 by omega), seg_one ht3]
        exact .par _ _ _ _ hb d hb3
    · rw [if_neg c2] at hr ⊢
      by_cases c3 : (cur ts s).kind = 1
      · rw [if_pos c3] at hr ⊢
        exact good_named hg hst s hn hf hr
      · rw [if_neg c3] at hr ⊢
        exact good_const (n := n + 1) s hn hf hr
end
theorem good_fac (ts : List Tok) : ∀ n, GoodF ts 4 n (fac ts n)
  | 0 => fun _ hn => absurd hn (Nat.not_lt_zero _)
  | n + 1 => good_factor (good_fac ts n) (stay_fac ts n)
/-- What is read of all is of the grammar. -/
theorem good_all (ts : List Tok) (s : RS) : Good ts 1 s (exprP ts (fac ts (ts.length + 1)) s) :=
  good_expr (good_fac ts _) (stay_fac ts _) s (by unfold leftS; split <;> omega)
end Go.Proofs.YtpcldpnaljheoaaGreatDoor
end
section
namespace Go.Proofs.YtpcldpnaljheoaaGreatDoor
open Go.RowKit Go.Deep Go.Sort

def kidsX : List D → List (List D)
  | [_, _, _, _, .row l] => l
  | _ => []
def opX : List D → Int
  | .int o :: _ => o
  | _ => 0
def cntd (x : List D) : Bool := decide (opX x ≠ 25)
def nextRow (row : List (List D)) : List (List D) := row.flatMap fun x => (kidsX x).filter cntd
def lng1 (lo : Nat) (x : List D) : Nat := if opX x = 7 then max lo (kidsX x).length else lo
def longFrom (lo : Nat) (row : List (List D)) : Nat := row.foldl lng1 lo
def measP : Nat → List (List D) → Nat → Nat → Nat × Nat
  | 0, _, d, lo => (d, lo)
  | m + 1, row, d, lo => if row = [] then (d, lo) else measP m (nextRow row) (d + 1) (longFrom lo row)
theorem measP_nil (m d lo : Nat) : measP m [] d lo = (d, lo) := by
  cases m with
  | zero => rfl
  | succ m => unfold measP; rw [if_pos rfl]
mutual
def nD : D → Nat
  | .int _ => 0
  | .bool _ => 0
  | .str _ => 0
  | .row l => nRows l
def nRow : List D → Nat
  | [] => 0
  | d :: r => nD d + nRow r
def nRows : List (List D) → Nat
  | [] => 0
  | x :: l => nRow x + 1 + nRows l
end
theorem nRow_E (op n : Int) (nm fd : ByteArray) (l : List (List D)) : nRow [.int op, .int n, .str nm, .str fd, .row l] = nRows l := by
  simp [nRow, nD]
theorem nRows_app : ∀ (a b : List (List D)), nRows (a ++ b) = nRows a + nRows b
  | [], b => by simp [nRows]
  | x :: a, b => by
    rw [List.cons_append]
    simp only [nRows, nRows_app a b]
    omega
theorem nRows_filter (q : List D → Bool) : ∀ (a : List (List D)), nRows (a.filter q) ≤ nRows a
  | [] => Nat.le_refl _
  | x :: a => by
    have := nRows_filter q a
    by_cases h : q x = true
    · rw [List.filter_cons_of_pos h]
      simp only [nRows]
      omega
    · rw [List.filter_cons_of_neg h]
      simp only [nRows]
      omega
theorem nRows_kids {x : List D} (h : ShE x) : nRows (kidsX x) = nRow x := by
  cases h with
  | mk op n nm fd l _ => exact (nRow_E op n nm fd l).symm
theorem len_nRows : ∀ (a : List (List D)), a.length ≤ nRows a
  | [] => Nat.le_refl _
  | x :: a => by
    have := len_nRows a
    simp only [nRows, List.length_cons]
    omega
theorem nRows_next : ∀ (row : List (List D)), (∀ z ∈ row, ShE z) → nRows (nextRow row) + row.length ≤ nRows row
  | [], _ => Nat.le_refl _
  | x :: r, h => by
    have h1 := nRows_next r fun z hz => h z (List.mem_cons_of_mem _ hz)
    have h2 := nRows_kids (h x (List.mem_cons_self ..))
    have h3 := nRows_filter cntd (kidsX x)
    unfold nextRow at h1 ⊢
    rw [List.flatMap_cons, nRows_app]
    simp only [nRows, List.length_cons]
    omega
theorem shE_kids {x : List D} (h : ShE x) : ∀ z ∈ kidsX x, ShE z := by
  cases h with
  | mk op n nm fd l hl => exact hl
theorem shE_next {row : List (List D)} (h : ∀ z ∈ row, ShE z) : ∀ z ∈ nextRow row, ShE z := fun z hz => by
  obtain ⟨x, hx, hz⟩ := List.mem_flatMap.1 hz
  exact shE_kids (h x hx) z (List.mem_filter.1 hz).1
/-- An own list of expressions whose parts lie in a world S. -/
structure MX (base : Nat) (S W : World) (v : Value) (acc : List (List D)) : Prop where
  ex : ∃ ls, OwnX base W v ls ∧ ls.length = acc.length ∧ ∀ (i : Nat) vs ds, ls[i]? = some vs → acc[i]? = some ds → AllAt S vs ds
  sh : ∀ z ∈ acc, ShE z
theorem MX.below {base B : Nat} {S W W' : World} {v : Value} {acc : List (List D)} (h : MX base S W v acc) (hb : Below B W W') (hB : W.heap.size ≤ B) : MX base S W' v acc := by
  obtain ⟨ls, h1, h2⟩ := h.ex
  exact ⟨⟨ls, h1.kept fun k hk => hb.block k (Nat.lt_of_lt_of_le (h1.lt k hk).2 hB), h2⟩, h.sh⟩
theorem MX.nil (base : Nat) (S W : World) : MX base S W (.slice none 0 0) [] :=
  ⟨⟨[], ⟨by simp, rfl, .inl ⟨rfl, rfl⟩⟩, rfl, by simp⟩, by simp⟩
theorem MX.app {base : Nat} {S W : World} {v : Value} {acc : List (List D)} (h : MX base S W v acc) (hB : base ≤ W.heap.size) (hlen : acc.length ≤ 900000)
    {vs : List Value} {ds : List D} (hv : vs.length = 5) (hu : AllAt S vs ds) (hs : ShE ds) (ty : TypeId) :
    ∃ v' w', (Builtin.append_ #[23, 23] ty #[v, .slice (some ⟨W.heap.size, 0, none⟩) 1 1]).run Tryz.prog (W.alloc (.cells ⟨vs⟩ 25)) = .ok v' w' ∧ MX base S w' v' (acc ++ [ds]) ∧ Below base W w' := by
  obtain ⟨ls, h1, h2, h3⟩ := h.ex
  have hb6 := (Below.refl W.heap.size W).alloc (Nat.le_refl _) (.cells ⟨vs⟩ 25)
  have h16 : OwnX base (W.alloc (.cells ⟨vs⟩ 25)) v ls := h1.kept fun k hk => hb6.block k (h1.lt k hk).2
  obtain ⟨v', w', hr, ho, hg, _⟩ := run_appX (w := W.alloc (.cells ⟨vs⟩ 25)) ty h16 (by simp; omega) (b := W.heap.size) (o := 0) (m := 1) (cap := 1) (ns := [vs])
    (fun us hus => by rw [List.mem_singleton.1 hus]; exact ⟨hv, hu.one⟩) rfl (fun j u hj => by
      rw [box_cells (heap_new W _), Nat.zero_add]
      simpa using hj) (by omega)
  refine ⟨v', w', hr, ⟨⟨_, ho, by rw [List.length_append, List.length_append, h2]; rfl, fun i us es e1 e2 => ?_⟩, fun z hz => ?_⟩, ?_⟩
  · by_cases hi : i < ls.length
    · rw [List.getElem?_append_left hi] at e1
      rw [List.getElem?_append_left (by omega)] at e2
      exact h3 i us es e1 e2
    · rw [List.getElem?_append_right (by omega)] at e1
      rw [List.getElem?_append_right (by omega), ← h2] at e2
      match hq : i - ls.length, e1, e2 with
      | 0, e1, e2 =>
        obtain rfl := Option.some.inj e1
        obtain rfl := Option.some.inj e2
        exact hu
  · rcases List.mem_append.1 hz with g | g
    · exact h.sh z g
    · rw [List.mem_singleton.1 g]; exact hs
  · exact ⟨hg.os.trans hb6.os, hg.tape.trans hb6.tape, hg.output.trans hb6.output, Nat.le_trans hb6.size hg.size, fun j hj => (hg.block j (by simp; omega) fun e => by have := (h1.lt j e.symm).1; omega).trans (hb6.block j (by omega))⟩
theorem MX.at_ {base : Nat} {S W : World} {v : Value} {acc : List (List D)} (h : MX base S W v acc) (hb : Below S.heap.size S W) : ∃ a c, v = .slice a acc.length c ∧ At W (.slice a acc.length c) (.row acc) := by
  obtain ⟨ls, h1, h2, h3⟩ := h.ex
  obtain ⟨a, c, rfl, ha⟩ := h1.at_ (P := fun _ => False) (fun _ _ => id) h2 fun i vs ds e1 e2 => (h3 i vs ds e1 e2).sub (sub_low _ hb fun _ h => h.elim)
  exact ⟨a, c, rfl, ha.sub (mk_sub _ W)⟩
theorem wp_appM {ops : Array Oper} {rest : List Oper} {o : Oper} {a : Act} {Q : Exit → Act → World → Prop} (hgd : o.guard = none) (sl x : Operand)
    (ho : o.op = .call { callee := .builtin .append, args := #[sl, x], argTypes := #[23, 23] })
    {base : Nat} {S W : World} {v : Value} {acc : List (List D)} (h : MX base S W v acc) (hB : base ≤ W.heap.size) (hlen : acc.length ≤ 900000)
    {vs : List Value} {ds : List D} (hv : vs.length = 5) (hu : AllAt S vs ds) (hsh : ShE ds) {z : Nat} (hz : W.heap.size = z) (hs : a.eval sl = v) (hx : a.eval x = .slice (some ⟨z, 0, none⟩) 1 1)
    (hk : ∀ v' w', MX base S w' v' (acc ++ [ds]) → Below base W w' → wpList Tryz.prog ops Q rest (a.put o.dst v') w') :
    wpList Tryz.prog ops Q (o :: rest) a (W.alloc (.cells ⟨vs⟩ 25)) := by
  subst hz
  refine wpList_plain hgd fun K hK => ?_
  obtain ⟨v', w', hr, h2, h3⟩ := h.app hB hlen hv hu hsh o.type
  unfold Oper.wp execOp
  simp only [ho, resolve, invoke, builtin, Sem.run_bind, Sem.run_pure, Result.andThen_ok, List.map_toArray, List.map_cons, List.map_nil, hs, hx, hr]
  exact hK _ _ (hk v' w' h2 h3)
theorem take_filter_yes {α : Type} {l : List α} {k : Nat} {x : α} {q : α → Bool} (hx : l[k]? = some x) (h : q x = true) : (l.take (k + 1)).filter q = (l.take k).filter q ++ [x] := by
  rw [List.take_add_one, hx]
  simp [h]
theorem take_filter_no {α : Type} {l : List α} {k : Nat} {x : α} {q : α → Bool} (hx : l[k]? = some x) (h : q x = false) : (l.take (k + 1)).filter q = (l.take k).filter q := by
  rw [List.take_add_one, hx]
  simp [h]
set_option maxRecDepth 100000 in
set_option maxHeartbeats 2000000 in
theorem appc_any {S w : World} (hb : Below S.heap.size S w) {v : Value} {acc : List (List D)} (hm : MX S.heap.size S w v acc) {a : Option Addr} {len c : Nat} {l : List (List D)} (hl : At S (.slice a len c) (.row l)) (hs : ∀ z ∈ l, ShE z) (hn : acc.length + len ≤ 900000) :
    Calls Tryz.prog 192 #[v, .slice a len c] w fun e w' => ∃ v', e = .returned v' ∧ MX S.heap.size S w' v' (acc ++ l.filter cntd) ∧ Below S.heap.size S w' := by
  have HA := Lib.hid hl
  have HS := Lib.hid hs
  have HL := Lib.hid hl.len_eq.1
  have hle := hl.len_le
  have HB0 := Lib.hid hb
  have HM0 := Lib.hid hm
  clear hl hs hb hm
  go_enter Tryz.func192, Tryz.ntmps192
  go_wp2_with fail
  go_loopw [0, 9] (fun u i wr => ∃ k : Nat, k ≤ len ∧ i = .int .i64 k ∧ MX S.heap.size S wr u (acc ++ (l.take k).filter cntd) ∧ Below S.heap.size S wr) (fun _ i _ => len - (intOf i).toNat)
  case atStart => exact ⟨0, Nat.zero_le _, rfl, by simpa using HM0.out, HB0.out⟩
  case round =>
    obtain ⟨k, hk, rfl, hM, hB⟩ := hrel
    have HM := Lib.hid hM
    have HB := Lib.hid hB
    clear hM hB HM0 HB0
    by_cases hlt : k < len
    · obtain ⟨b, o, vs, ds, rfl, hbl, hx, hv, hc⟩ := HA.out.elem hlt
      have hsd := HS.out ds (List.mem_of_getElem? hx)
      have hcl : ((l.take k).filter cntd).length ≤ k := Nat.le_trans (List.length_filter_le _ _) (by rw [List.length_take]; omega)
      have hal : (acc ++ (l.take k).filter cntd).length ≤ 900000 := by rw [List.length_append]; omega
      obtain ⟨op, n, nm, fd, kl, kla, klc, rfl, rfl, iop, _, _, _, _, _⟩ := hv.openE hsd
      have HV := Lib.hid hv
      have HX := Lib.hid hx
      have hvl : ([.int .i64 op, .int .i64 n, .string nm, .string fd, .slice kla kl.length klc] : List Value).length = 5 := rfl
      have hvo := Lib.hid hv.one
      have hbw : b < wr.heap.size := Nat.lt_of_lt_of_le hbl HB.out.size
      have C0 := Lib.hid (show ∀ j u, ([.int .i64 op, .int .i64 n, .string nm, .string fd, .slice kla kl.length klc] : List Value)[j]? = some u → wr.cell? ⟨b, o + k * 5 + j, none⟩ = some u from fun j u hu => (HB.out.cell (p := ⟨b, o + k * 5 + j, none⟩) hbl).trans (hc j u hu))
      have K1 := heap_new wr (.cells #[.int .i64 op, .int .i64 n, .string nm, .string fd, .slice kla kl.length klc] 25)
      have C2 := Lib.hid (show ∀ j u, ([.int .i64 op, .int .i64 n, .string nm, .string fd, .slice kla kl.length klc] : List Value)[j]? = some u → (wr.alloc (.cells #[.int .i64 op, .int .i64 n, .string nm, .string fd, .slice kla kl.length klc] 25)).cell? ⟨wr.heap.size, 0 + j, none⟩ = some u from fun j u hu => by
        rw [box_cells (heap_new wr _)]
        simpa using hu)
      have b0 : (wr.alloc (.cells #[.int .i64 op, .int .i64 n, .string nm, .string fd, .slice kla kl.length klc] 25)).cell? ⟨wr.heap.size, 0, none⟩ = some (.int .i64 op) := box_cells K1 0
      have N1 := (Below.refl wr.heap.size wr).alloc (Nat.le_refl _) (.cells #[.int .i64 op, .int .i64 n, .string nm, .string fd, .slice kla kl.length klc] 25)
      have HR := Lib.hid (HB.out.trans (N1.mono HB.out.size))
      have HM1 := Lib.hid (HM.out.below N1 (Nat.le_refl _))
      have hsz : S.heap.size ≤ (wr.alloc (.cells #[.int .i64 op, .int .i64 n, .string nm, .string fd, .slice kla kl.length klc] 25)).heap.size := HR.out.size
      have HSZ := Lib.hid hsz
      have HZ := Lib.hid (show (wr.alloc (.cells #[.int .i64 op, .int .i64 n, .string nm, .string fd, .slice kla kl.length klc] 25)).heap.size = wr.heap.size + 1 by simp)
      clear hx hv hc K1 N1 hsz HM HB
      by_cases h25 : op = 25
      · have d : (op != 25) = false := by simp [h25]
        have HF := Lib.hid (take_filter_no (q := cntd) HX.out (by unfold cntd opX; simp [h25]))
        clear h25
        go_wp2_with (first
          | ((with_reducible refine wp_loadAgg (o := ⟨some 12, _, _, _, _, _⟩) rfl (.tmp 11) 25 rfl 5 Tryz.isAgg25 Tryz.sizeOf25 b (o + k * 5) ?_ _ hvl C0.out ?_); rfl)
          | ((with_reducible refine wp_storeNew (o := ⟨none, .store 25 (.tmp 6) (.tmp 12), _, _, _, _⟩) rfl (.tmp 6) (.tmp 12) 25 rfl 5 Tryz.sizeOf25 _ ?_ ?_ _ ?_ hvl hvo.out ?_); rfl; rfl; rfl))
        go_roundw
        case rel => exact ⟨k + 1, by omega, by go_num, by rw [HF.out]; exact HM1.out, HR.out⟩
        case measure => simp [intOf]; omega
      · have d : (op != 25) = true := by simp [h25]
        have HF := Lib.hid (take_filter_yes (q := cntd) HX.out (by unfold cntd opX; simp [h25]))
        clear h25
        have tok1 : True := trivial
        go_wp2_with (first
          | ((with_reducible refine wp_loadAgg (o := ⟨some 12, _, _, _, _, _⟩) rfl (.tmp 11) 25 rfl 5 Tryz.isAgg25 Tryz.sizeOf25 b (o + k * 5) ?_ _ hvl C0.out ?_); rfl)
          | ((with_reducible refine wp_storeNew (o := ⟨none, .store 25 (.tmp 6) (.tmp 12), _, _, _, _⟩) rfl (.tmp 6) (.tmp 12) 25 rfl 5 Tryz.sizeOf25 _ ?_ ?_ _ ?_ hvl hvo.out ?_); rfl; rfl; rfl)
          | ((with_reducible refine wp_loadAgg (o := ⟨some 17, _, _, _, _, _⟩) rfl (.tmp 6) 25 rfl 5 Tryz.isAgg25 Tryz.sizeOf25 wr.heap.size 0 ?_ _ hvl C2.out ?_); rfl)
          | (have _t := tok1; at_builtin; (refine wp_appM rfl (.tmp 16) (.tmp 18) rfl HM1.out HSZ.out hal hvl HV.out hsd HZ.out rfl rfl ?_; intro v7 w7 l7 b7); (have L7 := Lib.hid l7); (have B7 := Lib.hid (HR.out.trans b7)); clear l7 b7 tok1))
        go_roundw
        case rel => exact ⟨k + 1, by omega, by go_num, by rw [HF.out, ← List.append_assoc]; exact L7.out, B7.out⟩
        case measure => simp [intOf]; omega
    · obtain rfl : k = len := by omega
      have hM2 := HM.out
      rw [show l.take k = l from List.take_of_length_le (by rw [HL.out]; exact Nat.le_refl _)] at hM2
      have HM2 := Lib.hid hM2
      clear hM2 HM
      go_wp2_with fail
      go_ret
      exact ⟨_, rfl, HM2.out, HB.out⟩
end Go.Proofs.YtpcldpnaljheoaaGreatDoor
end
section
namespace Go.Proofs.YtpcldpnaljheoaaGreatDoor
open Go.RowKit Go.Deep Go.Sort

theorem longFrom_take {lo : Nat} {row : List (List D)} {k : Nat} {x : List D} (hx : row[k]? = some x) : longFrom lo (row.take (k + 1)) = lng1 (longFrom lo (row.take k)) x := by
  unfold longFrom
  rw [List.take_add_one, hx]
  simp
theorem nextRow_take {row : List (List D)} {k : Nat} {x : List D} (hx : row[k]? = some x) : nextRow (row.take (k + 1)) = nextRow (row.take k) ++ (kidsX x).filter cntd := by
  unfold nextRow
  rw [List.take_add_one, hx]
  simp
theorem nRows_take : ∀ (row : List (List D)) (k : Nat), nRows (row.take k) ≤ nRows row
  | [], k => by simp
  | x :: r, 0 => Nat.zero_le _
  | x :: r, k + 1 => by
    have := nRows_take r k
    rw [List.take_succ_cons]
    simp only [nRows]
    omega
theorem nRows_mem : ∀ {row : List (List D)} {x : List D}, x ∈ row → nRow x + 1 ≤ nRows row
  | [], _, h => by simp at h
  | y :: r, x, h => by
    simp only [nRows]
    rcases List.mem_cons.1 h with rfl | h
    · omega
    · have := nRows_mem h
      omega
theorem longFrom_le : ∀ (row : List (List D)) (lo N : Nat), (∀ z ∈ row, ShE z) → nRows row ≤ N → lo ≤ N → longFrom lo row ≤ N
  | [], lo, N, _, _, h => h
  | x :: r, lo, N, hs, hn, h => by
    unfold longFrom
    rw [List.foldl_cons]
    simp only [nRows] at hn
    refine longFrom_le r _ N (fun z hz => hs z (List.mem_cons_of_mem _ hz)) (by omega) ?_
    have h1 := nRows_kids (hs x (List.mem_cons_self ..))
    have h2 := len_nRows (kidsX x)
    unfold lng1
    split <;> omega
theorem row1_w {W : World} {b : Nat} {x : List D} {vs : List Value} {t : TypeId} {f : Nat × Nat} (hb : W.heap[b]? = some (.cells ⟨vs⟩ t f)) (hx : AllAt W vs x) : At W (.slice (some ⟨b, 0, none⟩) 1 1) (.row [x]) :=
  (row1_at (P := fun _ => False) hb id (hx.sub (sub_low _ (Below.refl _ _) fun _ h => h.elim))).sub (mk_sub _ W)
set_option maxRecDepth 100000 in
set_option maxHeartbeats 4000000 in
theorem measure_any {w : World} {vs : List Value} {x : List D} (hx : AllAt w vs x) (hs : ShE x) (hn : nRow x + 1 ≤ 800000) :
    Calls Tryz.prog 166 #[.agg ⟨vs⟩] w fun e w' => e = .returned (.tuple #[.int .i64 (measP 900000 [x] 0 0).1, .int .i64 (measP 900000 [x] 0 0).2]) ∧ Below w.heap.size w w' := by
  generalize hR : measP 900000 [x] 0 0 = R
  have HR := Lib.hid hR
  have hNR : nRows [x] = nRow x + 1 := by simp [nRows]
  obtain ⟨op, n, nm, fd, kl, kla, klc, rfl, rfl, iop, _, _, _, _, _⟩ := hx.openE hs
  have HX := Lib.hid hx
  have HSX := Lib.hid hs
  have Z1 := (Below.refl w.heap.size w).alloc (Nat.le_refl _) (.cells #[.int .i64 op, .int .i64 n, .string nm, .string fd, .slice kla kl.length klc] 25)
  have Z2 := Z1.alloc Z1.size (.cells #[.int .i64 op, .int .i64 n, .string nm, .string fd, .slice kla kl.length klc] 25)
  have HZ := Lib.hid Z2
  have e1 : (w.alloc (.cells #[.int .i64 op, .int .i64 n, .string nm, .string fd, .slice kla kl.length klc] 25)).heap.size = w.heap.size + 1 := by simp
  have hA := row1_w (heap_new (w.alloc (.cells #[.int .i64 op, .int .i64 n, .string nm, .string fd, .slice kla kl.length klc] 25)) (.cells #[.int .i64 op, .int .i64 n, .string nm, .string fd, .slice kla kl.length klc] 25)) ((hx.sub (sub_low _ Z2 fun _ h => h.elim)).sub (mk_sub (fun _ => False) _))
  rw [e1] at hA
  have HA := Lib.hid hA
  have K1 := Lib.hid (heap_new w (.cells #[.int .i64 op, .int .i64 n, .string nm, .string fd, .slice kla kl.length klc] 25))
  clear hx hs hR Z1 Z2 e1 hA
  go_enter Tryz.func166, Tryz.ntmps166
  go_wp2_with fail
  generalize hw0 : (w.alloc (.cells #[.int .i64 op, .int .i64 n, .string nm, .string fd, .slice kla kl.length klc] 25)).alloc (.cells #[.int .i64 op, .int .i64 n, .string nm, .string fd, .slice kla kl.length klc] 25) = W0 at HZ HA ⊢
  generalize hv0 : Value.slice (some ⟨w.heap.size + 1, 0, none⟩) 1 1 = v0 at HA ⊢
  clear hw0 hv0 K1
  go_loopw [2, 3, 4] (fun dv lv rv wr => ∃ (row : List (List D)) (m d lo : Nat), dv = .int .i64 (d : Nat) ∧ lv = .int .i64 (lo : Nat) ∧ At wr rv (.row row) ∧ (∀ z ∈ row, ShE z) ∧ Below w.heap.size w wr ∧ measP m row d lo = R ∧ nRows row ≤ m ∧ d + nRows row ≤ 800000 ∧ lo ≤ 800000) (fun dv _ _ _ => 800001 - (intOf dv).toNat)
  case atStart => exact ⟨_, 900000, 0, 0, rfl, rfl, HA.out, fun z hz => by rw [List.mem_singleton.1 hz]; exact HSX.out, HZ.out, HR.out, by omega, by omega, by omega⟩
  case round =>
    obtain ⟨row, m, d, lo, rfl, rfl, hat, hsh, hbl, hme, hm, hd, hlo⟩ := hrel
    obtain ⟨ra, rc, rfl, _⟩ := hat.row_inv
    have hrl := len_nRows row
    have HB := Lib.hid hbl
    have HME := Lib.hid hme
    have HAT := Lib.hid hat
    have HSH := Lib.hid hsh
    have hle := hat.len_le
    clear hbl hme hat hsh HA HZ HX HSX HR hNR
    cases row with
    | nil =>
      have dz : decide (((([] : List (List D)).length : Nat) : Int) > 0) = false := rfl
      have HE := Lib.hid ((measP_nil m d lo).symm.trans HME.out)
      clear HME
      go_wp2_with fail
      exact bodyPost_ret (v := .tuple #[.int .i64 (d : Nat), .int .i64 (lo : Nat)]) (by simp [results, Tryz.results166, go_sem]) rfl ⟨by rw [← HE.out], HB.out⟩
    | cons x0 row' =>
      obtain ⟨m, rfl⟩ : ∃ m', m = m' + 1 := ⟨m - 1, by simp only [nRows] at hm; omega⟩
      have hnx := nRows_next (x0 :: row') HSH.out
      have HMN := Lib.hid (show measP m (nextRow (x0 :: row')) (d + 1) (longFrom lo (x0 :: row')) = R by
        rw [← HME.out]
        conv => rhs; unfold measP
        rw [if_neg (List.cons_ne_nil _ _)])
      have hrow1 : 1 ≤ (x0 :: row').length := by simp
      clear HME
      generalize x0 :: row' = row at *
      have dz : decide (((row.length : Nat) : Int) > 0) = true := by simp; omega
      have dz' : decide ((0 : Int) < ((row.length : Nat) : Int)) = true := by simp; omega
      have dn : decide (0 < row.length) = true := by simp; omega
      have dn' : 0 < row.length := hrow1
      generalize hql : row.length = n at *
      clear hrow1
      obtain ⟨wo, hwo⟩ : ∃ wo, wo = wr := ⟨_, rfl⟩
      subst hwo
      have M0 := Lib.hid (MX.nil wo.heap.size wo wo)
      go_wp2_with fail
      go_loopw [3, 5, 17] (fun lv u i wr => ∃ k : Nat, k ≤ n ∧ i = .int .i64 (k : Nat) ∧ lv = .int .i64 (longFrom lo (row.take k) : Nat) ∧ MX wo.heap.size wo wr u (nextRow (row.take k)) ∧ Below wo.heap.size wo wr) (fun _ _ i _ => n - (intOf i).toNat)
      case atStart => exact ⟨0, Nat.zero_le _, rfl, rfl, M0.out, Below.refl _ _⟩
      case round =>
        obtain ⟨k, hk, rfl, rfl, hM, hB⟩ := hrel
        have HM := Lib.hid hM
        have HBI := Lib.hid hB
        clear hM hB M0
        by_cases hlt : k < n
        · obtain ⟨b, o, us, ds, rfl, hbl, hx, hv, hc⟩ := HAT.out.elem hlt
          have hsd := HSH.out ds (List.mem_of_getElem? hx)
          obtain ⟨op2, n2, nm2, fd2, kl2, kla2, klc2, rfl, rfl, iop2, _, _, _, hkl, hks⟩ := hv.openE hsd
          have hacc : (nextRow (row.take k)).length + kl2.length ≤ 900000 := by
            have h1 := len_nRows (nextRow (row.take k))
            have h2 := nRows_next (row.take k) fun z hz => HSH.out z (List.mem_of_mem_take hz)
            have h3 := nRows_take row (k + 1)
            rw [List.take_add_one, hx, nRows_app] at h3
            simp only [Option.toList, nRows, nRow_E] at h3
            have h4 := len_nRows kl2
            omega
          have hlk : longFrom lo (row.take k) ≤ 800000 := longFrom_le _ _ _ (fun z hz => HSH.out z (List.mem_of_mem_take hz)) (Nat.le_trans (nRows_take row k) (by omega)) hlo
          have HX := Lib.hid hx
          have hvl : ([.int .i64 op2, .int .i64 n2, .string nm2, .string fd2, .slice kla2 kl2.length klc2] : List Value).length = 5 := rfl
          have hvo := Lib.hid hv.one
          have hbw : b < wr.heap.size := Nat.lt_of_lt_of_le hbl HBI.out.size
          have C0 := Lib.hid (show ∀ j u, ([.int .i64 op2, .int .i64 n2, .string nm2, .string fd2, .slice kla2 kl2.length klc2] : List Value)[j]? = some u → wr.cell? ⟨b, o + k * 5 + j, none⟩ = some u from fun j u hu => (HBI.out.cell (p := ⟨b, o + k * 5 + j, none⟩) hbl).trans (hc j u hu))
          have K1 := heap_new wr (.cells #[.int .i64 op2, .int .i64 n2, .string nm2, .string fd2, .slice kla2 kl2.length klc2] 25)
          have b0 : (wr.alloc (.cells #[.int .i64 op2, .int .i64 n2, .string nm2, .string fd2, .slice kla2 kl2.length klc2] 25)).cell? ⟨wr.heap.size, 0, none⟩ = some (.int .i64 op2) := box_cells K1 0
          have b4 : (wr.alloc (.cells #[.int .i64 op2, .int .i64 n2, .string nm2, .string fd2, .slice kla2 kl2.length klc2] 25)).cell? ⟨wr.heap.size, 4, none⟩ = some (.slice kla2 kl2.length klc2) := box_cells K1 4
          have N1 := (Below.refl wr.heap.size wr).alloc (Nat.le_refl _) (.cells #[.int .i64 op2, .int .i64 n2, .string nm2, .string fd2, .slice kla2 kl2.length klc2] 25)
          have HC := Lib.hid (appc_any (HBI.out.trans (N1.mono HBI.out.size)) (HM.out.below N1 (Nat.le_refl _)) hkl hks hacc)
          have HNX := Lib.hid (nextRow_take hx)
          have HLX := Lib.hid (longFrom_take (lo := lo) hx)
          have hk2 : kl2.length ≤ 900000 := by omega
          clear hx hv hc K1 N1 hkl hks HM HBI hacc
          by_cases h7 : op2 = 7
          · have d7 : (op2 == 7) = true := by simp [h7]
            have hl1 : lng1 (longFrom lo (row.take k)) [.int op2, .int n2, .str nm2, .str fd2, .row kl2] = max (longFrom lo (row.take k)) kl2.length := by unfold lng1 opX kidsX; rw [if_pos h7]
            rw [hl1] at HLX
            clear h7 hl1
            generalize longFrom lo (row.take k) = lk at HLX hlk
            go_wp2_with (first
              | ((with_reducible refine wp_loadAgg (o := ⟨some 20, _, _, _, _, _⟩) rfl (.tmp 19) 25 rfl 5 Tryz.isAgg25 Tryz.sizeOf25 b (o + k * 5) ?_ _ hvl C0.out ?_); rfl)
              | ((with_reducible refine wp_storeNew (o := ⟨none, .store 25 (.tmp 7) (.tmp 20), _, _, _, _⟩) rfl (.tmp 7) (.tmp 20) 25 rfl 5 Tryz.sizeOf25 _ ?_ ?_ _ ?_ hvl hvo.out ?_); rfl; rfl; rfl))
            refine HC.out.mono ?_
            rintro e w5 ⟨v5, rfl, m5, b5⟩
            have M5 := Lib.hid m5
            have B5 := Lib.hid b5
            clear m5 b5
            go_wp2_with fail
            go_roundw
            case rel => exact ⟨k + 1, by omega, by go_num, by rw [HLX.out, show ((max lk kl2.length : Nat) : Int) = max (lk : Int) (kl2.length : Int) by omega], by rw [HNX.out]; exact M5.out, B5.out⟩
            case measure => simp [intOf]; omega
          · have d7 : (op2 == 7) = false := by simp [h7]
            have hl1 : lng1 (longFrom lo (row.take k)) [.int op2, .int n2, .str nm2, .str fd2, .row kl2] = longFrom lo (row.take k) := by unfold lng1 opX; rw [if_neg h7]
            rw [hl1] at HLX
            clear h7 hl1
            generalize longFrom lo (row.take k) = lk at HLX hlk
            go_wp2_with (first
              | ((with_reducible refine wp_loadAgg (o := ⟨some 20, _, _, _, _, _⟩) rfl (.tmp 19) 25 rfl 5 Tryz.isAgg25 Tryz.sizeOf25 b (o + k * 5) ?_ _ hvl C0.out ?_); rfl)
              | ((with_reducible refine wp_storeNew (o := ⟨none, .store 25 (.tmp 7) (.tmp 20), _, _, _, _⟩) rfl (.tmp 7) (.tmp 20) 25 rfl 5 Tryz.sizeOf25 _ ?_ ?_ _ ?_ hvl hvo.out ?_); rfl; rfl; rfl))
            refine HC.out.mono ?_
            rintro e w5 ⟨v5, rfl, m5, b5⟩
            have M5 := Lib.hid m5
            have B5 := Lib.hid b5
            clear m5 b5
            go_wp2_with fail
            go_roundw
            case rel => exact ⟨k + 1, by omega, by go_num, by rw [HLX.out], by rw [HNX.out]; exact M5.out, B5.out⟩
            case measure => simp [intOf]; omega
        · obtain rfl : k = n := by omega
          have hM2 := HM.out
          have hlx : row.take k = row := List.take_of_length_le (by omega)
          rw [hlx] at hM2
          rw [hlx]
          have HAT2 := Lib.hid (hM2.at_ HBI.out)
          have HSN := Lib.hid (shE_next HSH.out)
          have hlo2 : longFrom lo row ≤ 800000 := longFrom_le _ _ _ HSH.out (by omega) hlo
          have hw1 : IntKind.i64.wrap ((d : Int) + 1) = ((d + 1 : Nat) : Int) := by rw [IntWalk.i64_in _ (by omega)]; omega
          have HB2 := Lib.hid (HB.out.trans (HBI.out.mono HB.out.size))
          clear hM2 hlx HM HAT
          generalize longFrom lo row = l2 at HMN hlo2 ⊢
          generalize nextRow row = r2 at HMN HAT2 HSN hnx
          go_wp2_with fail
          go_roundw
          case rel =>
            obtain ⟨a, c, rfl, ha⟩ := HAT2.out
            exact ⟨r2, m, d + 1, l2, rfl, rfl, ha, HSN.out, HB2.out, HMN.out, by omega, by omega, hlo2⟩
          case measure => simp [intOf]; omega
end Go.Proofs.YtpcldpnaljheoaaGreatDoor
end
section
namespace Go.Proofs.YtpcldpnaljheoaaGreatDoor
open Go.RowKit Go.Deep Go.Sort

/-- What is wrong, and where. -/
structure Dg where
  c : Nat
  p : Nat
  l : Nat
  k : Nat
def dgV (d : Dg) : Value := .agg #[.int .i64 (d.c : Nat), .int .i64 (d.p : Nat), .int .i64 (d.l : Nat), .int .i64 (d.k : Nat)]
def limD (e : List D) (p l k : Nat) : Dg :=
  if 512 < (measP 900000 [e] 0 0).2 then ⟨3, p, l, k⟩ else if 48 < (measP 900000 [e] 0 0).1 then ⟨4, p, l, k⟩ else ⟨0, 0, 0, 0⟩
set_option maxHeartbeats 1000000 in
theorem beyond_any {w : World} {x : List D} {op n : Int} {nm fd : ByteArray} {a : Option Addr} {len c : Nat} (hx : AllAt w [.int .i64 op, .int .i64 n, .string nm, .string fd, .slice a len c] x) (hs : ShE x) (hn : nRow x + 1 ≤ 800000) (p l k : Nat) :
    Calls Tryz.prog 129 #[exV op n nm fd a len c, .agg #[.int .i64 (p : Nat), .int .i64 (l : Nat), .int .i64 (k : Nat)]] w fun e w' => e = .returned (dgV (limD x p l k)) ∧ Below w.heap.size w w' := by
  have Z1 := (Below.refl w.heap.size w).alloc (Nat.le_refl _) (.cells #[.int .i64 op, .int .i64 n, .string nm, .string fd, .slice a len c] 25)
  have Z2 := Z1.alloc Z1.size (.cells #[.int .i64 (p : Nat), .int .i64 (l : Nat), .int .i64 (k : Nat)] 28)
  have Z3 := Z2.alloc Z2.size (.cells #[.int .i64 0, .int .i64 0, .int .i64 0, .int .i64 0] 30)
  have HM := Lib.hid (measure_any ((hx.sub (sub_low (fun _ => False) Z3 fun _ h => h.elim)).sub (mk_sub _ _)) hs hn)
  have K1 := heap_new w (.cells #[.int .i64 op, .int .i64 n, .string nm, .string fd, .slice a len c] 25)
  have K2 := heap_new (w.alloc (.cells #[.int .i64 op, .int .i64 n, .string nm, .string fd, .slice a len c] 25)) (.cells #[.int .i64 (p : Nat), .int .i64 (l : Nat), .int .i64 (k : Nat)] 28)
  have K3 := heap_new ((w.alloc (.cells #[.int .i64 op, .int .i64 n, .string nm, .string fd, .slice a len c] 25)).alloc (.cells #[.int .i64 (p : Nat), .int .i64 (l : Nat), .int .i64 (k : Nat)] 28)) (.cells #[.int .i64 0, .int .i64 0, .int .i64 0, .int .i64 0] 30)
  have e1 : (w.alloc (.cells #[.int .i64 op, .int .i64 n, .string nm, .string fd, .slice a len c] 25)).heap.size = w.heap.size + 1 := by simp
  have e2 : ((w.alloc (.cells #[.int .i64 op, .int .i64 n, .string nm, .string fd, .slice a len c] 25)).alloc (.cells #[.int .i64 (p : Nat), .int .i64 (l : Nat), .int .i64 (k : Nat)] 28)).heap.size = w.heap.size + 2 := by simp
  rw [e1] at K2
  rw [e2] at K3
  have HZ := Lib.hid Z3
  have N2 := ((Below.refl (w.heap.size + 2) ((w.alloc (.cells #[.int .i64 op, .int .i64 n, .string nm, .string fd, .slice a len c] 25)).alloc (.cells #[.int .i64 (p : Nat), .int .i64 (l : Nat), .int .i64 (k : Nat)] 28))).alloc (by simp) (.cells #[.int .i64 0, .int .i64 0, .int .i64 0, .int .i64 0] 30))
  have K22 := Lib.hid ((N2.block (w.heap.size + 1) (by omega)).trans K2)
  have K33 := Lib.hid K3
  have hx' := hx
  unfold limD
  generalize measP 900000 [x] 0 0 = R at HM ⊢
  obtain ⟨rd, rl⟩ := R
  dsimp only at HM ⊢
  generalize hL : (if 512 < rl then (⟨3, p, l, k⟩ : Dg) else if 48 < rd then ⟨4, p, l, k⟩ else ⟨0, 0, 0, 0⟩) = L
  have HQ := Lib.hid hL
  clear Z1 Z2 Z3 K1 K2 K3 e1 e2 N2 hx hx' hs hn hL
  go_enter Tryz.func129, Tryz.ntmps129
  go_wp2_with fail
  generalize ((w.alloc (.cells #[.int .i64 op, .int .i64 n, .string nm, .string fd, .slice a len c] 25)).alloc (.cells #[.int .i64 (p : Nat), .int .i64 (l : Nat), .int .i64 (k : Nat)] 28)).alloc (.cells #[.int .i64 0, .int .i64 0, .int .i64 0, .int .i64 0] 30) = W at HM HZ K22 K33 ⊢
  refine HM.out.mono ?_
  rintro e w1 ⟨rfl, b1⟩
  have B1 := Lib.hid (HZ.out.trans (b1.mono HZ.out.size))
  have K2 := Lib.hid ((b1.block _ (heap_lt K22.out)).trans K22.out)
  have K3 := Lib.hid ((b1.block _ (heap_lt K33.out)).trans K33.out)
  have k2 := box_cells K2.out
  have k3 := box_cells K3.out
  have f3 : ∀ o, w1.frozen? ⟨w.heap.size + 1 + 1, o, none⟩ = false := fun o => by simp [World.frozen?, K3.out]
  clear b1 HM HZ K22 K33
  by_cases hl : 512 < rl
  · have d1 : decide ((512 : Int) < (rl : Int)) = true := by simp; omega
    have d1' : decide ((rl : Int) > 512) = true := by simp; omega
    have d1'' : decide (512 < rl) = true := by simp; omega
    have HL := Lib.hid (HQ.out.symm.trans (if_pos hl))
    go_wp2_with fail
    refine bodyPost_ret (v := dgV ⟨3, p, l, k⟩) (by simp [results, Tryz.results129, go_sem, k3, dgV]) rfl ⟨by rw [HL.out], ?_⟩
    repeat (refine Below.setCell ?_ (by dsimp only; omega) _)
    exact B1.out
  · have d1 : decide ((512 : Int) < (rl : Int)) = false := by simp; omega
    have d1' : decide ((rl : Int) > 512) = false := by simp; omega
    have d1'' : decide (512 < rl) = false := by simp; omega
    have HQ := Lib.hid ((if_neg hl).symm.trans HQ.out)
    by_cases hd : 48 < rd
    · have d2 : decide ((48 : Int) < (rd : Int)) = true := by simp; omega
      have d2' : decide ((rd : Int) > 48) = true := by simp; omega
      have d2'' : decide (48 < rd) = true := by simp; omega
      have HL := Lib.hid (HQ.out.symm.trans (if_pos hd))
      go_wp2_with fail
      refine bodyPost_ret (v := dgV ⟨4, p, l, k⟩) (by simp [results, Tryz.results129, go_sem, k3, dgV]) rfl ⟨by rw [HL.out], ?_⟩
      repeat (refine Below.setCell ?_ (by dsimp only; omega) _)
      exact B1.out
    · have d2 : decide ((48 : Int) < (rd : Int)) = false := by simp; omega
      have d2' : decide ((rd : Int) > 48) = false := by simp; omega
      have d2'' : decide (48 < rd) = false := by simp; omega
      have HL := Lib.hid (HQ.out.symm.trans (if_neg hd))
      go_wp2_with fail
      refine bodyPost_ret (v := dgV ⟨0, 0, 0, 0⟩) (by simp [results, Tryz.results129, go_sem, k3, dgV]) rfl ⟨by rw [HL.out], ?_⟩
      repeat (refine Below.setCell ?_ (by dsimp only; omega) _)
      exact B1.out
theorem heap_set4 (W : World) (b k : Nat) (hk : k ≠ b) (v0 v1 v2 v3 : Value) : ((((W.setCell ⟨b, 0, none⟩ v0).setCell ⟨b, 1, none⟩ v1).setCell ⟨b, 2, none⟩ v2).setCell ⟨b, 3, none⟩ v3).heap[k]? = W.heap[k]? := by
  rw [Below.heap_setCell _ _ _ _ hk, Below.heap_setCell _ _ _ _ hk, Below.heap_setCell _ _ _ _ hk, Below.heap_setCell _ _ _ _ hk]
theorem results_cell3 {fn : Func} {tmps : Array Value} {w : World} {i j m : Nat} {T U : TypeId} {k n : Nat} (hres : fn.results = #[.cell i T, .tmp j, .cell m U]) (hag : ∀ w, (isAgg T).run Tryz.prog w = .ok true w) (hsz : ∀ w, (sizeOf T).run Tryz.prog w = .ok k w) (hag' : ∀ w, (isAgg U).run Tryz.prog w = .ok true w) (hsz' : ∀ w, (sizeOf U).run Tryz.prog w = .ok n w)
    {b c : Nat} (ht : tmps.getD i undef = .pointer (some ⟨b, 0, none⟩)) (ht' : tmps.getD m undef = .pointer (some ⟨c, 0, none⟩)) {u : Value} (hu : tmps.getD j undef = u) {vs us : List Value} {T' U' : TypeId} {fz fz' : Nat × Nat} (hlen : vs.length = k) (hlen' : us.length = n) (hb : w.heap[b]? = some (.cells ⟨vs⟩ T' fz)) (hc : w.heap[c]? = some (.cells ⟨us⟩ U' fz')) :
    (results fn tmps).run Tryz.prog w = .ok (.tuple #[.agg ⟨vs⟩, u, .agg ⟨us⟩]) w := by
  have h := run_loadCells_list (P := Tryz.prog) (w := w) ⟨b, 0, none⟩ vs (fun j v hv => by
    rw [add_mid2, Nat.zero_add, box_cells hb]
    simpa using hv)
  have h' := run_loadCells_list (P := Tryz.prog) (w := w) ⟨c, 0, none⟩ us (fun j v hv => by
    rw [add_mid2, Nat.zero_add, box_cells hc]
    simpa using hv)
  rw [hlen] at h
  rw [hlen'] at h'
  rw [Array.getD_eq_getD_getElem?] at ht ht' hu
  unfold results
  simp [hres, ht, ht', hu, loadVar, asAddr, hag, hsz, h, hag', hsz', h', Sem.run_bind]
def faultD (s : RS) : Dg := ⟨s.f, s.fp, s.fl, s.fc⟩
def ansD (p l k : Nat) (x : XS) : Dg := if x.2.f = 0 then limD x.1 p l k else faultD x.2
set_option maxRecDepth 100000 in
set_option maxHeartbeats 2000000 in
theorem answer_any {p g cap : Nat} {ts : List Tok} {s : RS} {fr q l k : Nat} {w : World} (h : RdAt p g cap ts s w) {x : List D} {op n : Int} {nm fd : ByteArray} {a : Option Addr} {len c : Nat} (hx : AllAt w [.int .i64 op, .int .i64 n, .string nm, .string fd, .slice a len c] x) (hs : ShE x) (hn : s.f = 0 → nRow x + 1 ≤ 800000) :
    Calls Tryz.prog 81 #[xV p (fr : Nat) (q : Nat) (l : Nat) (k : Nat), exV op n nm fd a len c] w fun e w' =>
      e = .returned (if (ansD q l k (x, s)).c = 0 then .tuple #[exV op n nm fd a len c, .int .i64 (s.k : Nat), dgV ⟨0, 0, 0, 0⟩] else .tuple #[exV 0 0 noB noB none 0 0, .int .i64 (fr : Nat), dgV (ansD q l k (x, s))]) ∧ Below w.heap.size w w' := by
  unfold noB
  generalize hA : ansD q l k (x, s) = A
  have HA := Lib.hid hA
  generalize hV : (if A.c = 0 then Value.tuple #[exV op n nm fd a len c, .int .i64 (s.k : Nat), dgV ⟨0, 0, 0, 0⟩] else .tuple #[exV 0 0 ⟨#[]⟩ ⟨#[]⟩ none 0 0, .int .i64 (fr : Nat), dgV A]) = V
  have HV := Lib.hid hV
  clear hV
  have Z1 := (Below.refl w.heap.size w).alloc (Nat.le_refl _) (.cells #[.pointer (some ⟨p, 0, none⟩), .int .i64 (fr : Nat), .int .i64 (q : Nat), .int .i64 (l : Nat), .int .i64 (k : Nat)] 90)
  have Z2 := Z1.alloc Z1.size (.cells #[.int .i64 op, .int .i64 n, .string nm, .string fd, .slice a len c] 25)
  have Z3 := Z2.alloc Z2.size (.cells #[.int .i64 0, .int .i64 0, .string ⟨#[]⟩, .string ⟨#[]⟩, .slice none 0 0] 25)
  have Z4 := Z3.alloc Z3.size (.cells #[.int .i64 0, .int .i64 0, .int .i64 0, .int .i64 0] 30)
  have e1 : (w.alloc (.cells #[.pointer (some ⟨p, 0, none⟩), .int .i64 (fr : Nat), .int .i64 (q : Nat), .int .i64 (l : Nat), .int .i64 (k : Nat)] 90)).heap.size = w.heap.size + 1 := by simp
  have e2 : ((w.alloc (.cells #[.pointer (some ⟨p, 0, none⟩), .int .i64 (fr : Nat), .int .i64 (q : Nat), .int .i64 (l : Nat), .int .i64 (k : Nat)] 90)).alloc (.cells #[.int .i64 op, .int .i64 n, .string nm, .string fd, .slice a len c] 25)).heap.size = w.heap.size + 1 + 1 := by simp
  have e3 : (((w.alloc (.cells #[.pointer (some ⟨p, 0, none⟩), .int .i64 (fr : Nat), .int .i64 (q : Nat), .int .i64 (l : Nat), .int .i64 (k : Nat)] 90)).alloc (.cells #[.int .i64 op, .int .i64 n, .string nm, .string fd, .slice a len c] 25)).alloc (.cells #[.int .i64 0, .int .i64 0, .string ⟨#[]⟩, .string ⟨#[]⟩, .slice none 0 0] 25)).heap.size = w.heap.size + 1 + 1 + 1 := by simp
  have N4 := (Below.refl _ (((w.alloc (.cells #[.pointer (some ⟨p, 0, none⟩), .int .i64 (fr : Nat), .int .i64 (q : Nat), .int .i64 (l : Nat), .int .i64 (k : Nat)] 90)).alloc (.cells #[.int .i64 op, .int .i64 n, .string nm, .string fd, .slice a len c] 25)).alloc (.cells #[.int .i64 0, .int .i64 0, .string ⟨#[]⟩, .string ⟨#[]⟩, .slice none 0 0] 25))).alloc (Nat.le_refl _) (.cells #[.int .i64 0, .int .i64 0, .int .i64 0, .int .i64 0] 30)
  have N3 := ((Below.refl _ ((w.alloc (.cells #[.pointer (some ⟨p, 0, none⟩), .int .i64 (fr : Nat), .int .i64 (q : Nat), .int .i64 (l : Nat), .int .i64 (k : Nat)] 90)).alloc (.cells #[.int .i64 op, .int .i64 n, .string nm, .string fd, .slice a len c] 25))).alloc (Nat.le_refl _) (.cells #[.int .i64 0, .int .i64 0, .string ⟨#[]⟩, .string ⟨#[]⟩, .slice none 0 0] 25))
  have N2 := ((Below.refl _ (w.alloc (.cells #[.pointer (some ⟨p, 0, none⟩), .int .i64 (fr : Nat), .int .i64 (q : Nat), .int .i64 (l : Nat), .int .i64 (k : Nat)] 90))).alloc (Nat.le_refl _) (.cells #[.int .i64 op, .int .i64 n, .string nm, .string fd, .slice a len c] 25))
  rw [e3] at N4
  rw [e2] at N3
  rw [e1] at N2
  have k1 := heap_new w (.cells #[.pointer (some ⟨p, 0, none⟩), .int .i64 (fr : Nat), .int .i64 (q : Nat), .int .i64 (l : Nat), .int .i64 (k : Nat)] 90)
  have k2 := heap_new (w.alloc (.cells #[.pointer (some ⟨p, 0, none⟩), .int .i64 (fr : Nat), .int .i64 (q : Nat), .int .i64 (l : Nat), .int .i64 (k : Nat)] 90)) (.cells #[.int .i64 op, .int .i64 n, .string nm, .string fd, .slice a len c] 25)
  have k3 := heap_new ((w.alloc (.cells #[.pointer (some ⟨p, 0, none⟩), .int .i64 (fr : Nat), .int .i64 (q : Nat), .int .i64 (l : Nat), .int .i64 (k : Nat)] 90)).alloc (.cells #[.int .i64 op, .int .i64 n, .string nm, .string fd, .slice a len c] 25)) (.cells #[.int .i64 0, .int .i64 0, .string ⟨#[]⟩, .string ⟨#[]⟩, .slice none 0 0] 25)
  have k4 := heap_new (((w.alloc (.cells #[.pointer (some ⟨p, 0, none⟩), .int .i64 (fr : Nat), .int .i64 (q : Nat), .int .i64 (l : Nat), .int .i64 (k : Nat)] 90)).alloc (.cells #[.int .i64 op, .int .i64 n, .string nm, .string fd, .slice a len c] 25)).alloc (.cells #[.int .i64 0, .int .i64 0, .string ⟨#[]⟩, .string ⟨#[]⟩, .slice none 0 0] 25)) (.cells #[.int .i64 0, .int .i64 0, .int .i64 0, .int .i64 0] 30)
  rw [e1] at k2
  rw [e2] at k3
  rw [e3] at k4
  have K1 := Lib.hid ((N4.block _ (by omega)).trans ((N3.block _ (by omega)).trans ((N2.block w.heap.size (by omega)).trans k1)))
  have K2 := Lib.hid ((N4.block _ (by omega)).trans ((N3.block (w.heap.size + 1) (by omega)).trans k2))
  have K3 := Lib.hid ((N4.block (w.heap.size + 1 + 1) (by omega)).trans k3)
  have K4 := Lib.hid k4
  have HZ := Lib.hid Z4
  have R0 := Lib.hid (h.below Z4)
  have HX := Lib.hid (fun (W : World) (b : Below w.heap.size w W) (hf : s.f = 0) => beyond_any ((hx.sub (sub_low (fun _ => False) b fun _ h => h.elim)).sub (mk_sub _ _)) hs (hn hf) q l k)
  have h0pl := h.lt
  have h0gl := h.toks.lt
  clear Z1 Z2 Z3 Z4 e1 e2 e3 N4 N3 N2 k1 k2 k3 k4 hA h hx hs hn
  go_enter Tryz.func81, Tryz.ntmps81
  go_wp2_with fail
  generalize (((w.alloc (.cells #[.pointer (some ⟨p, 0, none⟩), .int .i64 (fr : Nat), .int .i64 (q : Nat), .int .i64 (l : Nat), .int .i64 (k : Nat)] 90)).alloc (.cells #[.int .i64 op, .int .i64 n, .string nm, .string fd, .slice a len c] 25)).alloc (.cells #[.int .i64 0, .int .i64 0, .string ⟨#[]⟩, .string ⟨#[]⟩, .slice none 0 0] 25)).alloc (.cells #[.int .i64 0, .int .i64 0, .int .i64 0, .int .i64 0] 30) = W0 at K1 K2 K3 K4 HZ R0 ⊢
  have g1 := box_cells K1.out
  have l1 := heap_lt K1.out
  go_wp2_with fail
  refine (fault_any R0.out).mono ?_
  rintro e w1 ⟨rfl, b1⟩
  have B1 := Lib.hid (HZ.out.trans (b1.mono HZ.out.size))
  have R1 := Lib.hid (R0.out.below b1)
  have K11 := Lib.hid ((b1.block _ (heap_lt K1.out)).trans K1.out)
  have K12 := Lib.hid ((b1.block _ (heap_lt K2.out)).trans K2.out)
  have K13 := Lib.hid ((b1.block _ (heap_lt K3.out)).trans K3.out)
  have K14 := Lib.hid ((b1.block _ (heap_lt K4.out)).trans K4.out)
  clear b1 K1 K2 K3 K4 R0 HZ g1 l1
  unfold diagS
  have n1 := (Below.refl w1.heap.size w1).alloc (Nat.le_refl _) (.cells #[.int .i64 (s.f : Nat), .int .i64 (s.fp : Nat), .int .i64 (s.fl : Nat), .int .i64 (s.fc : Nat)] 30)
  have B2 := Lib.hid (B1.out.trans (n1.mono B1.out.size))
  have R2 := Lib.hid (R1.out.below n1)
  have K21 := Lib.hid ((n1.block _ (heap_lt K11.out)).trans K11.out)
  have K22 := Lib.hid ((n1.block _ (heap_lt K12.out)).trans K12.out)
  have K23 := Lib.hid ((n1.block _ (heap_lt K13.out)).trans K13.out)
  have K24 := Lib.hid ((n1.block _ (heap_lt K14.out)).trans K14.out)
  have K25 := Lib.hid (heap_new w1 (.cells #[.int .i64 (s.f : Nat), .int .i64 (s.fp : Nat), .int .i64 (s.fl : Nat), .int .i64 (s.fc : Nat)] 30))
  have hz1 := B1.out.size
  have hz4 := heap_lt K14.out
  clear n1 K11 K12 K13 K14 B1 R1
  by_cases hf : s.f = 0
  · have d1 : ((s.f : Int) == 0) = true := by rw [hf]; rfl
    have hA0 : ansD q l k (x, s) = limD x q l k := if_pos hf
    rw [hA0] at HA
    have HXX := Lib.hid (HX.out _ B2.out hf)
    generalize limD x q l k = L at HXX HA
    have l1 := heap_lt K21.out
    have l2 := heap_lt K22.out
    have q2 := box_cells K22.out
    have q1 := box_cells K21.out
    have l5 := heap_lt K25.out
    clear HX hA0 hf
    go_wp2_with fail
    generalize w1.alloc (.cells #[.int .i64 (s.f : Nat), .int .i64 (s.fp : Nat), .int .i64 (s.fl : Nat), .int .i64 (s.fc : Nat)] 30) = W at HXX B2 R2 K21 K22 K23 K24 K25 l1 l2 l5 q1 q2 ⊢
    refine HXX.out.mono ?_
    rintro e w3 ⟨rfl, b3⟩
    have B3 := Lib.hid (B2.out.trans (b3.mono B2.out.size))
    have R3 := Lib.hid (R2.out.below b3)
    have K31 := Lib.hid ((b3.block _ (heap_lt K21.out)).trans K21.out)
    have K32 := Lib.hid ((b3.block _ (heap_lt K22.out)).trans K22.out)
    have K33 := Lib.hid ((b3.block _ (heap_lt K23.out)).trans K23.out)
    have K34 := Lib.hid ((b3.block _ (heap_lt K24.out)).trans K24.out)
    have K35 := Lib.hid ((b3.block _ (heap_lt K25.out)).trans K25.out)
    have q5 := box_cells K35.out
    have f5 : ∀ o, w3.frozen? ⟨w1.heap.size, o, none⟩ = false := fun o => by simp [World.frozen?, K35.out]
    have l35 := heap_lt K35.out
    have B4 := Lib.hid (show Below w.heap.size w ((((w3.setCell ⟨w1.heap.size, 0, none⟩ (.int .i64 (L.c : Nat))).setCell ⟨w1.heap.size, 1, none⟩ (.int .i64 (L.p : Nat))).setCell ⟨w1.heap.size, 2, none⟩ (.int .i64 (L.l : Nat))).setCell ⟨w1.heap.size, 3, none⟩ (.int .i64 (L.k : Nat))) from by
      repeat (refine Below.setCell ?_ (by dsimp only; omega) _)
      exact B3.out)
    have K41 := Lib.hid ((heap_set4 w3 w1.heap.size w.heap.size (by omega) (.int .i64 (L.c : Nat)) (.int .i64 (L.p : Nat)) (.int .i64 (L.l : Nat)) (.int .i64 (L.k : Nat))).trans K31.out)
    have K42 := Lib.hid ((heap_set4 w3 w1.heap.size (w.heap.size + 1) (by omega) (.int .i64 (L.c : Nat)) (.int .i64 (L.p : Nat)) (.int .i64 (L.l : Nat)) (.int .i64 (L.k : Nat))).trans K32.out)
    have K43 := Lib.hid ((heap_set4 w3 w1.heap.size (w.heap.size + 1 + 1) (by omega) (.int .i64 (L.c : Nat)) (.int .i64 (L.p : Nat)) (.int .i64 (L.l : Nat)) (.int .i64 (L.k : Nat))).trans K33.out)
    have K44 := Lib.hid ((heap_set4 w3 w1.heap.size (w.heap.size + 1 + 1 + 1) (by omega) (.int .i64 (L.c : Nat)) (.int .i64 (L.p : Nat)) (.int .i64 (L.l : Nat)) (.int .i64 (L.k : Nat))).trans K34.out)
    have K45 := Lib.hid (heap_setC (o := 3) (heap_setC (o := 2) (heap_setC (o := 1) (heap_setC (o := 0) K35.out (.int .i64 (L.c : Nat))) (.int .i64 (L.p : Nat))) (.int .i64 (L.l : Nat))) (.int .i64 (L.k : Nat)))
    have hpl : p < w1.heap.size := by have := h0pl; omega
    have hgl : g < w1.heap.size := by have := h0gl; omega
    have R4 := Lib.hid (show RdAt p g cap ts s ((((w3.setCell ⟨w1.heap.size, 0, none⟩ (.int .i64 (L.c : Nat))).setCell ⟨w1.heap.size, 1, none⟩ (.int .i64 (L.p : Nat))).setCell ⟨w1.heap.size, 2, none⟩ (.int .i64 (L.l : Nat))).setCell ⟨w1.heap.size, 3, none⟩ (.int .i64 (L.k : Nat))) from ⟨(heap_set4 _ _ _ (by omega) _ _ _ _).trans R3.out.blk, R3.out.toks.kept (by simp [World.setCell]) (heap_set4 _ _ _ (by omega) _ _ _ _), R3.out.ne, R3.out.ok, R3.out.kle⟩)
    clear b3 K21 K22 K23 K24 K25 K31 K32 K33 K34 B2 R2 B3 R3
    unfold dgV
    by_cases hc : L.c = 0
    · have d2 : ((L.c : Int) != 0) = false := by simp [hc]
      have HW := Lib.hid (HV.out.symm.trans (if_pos (HA.out ▸ hc)))
      clear HV HA hc
      go_wp2_with fail
      generalize ((((w3.setCell ⟨w1.heap.size, 0, none⟩ (.int .i64 (L.c : Nat))).setCell ⟨w1.heap.size, 1, none⟩ (.int .i64 (L.p : Nat))).setCell ⟨w1.heap.size, 2, none⟩ (.int .i64 (L.l : Nat))).setCell ⟨w1.heap.size, 3, none⟩ (.int .i64 (L.k : Nat))) = W4 at B4 R4 K41 K42 K43 K44 K45 ⊢
      have g1 := box_cells K41.out
      have g2 := box_cells K42.out
      have g3 := box_cells K43.out
      have g4 := box_cells K44.out
      have f3 : ∀ o, W4.frozen? ⟨w.heap.size + 1 + 1, o, none⟩ = false := fun o => by simp [World.frozen?, K43.out]
      have f4 : ∀ o, W4.frozen? ⟨w.heap.size + 1 + 1 + 1, o, none⟩ = false := fun o => by simp [World.frozen?, K44.out]
      have l3 := heap_lt K43.out
      have l4 := heap_lt K44.out
      have l41 := heap_lt K41.out
      have l42 := heap_lt K42.out
      have R5 := Lib.hid (R4.out.below (below_drew0 (Below.refl W4.heap.size W4)))
      have KB : ∀ W' : World, W'.heap[w.heap.size]? = W4.heap[w.heap.size]? → W'.heap[w.heap.size + 1]? = W4.heap[w.heap.size + 1]? → W'.cell? ⟨w.heap.size, 0, none⟩ = some (.pointer (some ⟨p, 0, none⟩)) ∧ W'.cell? ⟨w.heap.size + 1, 0, none⟩ = some (.int .i64 op) ∧ W'.cell? ⟨w.heap.size + 1, 1, none⟩ = some (.int .i64 n) ∧ W'.cell? ⟨w.heap.size + 1, 2, none⟩ = some (.string nm) ∧ W'.cell? ⟨w.heap.size + 1, 3, none⟩ = some (.string fd) ∧ W'.cell? ⟨w.heap.size + 1, 4, none⟩ = some (.slice a len c) := fun W' e1 e2 =>
        have b1 := box_cells (e1.trans K41.out)
        have b2 := box_cells (e2.trans K42.out)
        ⟨b1 0, b2 0, b2 1, b2 2, b2 3, b2 4⟩
      have HK0 := Lib.hid (KB W4.drew rfl rfl)
      have HKB := Lib.hid KB
      have KE : ∀ w5 : World, w5 = W4.drew → (w5.heap[w.heap.size]? = W4.heap[w.heap.size]? ∧ w5.heap[w.heap.size + 1]? = W4.heap[w.heap.size + 1]?) ∧ w5.heap[w.heap.size + 1 + 1]? = W4.heap[w.heap.size + 1 + 1]? ∧ w5.heap[w.heap.size + 1 + 1 + 1]? = W4.heap[w.heap.size + 1 + 1 + 1]? ∧ Below w.heap.size w w5 := fun w5 e => by
        subst e
        exact ⟨⟨rfl, rfl⟩, rfl, rfl, below_drew0 B4.out⟩
      have HKE := Lib.hid KE
      clear g1 g2 KB g3 g4 f3 f4 KE
      go_region_held3 (fun W' => W'.cell? ⟨w.heap.size, 0, none⟩ = some (.pointer (some ⟨p, 0, none⟩)) ∧ W'.cell? ⟨w.heap.size + 1, 0, none⟩ = some (.int .i64 op) ∧ W'.cell? ⟨w.heap.size + 1, 1, none⟩ = some (.int .i64 n) ∧ W'.cell? ⟨w.heap.size + 1, 2, none⟩ = some (.string nm) ∧ W'.cell? ⟨w.heap.size + 1, 3, none⟩ = some (.string fd) ∧ W'.cell? ⟨w.heap.size + 1, 4, none⟩ = some (.slice a len c))
        (first | with_reducible exact HK0.out | with_reducible exact HK1.out | with_reducible exact HK2.out | with_reducible exact HK3.out | with_reducible assumption)
        (first | (go_at_call 130; refine (at_any R5.out).mono ?_; rintro e5 w5 ⟨rfl, hw5⟩; have E5 := Lib.hid (HKE.out w5 hw5); have HK1 := Lib.hid (HKB.out w5 E5.out.1.1 E5.out.1.2); have K53 := Lib.hid (E5.out.2.1.trans K43.out); have K54 := Lib.hid (E5.out.2.2.1.trans K44.out); have g3 := box_cells K53.out; have g4 := box_cells K54.out; have f3 : ∀ o, w5.frozen? ⟨w.heap.size + 1 + 1, o, none⟩ = false := fun o => by { simp [World.frozen?, K53.out] }; have f4 : ∀ o, w5.frozen? ⟨w.heap.size + 1 + 1 + 1, o, none⟩ = false := fun o => by { simp [World.frozen?, K54.out] }; have l53 := heap_lt K53.out; have l54 := heap_lt K54.out; have HK2 := Lib.hid (HKB.out (((((w5.setCell ⟨w.heap.size + 1 + 1, 0, none⟩ (.int .i64 op)).setCell ⟨w.heap.size + 1 + 1, 1, none⟩ (.int .i64 n)).setCell ⟨w.heap.size + 1 + 1, 2, none⟩ (.string nm)).setCell ⟨w.heap.size + 1 + 1, 3, none⟩ (.string fd)).setCell ⟨w.heap.size + 1 + 1, 4, none⟩ (.slice a len c)) ((heap_set5 _ _ _ (by omega) _ _ _ _ _).trans E5.out.1.1) ((heap_set5 _ _ _ (by omega) _ _ _ _ _).trans E5.out.1.2)); have HK3 := Lib.hid (HKB.out (((((((((w5.setCell ⟨w.heap.size + 1 + 1, 0, none⟩ (.int .i64 op)).setCell ⟨w.heap.size + 1 + 1, 1, none⟩ (.int .i64 n)).setCell ⟨w.heap.size + 1 + 1, 2, none⟩ (.string nm)).setCell ⟨w.heap.size + 1 + 1, 3, none⟩ (.string fd)).setCell ⟨w.heap.size + 1 + 1, 4, none⟩ (.slice a len c)).setCell ⟨w.heap.size + 1 + 1 + 1, 0, none⟩ (.int .i64 0)).setCell ⟨w.heap.size + 1 + 1 + 1, 1, none⟩ (.int .i64 0)).setCell ⟨w.heap.size + 1 + 1 + 1, 2, none⟩ (.int .i64 0)).setCell ⟨w.heap.size + 1 + 1 + 1, 3, none⟩ (.int .i64 0)) ((heap_set4 _ _ _ (by omega) _ _ _ _).trans ((heap_set5 _ _ _ (by omega) _ _ _ _ _).trans E5.out.1.1)) ((heap_set4 _ _ _ (by omega) _ _ _ _).trans ((heap_set5 _ _ _ (by omega) _ _ _ _ _).trans E5.out.1.2))); clear hw5))
      all_goals
        go_wp2_with fail
        have g3 := box_cells K53.out
        have g4 := box_cells K54.out
        refine bodyPost_ret (v := .tuple #[exV op n nm fd a len c, .int .i64 (s.k : Nat), dgV ⟨0, 0, 0, 0⟩]) (by simp [results, Tryz.results81, go_sem, g3, g4, dgV]) rfl ⟨by rw [HW.out], ?_⟩
        repeat (refine Below.setCell ?_ (by dsimp only; omega) _)
        exact E5.out.2.2.2
    · have d2 : ((L.c : Int) != 0) = true := by simp [hc]
      have HW := Lib.hid (HV.out.symm.trans (if_neg (HA.out ▸ hc)))
      rw [← HA.out] at HW
      clear HV HA hc
      go_wp2_with fail
      generalize ((((w3.setCell ⟨w1.heap.size, 0, none⟩ (.int .i64 (L.c : Nat))).setCell ⟨w1.heap.size, 1, none⟩ (.int .i64 (L.p : Nat))).setCell ⟨w1.heap.size, 2, none⟩ (.int .i64 (L.l : Nat))).setCell ⟨w1.heap.size, 3, none⟩ (.int .i64 (L.k : Nat))) = W4 at B4 R4 K41 K42 K43 K44 K45 ⊢
      have g1 := box_cells K41.out
      have g3 := box_cells K43.out
      have g4 := box_cells K44.out
      have g5 := box_cells K45.out
      have f3 : ∀ o, W4.frozen? ⟨w.heap.size + 1 + 1, o, none⟩ = false := fun o => by simp [World.frozen?, K43.out]
      have f4 : ∀ o, W4.frozen? ⟨w.heap.size + 1 + 1 + 1, o, none⟩ = false := fun o => by simp [World.frozen?, K44.out]
      have l3 := heap_lt K43.out
      have l4 := heap_lt K44.out
      go_region
      go_wp2_with fail
      refine bodyPost_ret (v := .tuple #[exV 0 0 ⟨#[]⟩ ⟨#[]⟩ none 0 0, .int .i64 (fr : Nat), dgV L]) (by simp [results, Tryz.results81, go_sem, g3, g4, dgV]) rfl ⟨by rw [HW.out], ?_⟩
      refine Below.drewR ?_
      repeat (refine Below.setCell ?_ (by dsimp only; omega) _)
      exact B4.out
  · have d1 : ((s.f : Int) == 0) = false := by simp [hf]
    have d2 : ((s.f : Int) != 0) = true := by simp [hf]
    have hA0 : ansD q l k (x, s) = faultD s := if_neg hf
    rw [hA0] at HA
    have hc : A.c ≠ 0 := by rw [← HA.out]; exact hf
    have HW := Lib.hid (HV.out.symm.trans (if_neg hc))
    rw [← HA.out] at HW
    clear HA hA0 hc HV
    go_wp2_with fail
    generalize w1.alloc (.cells #[.int .i64 (s.f : Nat), .int .i64 (s.fp : Nat), .int .i64 (s.fl : Nat), .int .i64 (s.fc : Nat)] 30) = W at B2 R2 K21 K22 K23 K24 K25 ⊢
    have g1 := box_cells K21.out
    have g3 := box_cells K23.out
    have g4 := box_cells K24.out
    have g5 := box_cells K25.out
    have f3 : ∀ o, W.frozen? ⟨w.heap.size + 1 + 1, o, none⟩ = false := fun o => by simp [World.frozen?, K23.out]
    have f4 : ∀ o, W.frozen? ⟨w.heap.size + 1 + 1 + 1, o, none⟩ = false := fun o => by simp [World.frozen?, K24.out]
    have l3 := heap_lt K23.out
    have l4 := heap_lt K24.out
    go_region
    go_wp2_with fail
    refine bodyPost_ret (v := .tuple #[exV 0 0 ⟨#[]⟩ ⟨#[]⟩ none 0 0, .int .i64 (fr : Nat), dgV (faultD s)]) (by simp [results, Tryz.results81, go_sem, g3, g4, dgV, faultD]) rfl ⟨by rw [HW.out], ?_⟩
    refine Below.drewR ?_
    repeat (refine Below.setCell ?_ (by dsimp only; omega) _)
    exact B2.out
end Go.Proofs.YtpcldpnaljheoaaGreatDoor
end
section
namespace Go.Proofs.YtpcldpnaljheoaaGreatDoor
open Go.RowKit

def inL (x : ByteArray) (l : List ByteArray) : Bool := l.any fun y => decide (x = y)
theorem inL_iff (x : ByteArray) (l : List ByteArray) : inL x l = true ↔ x ∈ l := by
  unfold inL
  rw [List.any_eq_true]
  constructor
  · rintro ⟨y, hy, e⟩
    rw [of_decide_eq_true e]
    exact hy
  · exact fun h => ⟨x, h, decide_eq_true rfl⟩
def apart (l l' : List ByteArray) : Bool := l.all fun x => !(inL x l')
theorem apart_iff {l l' : List ByteArray} (h : apart l l' = true) : ∀ x ∈ l, x ∉ l' := fun x hx hx' => by
  have := List.all_eq_true.1 h x hx
  rw [(inL_iff x l').2 hx'] at this
  cases this
theorem isB_iff (b : Bt) (l : List ByteArray) : isB b l = true ↔ (b.kind = 2 ∨ b.kind = 5) ∧ b.text ∈ l := by
  unfold isB
  rw [Bool.and_eq_true, isIn_iff, Bool.or_eq_true, beq_iff_eq, beq_iff_eq]
theorem isB_no {b : Bt} {l l' : List ByteArray} (h : isB b l = true) (hd : apart l l' = true) : isB b l' = false := by
  cases e : isB b l' with
  | false => rfl
  | true =>
    exact absurd ((isB_iff b l').1 e).2 (apart_iff hd _ ((isB_iff b l).1 h).2)
theorem isB_kind {b : Bt} (h2 : b.kind ≠ 2) (h5 : b.kind ≠ 5) (l : List ByteArray) : isB b l = false := by
  cases e : isB b l with
  | false => rfl
  | true => rcases ((isB_iff b l).1 e).1 with g | g
            · exact absurd g h2
            · exact absurd g h5
theorem isB_mem {b : Bt} {l : List ByteArray} {x : ByteArray} (h : isB b l = false) (hx : inL x l = true) : isB b [x] = false := by
  cases e : isB b [x] with
  | false => rfl
  | true =>
    have h1 := (isB_iff b [x]).1 e
    rw [(isB_iff b l).2 ⟨h1.1, by rw [List.mem_singleton.1 h1.2]; exact (inL_iff _ _).1 hx⟩] at h
    cases h
def badL : List ByteArray := [elseB, thenB, ⟨#[41]⟩]
theorem der_hd {k : Nat} {T : List Bt} {e : List D} (h : Der k T e) : ∃ b T', T = b :: T' ∧ isB b badL = false ∧ (3 ≤ k → isB b [⟨#[45]⟩] = false) := by
  induction h with
  | int t h => exact ⟨t, [], rfl, isB_kind (by omega) (by omega) _, fun _ => isB_kind (by omega) (by omega) _⟩
  | chr t h => exact ⟨t, [], rfl, isB_kind (by omega) (by omega) _, fun _ => isB_kind (by omega) (by omega) _⟩
  | fls t h => exact ⟨t, [], rfl, isB_no h (by decide), fun _ => isB_no h (by decide)⟩
  | tru t h => exact ⟨t, [], rfl, isB_no h (by decide), fun _ => isB_no h (by decide)⟩
  | no t T e h => exact ⟨t, T, rfl, isB_no h (by decide), fun _ => isB_no h (by decide)⟩
  | par t u T e h => exact ⟨t, _, rfl, isB_no h (by decide), fun _ => isB_no h (by decide)⟩
  | var t h => exact ⟨t, [], rfl, isB_kind (by omega) (by omega) _, fun _ => isB_kind (by omega) (by omega) _⟩
  | idx t u v T e h => exact ⟨t, _, rfl, isB_kind (by omega) (by omega) _, fun _ => isB_kind (by omega) (by omega) _⟩
  | fld t u v h => exact ⟨t, _, rfl, isB_kind (by omega) (by omega) _, fun _ => isB_kind (by omega) (by omega) _⟩
  | call0 t u v h => exact ⟨t, _, rfl, isB_kind (by omega) (by omega) _, fun _ => isB_kind (by omega) (by omega) _⟩
  | call t u T l h => exact ⟨t, _, rfl, isB_kind (by omega) (by omega) _, fun _ => isB_kind (by omega) (by omega) _⟩
  | last u T e _ _ ih => obtain ⟨b, T', rfl, h1, _⟩ := ih; exact ⟨b, _, rfl, h1, fun h => absurd h (by decide)⟩
  | more u T T' e l _ _ _ ih _ => obtain ⟨b, T'', rfl, h1, _⟩ := ih; exact ⟨b, _, rfl, h1, fun h => absurd h (by decide)⟩
  | up3 T e _ ih => obtain ⟨b, T', rfl, h1, h2⟩ := ih; exact ⟨b, T', rfl, h1, fun _ => h2 (by decide)⟩
  | up2 T e _ ih => obtain ⟨b, T', rfl, h1, h2⟩ := ih; exact ⟨b, T', rfl, h1, fun h => absurd h (by decide)⟩
  | up1 T e _ ih => obtain ⟨b, T', rfl, h1, h2⟩ := ih; exact ⟨b, T', rfl, h1, fun h => absurd h (by decide)⟩
  | mul T S T' o a b _ _ _ ih _ => obtain ⟨c, T'', rfl, h1, h2⟩ := ih; exact ⟨c, _, rfl, h1, fun _ => h2 (by decide)⟩
  | neg t T e h => exact ⟨t, T, rfl, isB_no h (by decide), fun h => absurd h (by decide)⟩
  | add T S T' o a b _ _ _ ih _ => obtain ⟨c, T'', rfl, h1, h2⟩ := ih; exact ⟨c, _, rfl, h1, fun h => absurd h (by decide)⟩
  | cmp T S T' o a b _ _ _ ih _ => obtain ⟨c, T'', rfl, h1, h2⟩ := ih; exact ⟨c, _, rfl, h1, fun h => absurd h (by decide)⟩

/-- The tokens from k on. -/
def rst (ts : List Tok) (k : Nat) : List Bt := (ts.drop k).map btk
def adv (s : RS) (n : Nat) : RS := ⟨s.k + n, s.f, s.fp, s.fl, s.fc⟩
theorem adv_adv (s : RS) (a b : Nat) : adv (adv s a) b = adv s (a + b) := by
  show RS.mk (s.k + a + b) s.f s.fp s.fl s.fc = RS.mk (s.k + (a + b)) s.f s.fp s.fl s.fc
  rw [Nat.add_assoc]
theorem step_adv (s : RS) (a : Nat) : stepS (adv s a) = adv s (a + 1) := adv_adv s a 1
def NoHd (l : List ByteArray) (R : List Bt) : Prop := ∀ b R', R = b :: R' → isB b l = false
theorem NoHd.cons {l : List ByteArray} {b : Bt} (h : isB b l = false) (R : List Bt) : NoHd l (b :: R) := fun c R' e => by
  rw [← (List.cons.inj e).1]; exact h
section
variable {ts : List Tok}
theorem rst_cons {k : Nat} {b : Bt} {R : List Bt} (h : rst ts k = b :: R) : ∃ t, ts[k]? = some t ∧ btk t = b ∧ rst ts (k + 1) = R ∧ k < ts.length := by
  unfold rst at h ⊢
  cases hd : ts.drop k with
  | nil => rw [hd] at h; cases h
  | cons t r =>
    rw [hd, List.map_cons] at h
    have hk : k < ts.length := by
      rcases Nat.lt_or_ge k ts.length with g | g
      · exact g
      · rw [List.drop_eq_nil_of_le g] at hd; cases hd
    rw [List.drop_eq_getElem_cons hk] at hd
    refine ⟨t, by rw [List.getElem?_eq_getElem hk, (List.cons.inj hd).1], (List.cons.inj h).1, ?_, hk⟩
    rw [(List.cons.inj hd).2]
    exact (List.cons.inj h).2
theorem rst_app {k : Nat} {T R : List Bt} (h : rst ts k = T ++ R) : rst ts (k + T.length) = R := by
  unfold rst at h ⊢
  rw [← List.drop_drop, List.map_drop, h, List.drop_left]
theorem rst_len {k : Nat} {T R : List Bt} (h : rst ts k = T ++ R) : T.length ≤ ts.length - k := by
  have := congrArg List.length h
  unfold rst at this
  rw [List.length_map, List.length_drop, List.length_append] at this
  omega
theorem cur_rst {s : RS} (hf : s.f = 0) {b : Bt} {R : List Bt} (h : rst ts s.k = b :: R) : btk (cur ts s) = b := by
  obtain ⟨t, ht, hb, _⟩ := rst_cons h
  unfold cur
  rw [if_pos hf, ht]
  exact hb
theorem isT_is {s : RS} (hf : s.f = 0) {b : Bt} {R : List Bt} (h : rst ts s.k = b :: R) (l : List ByteArray) : isT ts s l = isB b l := by
  rw [← cur_rst hf h]; rfl
theorem isT_not {s : RS} (hf : s.f = 0) {l : List ByteArray} (h : NoHd l (rst ts s.k)) : isT ts s l = false := by
  cases e : isT ts s l with
  | false => rfl
  | true =>
    obtain ⟨_, hk, ht⟩ := isT_k e
    have h1 : rst ts s.k = btk (cur ts s) :: rst ts (s.k + 1) := by
      unfold rst
      obtain ⟨hl, hq⟩ := List.getElem?_eq_some_iff.1 ht
      rw [List.drop_eq_getElem_cons hl, List.map_cons, hq]
    have h2 := h _ _ h1
    rw [isT_is hf h1, h2] at e
    cases e
theorem kind_rst {s : RS} (hf : s.f = 0) {b : Bt} {R : List Bt} (h : rst ts s.k = b :: R) : (cur ts s).kind = b.kind := congrArg Bt.kind (cur_rst hf h)
theorem text_rst {s : RS} (hf : s.f = 0) {b : Bt} {R : List Bt} (h : rst ts s.k = b :: R) : (cur ts s).text = b.text := congrArg Bt.text (cur_rst hf h)
theorem n_rst {s : RS} (hf : s.f = 0) {b : Bt} {R : List Bt} (h : rst ts s.k = b :: R) : (cur ts s).n = b.n := congrArg Bt.n (cur_rst hf h)
theorem ops_hd {l : List ByteArray} {S : List Bt} {o : Nat} (h : OpS l S o) : ∃ b S', S = b :: S' ∧ isB b l = true := by
  cases h with
  | one t o h _ => exact ⟨t, [], rfl, h⟩
  | orElse t u h _ _ => exact ⟨t, [u], rfl, h⟩
  | andThen t u h _ _ => exact ⟨t, [u], rfl, h⟩
theorem opP_is {l : List ByteArray} (hl : ∀ t ∈ l, opNo signsP t ≠ 0) {S : List Bt} {o : Nat} (h : OpS l S o) {s : RS} (hf : s.f = 0) {b : Bt} {R : List Bt} (hr : rst ts s.k = S ++ b :: R) (hb : isB b badL = false) :
    opP ts s l = (o, adv s S.length) ∧ o ≠ 0 := by
  cases h with
  | one t o h ho =>
    have hr' : rst ts s.k = t :: (b :: R) := hr
    obtain ⟨_, _, _, hr2, _⟩ := rst_cons hr'
    have h1 : isT ts s l = true := (isT_is hf hr' l).trans h
    have hx := text_rst hf hr'
    have h2 : isT ts (stepS s) [elseB] = false := (isT_is (s := stepS s) hf hr2 _).trans (isB_mem hb (by decide))
    have h3 : isT ts (stepS s) [thenB] = false := (isT_is (s := stepS s) hf hr2 _).trans (isB_mem hb (by decide))
    unfold opP
    rw [takeT_yes h1]
    dsimp only
    rw [h2, h3, if_neg (fun e => absurd e.2 (by decide)), if_neg (fun e => absurd e.2 (by decide)), hx]
    exact ⟨by rw [ho]; rfl, by rw [ho]; exact hl _ ((isB_iff t l).1 h).2⟩
  | orElse t u h ht hu =>
    have hr' : rst ts s.k = t :: (u :: (b :: R)) := hr
    obtain ⟨_, _, _, hr2, _⟩ := rst_cons hr'
    have h1 : isT ts s l = true := (isT_is hf hr' l).trans h
    have hx := (text_rst hf hr').trans ht
    have h2 : isT ts (stepS s) [elseB] = true := (isT_is (s := stepS s) hf hr2 _).trans hu
    unfold opP
    rw [takeT_yes h1]
    dsimp only
    rw [if_pos ⟨hx, h2⟩]
    exact ⟨rfl, by decide⟩
  | andThen t u h ht hu =>
    have hr' : rst ts s.k = t :: (u :: (b :: R)) := hr
    obtain ⟨_, _, _, hr2, _⟩ := rst_cons hr'
    have h1 : isT ts s l = true := (isT_is hf hr' l).trans h
    have hx := (text_rst hf hr').trans ht
    have h2 : isT ts (stepS s) [thenB] = true := (isT_is (s := stepS s) hf hr2 _).trans hu
    unfold opP
    rw [takeT_yes h1]
    dsimp only
    rw [if_neg (fun e => absurd (hx.symm.trans e.1) (by decide)), if_pos ⟨hx, h2⟩]
    exact ⟨rfl, by decide⟩
theorem opP_no {l : List ByteArray} {s : RS} (hf : s.f = 0) (h : NoHd l (rst ts s.k)) : opP ts s l = (0, s) := by
  rcases opP_cases ts s l with ⟨_, e⟩ | ⟨e, _⟩
  · exact e
  · rw [isT_not hf h] at e; cases e
theorem rowP_no {l : List ByteArray} {s : RS} (hf : s.f = 0) (h : NoHd l (rst ts s.k)) (g : RS → XS) (m : Nat) (e : List D) : rowP ts l g m e s = (e, s) := by
  cases m with
  | zero => rfl
  | succ m => unfold rowP; rw [opP_no hf h]; rfl
end
section
variable (ts : List Tok)
/-- What the plain reader does where T stands. -/
def R4 (T : List Bt) (e : List D) : Prop := ∀ n s R, s.f = 0 → rst ts s.k = T ++ R → leftS ts s < n → NoHd brL R → fac ts n s = (e, adv s T.length)
def R3 (T : List Bt) (e : List D) : Prop := ∀ n s R, s.f = 0 → rst ts s.k = T ++ R → leftS ts s < n → NoHd brL R → ∃ m0, m0 < T.length ∧ termP ts (fac ts n) s = rowP ts mulL (fac ts n) (ts.length + 1 - m0) e (adv s T.length)
def R2 (T : List Bt) (e : List D) : Prop := ∀ n s R, s.f = 0 → rst ts s.k = T ++ R → leftS ts s < n → NoHd brL R → NoHd mulL R → ∃ m0, m0 < T.length ∧ simpleP ts (fac ts n) s = rowP ts addL (termP ts (fac ts n)) (ts.length + 1 - m0) e (adv s T.length)
def R1 (T : List Bt) (e : List D) : Prop := ∀ n s R, s.f = 0 → rst ts s.k = T ++ R → leftS ts s < n → NoHd brL R → NoHd mulL R → NoHd addL R → NoHd cmpL R → exprP ts (fac ts n) s = (e, adv s T.length)
def R0 (T : List Bt) (l : List (List D)) : Prop := ∀ n s R m acc, s.f = 0 → rst ts s.k = T ++ R → leftS ts s < n → leftS ts s < m → opsP ts (fac ts n) m (acc ++ [(exprP ts (fac ts n) s).1]) (exprP ts (fac ts n) s).2 = (acc ++ l, adv s T.length)
structure Rdb (k : Nat) (T : List Bt) (e : List D) : Prop where
  r4 : k = 4 → R4 ts T e
  r3 : k = 3 → R3 ts T e
  r2 : k = 2 → R2 ts T e
  r1 : k = 1 → R1 ts T e
  r0 : k = 0 → ∀ l, e = [.row l] → R0 ts T l
end
section
variable {ts : List Tok}
theorem Rdb.m4 {T : List Bt} {e : List D} (h : R4 ts T e) : Rdb ts 4 T e := ⟨fun _ => h, fun h => absurd h (by decide), fun h => absurd h (by decide), fun h => absurd h (by decide), fun h => absurd h (by decide)⟩
theorem Rdb.m3 {T : List Bt} {e : List D} (h : R3 ts T e) : Rdb ts 3 T e := ⟨fun h => absurd h (by decide), fun _ => h, fun h => absurd h (by decide), fun h => absurd h (by decide), fun h => absurd h (by decide)⟩
theorem Rdb.m2 {T : List Bt} {e : List D} (h : R2 ts T e) : Rdb ts 2 T e := ⟨fun h => absurd h (by decide), fun h => absurd h (by decide), fun _ => h, fun h => absurd h (by decide), fun h => absurd h (by decide)⟩
theorem Rdb.m1 {T : List Bt} {e : List D} (h : R1 ts T e) : Rdb ts 1 T e := ⟨fun h => absurd h (by decide), fun h => absurd h (by decide), fun h => absurd h (by decide), fun _ => h, fun h => absurd h (by decide)⟩
theorem Rdb.m0 {T : List Bt} {l : List (List D)} (h : R0 ts T l) : Rdb ts 0 T [.row l] := ⟨fun h => absurd h (by decide), fun h => absurd h (by decide), fun h => absurd h (by decide), fun h => absurd h (by decide), fun _ l' e => by
  injection e with e _; injection e with e; subst e; exact h⟩
theorem left_adv {s : RS} (hf : s.f = 0) {a : Nat} {T R : List Bt} (hr : rst ts s.k = T ++ R) (ha : 0 < a) (hT : a ≤ T.length) : leftS ts (adv s a) < leftS ts s := by
  have h := rst_len hr
  rw [left_eq hf, left_eq (s := adv s a) hf]
  show ts.length - (s.k + a) < ts.length - s.k
  omega
theorem suc_of {a n : Nat} (h : a < n) : ∃ m, n = m + 1 := ⟨n - 1, by omega⟩
theorem fac_c {n : Nat} {s : RS} (hf : s.f = 0) {b : Bt} {R : List Bt} (hr : rst ts s.k = b :: R) (h1 : isB b [notB] = false) (h2 : isB b [⟨#[40]⟩] = false) (h3 : b.kind ≠ 1) : fac ts (n + 1) s = constP ts s := by
  show factorP ts (fac ts n) s = _
  unfold factorP
  rw [isT_is hf hr, h1, isT_is hf hr, h2, if_neg (by decide), if_neg (by decide), if_neg (by rw [kind_rst hf hr]; exact h3)]
theorem fac_n {n : Nat} {s : RS} (hf : s.f = 0) {b : Bt} {R : List Bt} (hr : rst ts s.k = b :: R) (h3 : b.kind = 1) : fac ts (n + 1) s = namedP ts (fac ts n) s := by
  show factorP ts (fac ts n) s = _
  unfold factorP
  rw [isT_is hf hr, isB_kind (by omega) (by omega), isT_is hf hr, isB_kind (by omega) (by omega), if_neg (by decide), if_neg (by decide), if_pos ((kind_rst hf hr).trans h3)]
theorem need_is {s : RS} (hf : s.f = 0) {b : Bt} {R : List Bt} (hr : rst ts s.k = b :: R) (h3 : b.kind = 1) : needN ts s = (b.text, adv s 1) := by
  unfold needN
  rw [if_pos ((kind_rst hf hr).trans h3), text_rst hf hr]
  rfl
theorem take_is {s : RS} (hf : s.f = 0) {b : Bt} {R : List Bt} (hr : rst ts s.k = b :: R) {l : List ByteArray} (h : isB b l = true) : takeT ts s l = (b.text, adv s 1) := by
  rw [takeT_yes ((isT_is hf hr l).trans h), text_rst hf hr]
  rfl
theorem needT_is {s : RS} (hf : s.f = 0) {b : Bt} {R : List Bt} (hr : rst ts s.k = b :: R) {l : List ByteArray} (h : isB b l = true) : needT ts s l = adv s 1 := if_pos ((isT_is hf hr l).trans h)
theorem isB_text {b : Bt} {x : ByteArray} (h : isB b [x] = true) : b.text = x := List.mem_singleton.1 ((isB_iff b [x]).1 h).2
theorem isB_sub {b : Bt} {x : ByteArray} {l : List ByteArray} (h : isB b [x] = true) (hx : inL x l = true) : isB b l = true :=
  (isB_iff b l).2 ⟨((isB_iff b [x]).1 h).1, by rw [isB_text h]; exact (inL_iff _ _).1 hx⟩
theorem NoHd.of {l l' : List ByteArray} {b : Bt} (h : isB b l = true) (hd : apart l l' = true) (R : List Bt) : NoHd l' (b :: R) := NoHd.cons (isB_no h hd) R
theorem NoHd.ops {l l' : List ByteArray} {S : List Bt} {o : Nat} (h : OpS l S o) (hd : apart l l' = true) (R : List Bt) : NoHd l' (S ++ R) := by
  obtain ⟨b, S', rfl, hb⟩ := ops_hd h
  exact NoHd.of hb hd _
theorem rst1 {k : Nat} {b : Bt} {R : List Bt} (h : rst ts k = b :: R) : rst ts (k + 1) = R := rst_app (T := [b]) h
theorem row_next {l : List ByteArray} {lvl' : Nat} (hl : ∀ t ∈ l, opNo signsP t ≠ 0) {T S T' R : List Bt} {o : Nat} {a b : List D} {g : RS → XS} {s : RS} (hf : s.f = 0) (hr : rst ts s.k = (T ++ (S ++ T')) ++ R) {m0 : Nat} (hm : m0 < T.length) (hS : OpS l S o) (hT' : Der lvl' T' b)
    (hg : g (adv s (T.length + S.length)) = (b, adv (adv s (T.length + S.length)) T'.length)) :
    rowP ts l g (ts.length + 1 - m0) a (adv s T.length) = rowP ts l g (ts.length + 1 - (m0 + 1)) (mkE (o : Int) 0 noB noB [a, b]) (adv s (T ++ (S ++ T')).length) := by
  have hlen := rst_len hr
  rw [List.length_append, List.length_append] at hlen
  obtain ⟨c, T'', rfl, hc, _⟩ := der_hd hT'
  have hr1 : rst ts (adv s T.length).k = S ++ c :: (T'' ++ R) := by
    have : rst ts (s.k + T.length) = S ++ (c :: T'') ++ R := rst_app (by rw [hr]; simp)
    rw [show (adv s T.length).k = s.k + T.length from rfl, this]
    simp
  obtain ⟨e1, e2⟩ := opP_is (ts := ts) hl hS (s := adv s T.length) hf hr1 hc
  rw [show ts.length + 1 - m0 = (ts.length - m0) + 1 by omega, show ts.length + 1 - (m0 + 1) = ts.length - m0 by omega]
  conv => lhs; unfold rowP
  rw [e1, if_neg e2]
  dsimp only
  rw [adv_adv, hg, adv_adv, List.length_append, List.length_append, Nat.add_assoc]
theorem der_read {k : Nat} {T : List Bt} {e : List D} (h : Der k T e) : Rdb ts k T e := by
  induction h with
  | int t h =>
    exact .m4 fun n s R hf hr hn _ => by
      obtain ⟨m, rfl⟩ := suc_of hn
      rw [fac_c hf hr (isB_kind (by omega) (by omega) _) (isB_kind (by omega) (by omega) _) (by omega)]
      unfold constP
      rw [if_pos ((kind_rst hf hr).trans h), n_rst hf hr]
      rfl
  | chr t h =>
    exact .m4 fun n s R hf hr hn _ => by
      obtain ⟨m, rfl⟩ := suc_of hn
      rw [fac_c hf hr (isB_kind (by omega) (by omega) _) (isB_kind (by omega) (by omega) _) (by omega)]
      unfold constP
      rw [if_neg (by rw [kind_rst hf hr]; omega), if_pos ((kind_rst hf hr).trans h), n_rst hf hr]
      rfl
  | fls t h =>
    exact .m4 fun n s R hf hr hn _ => by
      obtain ⟨m, rfl⟩ := suc_of hn
      have hk := ((isB_iff _ _).1 h).1
      rw [fac_c hf hr (isB_no h (by decide)) (isB_no h (by decide)) (by omega)]
      unfold constP
      rw [if_neg (by rw [kind_rst hf hr]; omega), if_neg (by rw [kind_rst hf hr]; omega), if_pos ((isT_is hf hr _).trans h)]
      rfl
  | tru t h =>
    exact .m4 fun n s R hf hr hn _ => by
      obtain ⟨m, rfl⟩ := suc_of hn
      have hk := ((isB_iff _ _).1 h).1
      rw [fac_c hf hr (isB_no h (by decide)) (isB_no h (by decide)) (by omega)]
      unfold constP
      rw [if_neg (by rw [kind_rst hf hr]; omega), if_neg (by rw [kind_rst hf hr]; omega), isT_is hf hr, isB_no h (l' := [falseB]) (by decide), if_neg (by decide), if_pos ((isT_is hf hr _).trans h)]
      rfl
  | no t T e h hd ih =>
    exact .m4 fun n s R hf hr hn hb => by
      obtain ⟨m, rfl⟩ := suc_of hn
      have h1 := left_adv (a := 1) hf hr (by decide) (by simp)
      show factorP ts (fac ts m) s = _
      unfold factorP
      rw [if_pos ((isT_is hf hr _).trans h), show stepS s = adv s 1 from rfl, ih.r4 rfl m (adv s 1) R hf (rst1 hr) (by omega) hb, adv_adv, List.length_cons, Nat.add_comm 1]
  | par t u T e h hd hu ih =>
    exact .m4 fun n s R hf hr hn hb => by
      obtain ⟨m, rfl⟩ := suc_of hn
      have hr' : rst ts s.k = t :: (T ++ u :: R) := by rw [hr]; simp
      have h1 := left_adv (a := 1) hf hr (by decide) (by simp)
      have hx := ih.r1 rfl m (adv s 1) (u :: R) hf (rst1 hr') (by omega) (.of hu (by decide) _) (.of hu (by decide) _) (.of hu (by decide) _) (.of hu (by decide) _)
      show factorP ts (fac ts m) s = _
      unfold factorP
      rw [isT_is hf hr', isB_no h (l' := [notB]) (by decide), if_neg (by decide), if_pos ((isT_is hf hr' _).trans h), show stepS s = adv s 1 from rfl, hx]
      dsimp only
      rw [needT_is (s := adv (adv s 1) T.length) hf (rst_app (rst1 hr')) hu, adv_adv, adv_adv, List.length_cons, List.length_append, List.length_singleton, Nat.add_comm 1, Nat.add_right_comm]
  | var t h =>
    exact .m4 fun n s R hf hr hn hb => by
      obtain ⟨m, rfl⟩ := suc_of hn
      rw [fac_n hf hr h]
      unfold namedP
      rw [need_is hf hr h]
      dsimp only
      rw [takeT_no (isT_not (s := adv s 1) hf (by rw [show rst ts (adv s 1).k = R from rst1 hr]; exact hb))]
      dsimp only
      rw [if_neg (by decide), if_neg (by decide), if_neg (by decide)]
      rfl
  | idx t u v T e h hu hd hv ih =>
    exact .m4 fun n s R hf hr hn hb => by
      obtain ⟨m, rfl⟩ := suc_of hn
      have hr' : rst ts s.k = t :: (u :: (T ++ v :: R)) := by rw [hr]; simp
      have h2 := left_adv (a := 2) hf hr (by decide) (by simp)
      have hx := ih.r1 rfl m (adv s 2) (v :: R) hf (rst1 (rst1 hr')) (by omega) (.of hv (by decide) _) (.of hv (by decide) _) (.of hv (by decide) _) (.of hv (by decide) _)
      rw [fac_n hf hr' h]
      unfold namedP
      rw [need_is hf hr' h]
      dsimp only
      rw [take_is (s := adv s 1) hf (rst1 hr') (isB_sub hu (by decide)), isB_text hu]
      dsimp only
      rw [if_neg (by decide), if_pos rfl, adv_adv, hx]
      dsimp only
      rw [needT_is (s := adv (adv s 2) T.length) hf (rst_app (rst1 (rst1 hr'))) hv, adv_adv, adv_adv, List.length_cons, List.length_cons, List.length_append, List.length_singleton]
      rw [show 2 + (T.length + 1) = T.length + 1 + 1 + 1 by omega]
  | fld t u v h hu hv =>
    exact .m4 fun n s R hf hr hn hb => by
      obtain ⟨m, rfl⟩ := suc_of hn
      have hr' : rst ts s.k = t :: (u :: (v :: R)) := hr
      rw [fac_n hf hr' h]
      unfold namedP
      rw [need_is hf hr' h]
      dsimp only
      rw [take_is (s := adv s 1) hf (rst1 hr') (isB_sub hu (by decide)), isB_text hu]
      dsimp only
      rw [if_neg (by decide), if_neg (by decide), if_pos rfl, need_is (s := adv (adv s 1) 1) hf (rst1 (rst1 hr')) hv]
      rfl
  | call0 t u v h hu hv =>
    exact .m4 fun n s R hf hr hn hb => by
      obtain ⟨m, rfl⟩ := suc_of hn
      have hr' : rst ts s.k = t :: (u :: (v :: R)) := hr
      rw [fac_n hf hr' h]
      unfold namedP
      rw [need_is hf hr' h]
      dsimp only
      rw [take_is (s := adv s 1) hf (rst1 hr') (isB_sub hu (by decide)), isB_text hu]
      dsimp only
      rw [if_pos rfl]
      unfold operandsP
      rw [if_pos ((isT_is (s := adv (adv s 1) 1) hf (rst1 (rst1 hr')) _).trans hv)]
      rfl
  | call t u T l h hu hd ih =>
    exact .m4 fun n s R hf hr hn hb => by
      obtain ⟨m, rfl⟩ := suc_of hn
      have hr' : rst ts s.k = t :: (u :: (T ++ R)) := hr
      have h2 := left_adv (a := 2) hf hr (by decide) (by simp)
      obtain ⟨b, T', hT, hbad, _⟩ := der_hd hd
      have hl : leftS ts (adv s 2) < ts.length + 1 := by unfold leftS; split <;> omega
      have hx := ih.r0 rfl l rfl m (adv s 2) R (ts.length + 1) [] hf (rst1 (rst1 hr')) (by omega) hl
      have hr2 : rst ts (adv s 2).k = b :: (T' ++ R) := by rw [show rst ts (adv s 2).k = T ++ R from rst1 (rst1 hr'), hT]; rfl
      rw [fac_n hf hr' h]
      unfold namedP
      rw [need_is hf hr' h]
      dsimp only
      rw [take_is (s := adv s 1) hf (rst1 hr') (isB_sub hu (by decide)), isB_text hu]
      dsimp only
      rw [if_pos rfl]
      unfold operandsP
      rw [adv_adv, isT_is (s := adv s (1 + 1)) hf hr2, isB_mem hbad (by decide), if_neg (by decide), show [(exprP ts (fac ts m) (adv s (1 + 1))).1] = [] ++ [(exprP ts (fac ts m) (adv s 2)).1] from rfl, hx, adv_adv, List.length_cons, List.length_cons]
      rw [show 2 + T.length = T.length + 1 + 1 by omega]
      rfl
  | last u T e hd hu ih =>
    exact .m0 fun n s R m acc hf hr hn hm => by
      obtain ⟨m, rfl⟩ := suc_of hm
      have hr' : rst ts s.k = T ++ (u :: R) := by rw [hr]; simp
      have hx := ih.r1 rfl n s (u :: R) hf hr' hn (.of hu (by decide) _) (.of hu (by decide) _) (.of hu (by decide) _) (.of hu (by decide) _)
      have hr2 : rst ts (adv s T.length).k = u :: R := rst_app hr'
      rw [hx]
      dsimp only
      unfold opsP
      rw [isT_is (s := adv s T.length) hf hr2, isB_no hu (l' := [⟨#[44]⟩]) (by decide), if_neg (by decide), needT_is (s := adv s T.length) hf hr2 hu, adv_adv, List.length_append]
      rfl
  | more u T T' e l hd hu hd' ih ih' =>
    exact .m0 fun n s R m acc hf hr hn hm => by
      obtain ⟨m, rfl⟩ := suc_of hm
      have hr' : rst ts s.k = T ++ (u :: (T' ++ R)) := by rw [hr]; simp
      have hx := ih.r1 rfl n s (u :: (T' ++ R)) hf hr' hn (.of hu (by decide) _) (.of hu (by decide) _) (.of hu (by decide) _) (.of hu (by decide) _)
      have hr2 : rst ts (adv s T.length).k = u :: (T' ++ R) := rst_app hr'
      have h2 := left_adv (a := T.length + 1) hf hr (by omega) (by simp)
      have hy := ih'.r0 rfl l rfl n (adv s (T.length + 1)) R m (acc ++ [e]) hf (rst1 hr2) (by omega) (by omega)
      rw [hx]
      dsimp only
      unfold opsP
      rw [if_pos ((isT_is (s := adv s T.length) hf hr2 _).trans hu), step_adv, hy, adv_adv, List.length_append, List.length_cons, List.append_assoc]
      rw [show T.length + 1 + T'.length = T.length + (T'.length + 1) by omega]
      rfl
  | up3 T e hd ih =>
    exact .m3 fun n s R hf hr hn hb => by
      obtain ⟨b, T', hT, _⟩ := der_hd hd
      refine ⟨0, by rw [hT]; simp, ?_⟩
      unfold termP
      rw [ih.r4 rfl n s R hf hr hn hb]
      rfl
  | up2 T e hd ih =>
    exact .m2 fun n s R hf hr hn hb hm => by
      obtain ⟨b, T', hT, _, hneg⟩ := der_hd hd
      refine ⟨0, by rw [hT]; simp, ?_⟩
      obtain ⟨m0, _, hx⟩ := ih.r3 rfl n s R hf hr hn hb
      rw [rowP_no (s := adv s T.length) hf (by rw [show rst ts (adv s T.length).k = R from rst_app hr]; exact hm)] at hx
      have hr2 : rst ts s.k = b :: (T' ++ R) := by rw [hr, hT]; rfl
      unfold simpleP firstP
      rw [isT_is hf hr2, hneg (by decide), if_neg (by decide), hx]
      rfl
  | up1 T e hd ih =>
    exact .m1 fun n s R hf hr hn hb hm ha hc => by
      obtain ⟨m0, _, hx⟩ := ih.r2 rfl n s R hf hr hn hb hm
      have hR : rst ts (adv s T.length).k = R := rst_app hr
      rw [rowP_no (s := adv s T.length) hf (by rw [hR]; exact ha)] at hx
      unfold exprP
      rw [hx]
      dsimp only
      rw [opP_no (s := adv s T.length) hf (by rw [hR]; exact hc), if_pos rfl]
  | mul T S T' o a b hd hS hd' ih ih' =>
    exact .m3 fun n s R hf hr hn hb => by
      have hr1 : rst ts s.k = T ++ (S ++ (T' ++ R)) := by rw [hr]; simp
      obtain ⟨m0, hm0, hx⟩ := ih.r3 rfl n s _ hf hr1 hn (.ops hS (by decide) _)
      have hr3 : rst ts (adv s (T.length + S.length)).k = T' ++ R := by
        rw [show (adv s (T.length + S.length)).k = s.k + T.length + S.length from (Nat.add_assoc _ _ _).symm]; exact rst_app (rst_app hr1)
      have h2 := left_adv (a := T.length + S.length) hf hr (by omega) (by simp)
      refine ⟨m0 + 1, by obtain ⟨c, S', rfl, _⟩ := ops_hd hS; simp; omega, ?_⟩
      rw [hx]
      exact row_next mul_ne hf hr hm0 hS hd' (ih'.r4 rfl n _ R hf hr3 (by omega) hb)
  | neg t T e h hd ih =>
    exact .m2 fun n s R hf hr hn hb hm => by
      have h1 := left_adv (a := 1) hf hr (by decide) (by simp)
      obtain ⟨m0, _, hx⟩ := ih.r3 rfl n (adv s 1) R hf (rst1 hr) (by omega) hb
      rw [rowP_no (s := adv (adv s 1) T.length) hf (by rw [show rst ts (adv (adv s 1) T.length).k = R from rst_app (rst1 hr)]; exact hm), adv_adv] at hx
      refine ⟨0, by simp, ?_⟩
      unfold simpleP firstP
      rw [if_pos ((isT_is hf hr _).trans h), show stepS s = adv s 1 from rfl, hx, List.length_cons, Nat.add_comm 1]
      rfl
  | add T S T' o a b hd hS hd' ih ih' =>
    exact .m2 fun n s R hf hr hn hb hm => by
      have hr1 : rst ts s.k = T ++ (S ++ (T' ++ R)) := by rw [hr]; simp
      obtain ⟨m0, hm0, hx⟩ := ih.r2 rfl n s _ hf hr1 hn (.ops hS (by decide) _) (.ops hS (by decide) _)
      have hr3 : rst ts (adv s (T.length + S.length)).k = T' ++ R := by
        rw [show (adv s (T.length + S.length)).k = s.k + T.length + S.length from (Nat.add_assoc _ _ _).symm]; exact rst_app (rst_app hr1)
      have h2 := left_adv (a := T.length + S.length) hf hr (by omega) (by simp)
      refine ⟨m0 + 1, by obtain ⟨c, S', rfl, _⟩ := ops_hd hS; simp; omega, ?_⟩
      obtain ⟨m1, _, hy⟩ := ih'.r3 rfl n (adv s (T.length + S.length)) R hf hr3 (by omega) hb
      rw [rowP_no (s := adv (adv s (T.length + S.length)) T'.length) hf (by rw [show rst ts (adv (adv s (T.length + S.length)) T'.length).k = R from rst_app hr3]; exact hm)] at hy
      rw [hx]
      exact row_next add_ne hf hr hm0 hS hd' hy
  | cmp T S T' o a b hd hS hd' ih ih' =>
    exact .m1 fun n s R hf hr hn hb hm ha hc => by
      have hr1 : rst ts s.k = T ++ (S ++ (T' ++ R)) := by rw [hr]; simp
      obtain ⟨m0, _, hx⟩ := ih.r2 rfl n s _ hf hr1 hn (.ops hS (by decide) _) (.ops hS (by decide) _)
      have hR : rst ts (adv s T.length).k = S ++ (T' ++ R) := rst_app hr1
      rw [rowP_no (s := adv s T.length) hf (by rw [hR]; exact .ops hS (by decide) _)] at hx
      have hr3 : rst ts (adv (adv s T.length) S.length).k = T' ++ R := rst_app hR
      obtain ⟨c, T'', hT', hbad, _⟩ := der_hd hd'
      obtain ⟨e1, e2⟩ := opP_is (ts := ts) cmp_ne hS (s := adv s T.length) hf (by rw [hR, hT']; rfl) hbad
      have h2 := left_adv (a := T.length + S.length) hf hr (by obtain ⟨c, S', rfl, _⟩ := ops_hd hS; simp; omega) (by simp)
      obtain ⟨m1, _, hy⟩ := ih'.r2 rfl n (adv (adv s T.length) S.length) R hf hr3 (by rw [adv_adv]; omega) hb hm
      rw [rowP_no (s := adv (adv (adv s T.length) S.length) T'.length) hf (by rw [show rst ts (adv (adv (adv s T.length) S.length) T'.length).k = R from rst_app hr3]; exact ha)] at hy
      unfold exprP
      rw [hx]
      dsimp only
      rw [e1, if_neg e2]
      dsimp only
      rw [hy, adv_adv, adv_adv, List.length_append, List.length_append]
end
end Go.Proofs.YtpcldpnaljheoaaGreatDoor
end
section
namespace Go.Proofs.YtpcldpnaljheoaaGreatDoor
open Go.RowKit Go.Deep Go.Sort

theorem nRow_mk (o n : Int) (a b : ByteArray) (l : List (List D)) : nRow (mkE o n a b l) = nRows l := nRow_E o n a b l
theorem nRow_row (l : List (List D)) : nRow [.row l] = nRows l := by simp [nRow, nD]
theorem nRows_1 (a : List D) : nRows [a] = nRow a + 1 := by simp [nRows]
theorem nRows_2 (a b : List D) : nRows [a, b] = nRow a + 1 + (nRow b + 1) := by simp [nRows]
theorem nRows_cons (a : List D) (l : List (List D)) : nRows (a :: l) = nRow a + 1 + nRows l := by simp [nRows]
theorem nRows_nil : nRows [] = 0 := by simp [nRows]
theorem ops_len {l : List ByteArray} {S : List Bt} {o : Nat} (h : OpS l S o) : 1 ≤ S.length := by
  obtain ⟨b, S', rfl, _⟩ := ops_hd h
  simp
theorem der_n {k : Nat} {T : List Bt} {e : List D} (h : Der k T e) : nRow e + 1 ≤ T.length := by
  induction h with
  | int t h => rw [nRow_mk, nRows_nil]; simp
  | chr t h => rw [nRow_mk, nRows_nil]; simp
  | fls t h => rw [nRow_mk, nRows_nil]; simp
  | tru t h => rw [nRow_mk, nRows_nil]; simp
  | no t T e h _ ih => rw [nRow_mk, nRows_1, List.length_cons]; omega
  | par t u T e h _ _ ih => rw [List.length_cons, List.length_append]; omega
  | var t h => rw [nRow_mk, nRows_nil]; simp
  | idx t u v T e _ _ _ _ ih => rw [nRow_mk, nRows_1, List.length_cons, List.length_cons, List.length_append]; omega
  | fld t u v _ _ _ => rw [nRow_mk, nRows_nil]; simp
  | call0 t u v _ _ _ => rw [nRow_mk, nRows_nil]; simp
  | call t u T l _ _ _ ih => rw [nRow_row] at ih; rw [nRow_mk, List.length_cons, List.length_cons]; omega
  | last u T e _ _ ih => rw [nRow_row, nRows_1, List.length_append, List.length_singleton]; omega
  | more u T T' e l _ _ _ ih ih' => rw [nRow_row] at ih'; rw [nRow_row, nRows_cons, List.length_append, List.length_cons]; omega
  | up3 T e _ ih => exact ih
  | up2 T e _ ih => exact ih
  | up1 T e _ ih => exact ih
  | mul T S T' o a b _ hS _ ih ih' => have := ops_len hS; rw [nRow_mk, nRows_2, List.length_append, List.length_append]; omega
  | neg t T e h _ ih => rw [nRow_mk, nRows_1, List.length_cons]; omega
  | add T S T' o a b _ hS _ ih ih' => have := ops_len hS; rw [nRow_mk, nRows_2, List.length_append, List.length_append]; omega
  | cmp T S T' o a b _ hS _ ih ih' => have := ops_len hS; rw [nRow_mk, nRows_2, List.length_append, List.length_append]; omega
theorem seg_le (ts : List Tok) (i j : Nat) : (seg ts i j).length ≤ ts.length := by
  unfold seg
  rw [List.length_map, List.length_take, List.length_drop]
  omega
def parX (ts : List Tok) (k : Nat) : XS := exprP ts (fac ts (ts.length + 1)) ⟨k, 0, 0, 0, 0⟩
def parD (ts : List Tok) (k : Nat) : Dg := ansD (cur ts ⟨k, 0, 0, 0, 0⟩).pos (cur ts ⟨k, 0, 0, 0, 0⟩).line (cur ts ⟨k, 0, 0, 0, 0⟩).col (parX ts k)
theorem parX_good (ts : List Tok) (k : Nat) : Good ts 1 ⟨k, 0, 0, 0, 0⟩ (parX ts k) := good_all ts _
theorem parX_n {ts : List Tok} {k : Nat} (hok : TsOk ts) (h : (parX ts k).2.f = 0) : nRow (parX ts k).1 + 1 ≤ 800000 := by
  have G := parX_good ts k
  generalize parX ts k = x at G h ⊢
  have h1 := der_n (G rfl h).2.2
  have h2 := seg_le ts (RS.mk k 0 0 0 0).k x.2.k
  have h3 := hok.len
  omega
/-- The tables lie where they lay. -/
structure Gt (w : World) : Prop where
  sz : 8 < w.heap.size
  sg : ∀ k x, signsP[k]? = some x → w.cell? ⟨0, 10 + k, none⟩ = some (.string x)
  tr0 : w.cell? ⟨1, 0, none⟩ = some (.string falseB)
  tr1 : w.cell? ⟨1, 1, none⟩ = some (.string trueB)
theorem Gt.below {w w' : World} (h : Gt w) (b : Below w.heap.size w w') : Gt w' := by
  have h0 := h.sz
  exact ⟨Nat.lt_of_lt_of_le h.sz b.size, fun k x hx => (cell_eq (b.block _ (by omega))).trans (h.sg k x hx), (cell_eq (b.block _ (by omega))).trans h.tr0, (cell_eq (b.block _ (by omega))).trans h.tr1⟩
theorem Gt.gl {w w' : World} (h : Gt w) (b : Below w.heap.size w w') {p : Nat} (hp : w.heap.size ≤ p) (hl : p < w'.heap.size) : Gl p w' :=
  ⟨Nat.lt_of_lt_of_le h.sz hp, hl, (h.below b).sg, (h.below b).tr0, (h.below b).tr1⟩
def ParPost (ts : List Tok) (k : Nat) (w : World) (e : Ending) (w' : World) : Prop :=
  Below w.heap.size w w' ∧ ((parD ts k).c ≠ 0 ∧ e = .returned (.tuple #[exV 0 0 noB noB none 0 0, .int .i64 (k : Nat), dgV (parD ts k)]) ∨
    (parD ts k).c = 0 ∧ ∃ op n nm fd a len c, e = .returned (.tuple #[exV op n nm fd a len c, .int .i64 ((parX ts k).2.k : Nat), dgV ⟨0, 0, 0, 0⟩]) ∧ AllAt (Mk (fun b => b < w.heap.size) w') [.int .i64 op, .int .i64 n, .string nm, .string fd, .slice a len c] (parX ts k).1 ∧ ShE (parX ts k).1 ∧ (parX ts k).2.k ≤ ts.length)
/-- What Answer leaves. -/
def AnsPost (P : Nat → Prop) (X : XS) (Dx : Dg) (N k : Nat) (w : World) (e : Ending) (w' : World) : Prop :=
  Below w.heap.size w w' ∧ ∃ op n nm fd a len c j d, e = .returned (.tuple #[exV op n nm fd a len c, .int .i64 (j : Nat), dgV d]) ∧
    ((Dx.c ≠ 0 ∧ op = 0 ∧ n = 0 ∧ nm = noB ∧ fd = noB ∧ a = none ∧ len = 0 ∧ c = 0 ∧ j = k ∧ d = Dx) ∨
     (Dx.c = 0 ∧ AllAt (Mk P w') [.int .i64 op, .int .i64 n, .string nm, .string fd, .slice a len c] X.1 ∧ ShE X.1 ∧ j = X.2.k ∧ d = ⟨0, 0, 0, 0⟩ ∧ X.2.k ≤ N))
theorem answer_par {p g cap : Nat} {ts : List Tok} {k q l c' : Nat} {P : Nat → Prop} {X : XS} {Dx : Dg} {w : World} (h : RdAt p g cap ts X.2 w) {op n : Int} {nm fd : ByteArray} {a : Option Addr} {len c : Nat} (hx : AllAt (Mk P w) [.int .i64 op, .int .i64 n, .string nm, .string fd, .slice a len c] X.1) (hs : ShE X.1) (hn : X.2.f = 0 → nRow X.1 + 1 ≤ 800000) (hD : ansD q l c' X = Dx) :
    Calls Tryz.prog 81 #[xV p (k : Nat) (q : Nat) (l : Nat) (c' : Nat), exV op n nm fd a len c] w (AnsPost P X Dx ts.length k w) := by
  obtain ⟨x, s⟩ := X
  have A := answer_any (fr := k) (q := q) (l := l) (k := c') h (hx.sub (mk_sub _ _)) hs hn
  rw [hD] at A
  refine A.mono ?_
  clear A
  rintro e w' ⟨rfl, b⟩
  refine ⟨b, ?_⟩
  by_cases hc : Dx.c = 0
  · rw [if_pos hc]
    exact ⟨_, _, _, _, _, _, _, _, _, rfl, .inr ⟨hc, hx.sub (mk_step b.size fun k hk _ => b.block k hk), hs, rfl, rfl, h.kle⟩⟩
  · rw [if_neg hc]
    exact ⟨_, _, _, _, _, _, _, _, _, rfl, .inl ⟨hc, rfl, rfl, rfl, rfl, rfl, rfl, rfl, rfl, rfl⟩⟩
set_option maxRecDepth 100000 in
set_option maxHeartbeats 2000000 in
theorem parse_any {g cap : Nat} {ts : List Tok} {k : Nat} {w : World} (ht : ToksAt g ts w) (hok : TsOk ts) (hk : k ≤ ts.length) (hG : Gt w) :
    Calls Tryz.prog 45 #[.slice (some ⟨g, 0, none⟩) ts.length cap, .int .i64 (k : Nat), .func (.func 46) #[] #[]] w (ParPost ts k w) := by
  have Z1 := (Below.refl w.heap.size w).alloc (Nat.le_refl _) (.cells #[.int .i64 0, .int .i64 0, .string ⟨#[]⟩, .string ⟨#[]⟩, .slice none 0 0] 25)
  have Z2 := Z1.alloc Z1.size (.cells #[.int .i64 0, .int .i64 0, .int .i64 0, .int .i64 0] 30)
  have k1 := heap_new w (.cells #[.int .i64 0, .int .i64 0, .string ⟨#[]⟩, .string ⟨#[]⟩, .slice none 0 0] 25)
  have k2 := heap_new (w.alloc (.cells #[.int .i64 0, .int .i64 0, .string ⟨#[]⟩, .string ⟨#[]⟩, .slice none 0 0] 25)) (.cells #[.int .i64 0, .int .i64 0, .int .i64 0, .int .i64 0] 30)
  have e1 : (w.alloc (.cells #[.int .i64 0, .int .i64 0, .string ⟨#[]⟩, .string ⟨#[]⟩, .slice none 0 0] 25)).heap.size = w.heap.size + 1 := by simp
  have N2 := (Below.refl _ (w.alloc (.cells #[.int .i64 0, .int .i64 0, .string ⟨#[]⟩, .string ⟨#[]⟩, .slice none 0 0] 25))).alloc (Nat.le_refl _) (.cells #[.int .i64 0, .int .i64 0, .int .i64 0, .int .i64 0] 30)
  rw [e1] at k2 N2
  have K1 := Lib.hid ((N2.block _ (by omega)).trans k1)
  have K2 := Lib.hid k2
  have HZ := Lib.hid Z2
  have HN := Lib.hid (newReader_any (cap := cap) (ht.kept Z2.size (Z2.block _ ht.lt)) hok hk)
  have HG := Lib.hid hG
  have hgl := ht.lt
  have HE := Lib.hid (fun (p f y z q : Nat) (W : World) (R : RdAt p g cap ts ⟨k, 0, 0, 0, 0⟩ W) (G : Gl p W) => expr_any (f := f) (x := y) (y := z) (z := q) R G)
  have HD := Lib.hid (show ansD (cur ts ⟨k, 0, 0, 0, 0⟩).pos (cur ts ⟨k, 0, 0, 0, 0⟩).line (cur ts ⟨k, 0, 0, 0, 0⟩).col (parX ts k) = parD ts k from rfl)
  have HNX := Lib.hid (parX_n (k := k) hok)
  have HP := Lib.hid (show exprP ts (fac ts (ts.length + 1)) ⟨k, 0, 0, 0, 0⟩ = parX ts k from rfl)
  unfold ParPost
  rw [HP.out] at HE
  generalize parX ts k = X at HE HD HNX ⊢
  generalize parD ts k = Dx at HD ⊢
  generalize (cur ts ⟨k, 0, 0, 0, 0⟩).pos = t1 at HN HD
  generalize (cur ts ⟨k, 0, 0, 0, 0⟩).line = t2 at HN HD
  generalize (cur ts ⟨k, 0, 0, 0, 0⟩).col = t3 at HN HD
  clear Z1 Z2 k1 k2 e1 N2 ht hG hk HP
  go_enter Tryz.func45, Tryz.ntmps45
  go_wp2_with fail
  generalize (w.alloc (.cells #[.int .i64 0, .int .i64 0, .string ⟨#[]⟩, .string ⟨#[]⟩, .slice none 0 0] 25)).alloc (.cells #[.int .i64 0, .int .i64 0, .int .i64 0, .int .i64 0] 30) = W0 at K1 K2 HZ HN ⊢
  refine HN.out.mono ?_
  rintro e w1 ⟨p, hp, rfl, r1, b1⟩
  have R1 := Lib.hid (r1.below ((Below.refl _ _).alloc (Nat.le_refl _) (.cells (xC p (k : Nat) (t1 : Nat) (t2 : Nat) (t3 : Nat)) 92)))
  have B1 := Lib.hid (HZ.out.trans (b1.mono HZ.out.size))
  have n1 := (Below.refl w1.heap.size w1).alloc (Nat.le_refl _) (.cells (xC p (k : Nat) (t1 : Nat) (t2 : Nat) (t3 : Nat)) 92)
  have B2 := Lib.hid (B1.out.trans (n1.mono B1.out.size))
  have hz0 := HZ.out.size
  have hpl := r1.lt
  have K21 := Lib.hid ((n1.block _ (Nat.lt_of_lt_of_le (heap_lt K1.out) b1.size)).trans ((b1.block _ (heap_lt K1.out)).trans K1.out))
  have K22 := Lib.hid ((n1.block _ (Nat.lt_of_lt_of_le (heap_lt K2.out) b1.size)).trans ((b1.block _ (heap_lt K2.out)).trans K2.out))
  have K23 := Lib.hid (heap_new w1 (.cells (xC p (k : Nat) (t1 : Nat) (t2 : Nat) (t3 : Nat)) 92))
  have G2 := Lib.hid (HG.out.gl B2.out (p := p) (by omega) (by have := n1.size; omega))
  have l1 := heap_lt K1.out
  have l2 := heap_lt K2.out
  have hpp : w.heap.size + 1 < p := by omega
  have hb1 := b1.size
  clear r1 b1 n1 HN K1 K2 HZ B1
  go_wp2_with fail
  have hz12 : (w1.alloc (.cells (xC p (k : Nat) (t1 : Nat) (t2 : Nat) (t3 : Nat)) 92)).heap.size = w1.heap.size + 1 := by simp
  generalize w1.alloc (.cells (xC p (k : Nat) (t1 : Nat) (t2 : Nat) (t3 : Nat)) 92) = W2 at R1 B2 K21 K22 K23 G2 hz12 ⊢
  have HZ12 := Lib.hid hz12
  have RD := Lib.hid (R1.out.below (below_drew0 (Below.refl W2.heap.size W2)))
  have GD := Lib.hid (G2.out.onl (Onl.of (below_drew0 (Below.refl W2.heap.size W2)) (Nat.le_refl _)))
  have KB : ∀ W' : World, W'.heap[w1.heap.size]? = W2.heap[w1.heap.size]? → W'.cell? ⟨w1.heap.size, 0, none⟩ = some (.pointer (some ⟨p, 0, none⟩)) ∧ W'.cell? ⟨w1.heap.size, 1, none⟩ = some (.int .i64 (k : Nat)) ∧ W'.cell? ⟨w1.heap.size, 2, none⟩ = some (.int .i64 (t1 : Nat)) ∧ W'.cell? ⟨w1.heap.size, 3, none⟩ = some (.int .i64 (t2 : Nat)) ∧ W'.cell? ⟨w1.heap.size, 4, none⟩ = some (.int .i64 (t3 : Nat)) := fun W' e1 =>
    have b1 := box_cells (e1.trans K23.out)
    ⟨b1 0, b1 1, b1 2, b1 3, b1 4⟩
  have HK0 := Lib.hid (KB W2.drew rfl)
  have HKB := Lib.hid KB
  have l13 : w.heap.size + 1 < w1.heap.size := by omega
  have HPW := Lib.hid hpl
  have K25 : ∀ w5 : World, Onl p W2.drew w5 → w5.heap[w1.heap.size]? = W2.heap[w1.heap.size]? ∧ w5.heap[w.heap.size]? = some (.cells #[.int .i64 0, .int .i64 0, .string ⟨#[]⟩, .string ⟨#[]⟩, .slice none 0 0] 25) ∧ w5.heap[w.heap.size + 1]? = some (.cells #[.int .i64 0, .int .i64 0, .int .i64 0, .int .i64 0] 30) ∧ Below w.heap.size w w5 := fun w5 o =>
    ⟨o.block _ (by omega) (by show w1.heap.size < W2.heap.size; omega), (o.block _ (by omega) (by show w.heap.size < W2.heap.size; omega)).trans K21.out, (o.block _ (by omega) (by show w.heap.size + 1 < W2.heap.size; omega)).trans K22.out, (below_drew0 B2.out).trans (o.below (by omega) (by show w.heap.size ≤ W2.heap.size; omega))⟩
  have HK5 := Lib.hid K25
  clear KB K25 hz12 R1 G2 hpl
  go_region_held3 (fun W' => W'.cell? ⟨w1.heap.size, 0, none⟩ = some (.pointer (some ⟨p, 0, none⟩)) ∧ W'.cell? ⟨w1.heap.size, 1, none⟩ = some (.int .i64 (k : Nat)) ∧ W'.cell? ⟨w1.heap.size, 2, none⟩ = some (.int .i64 (t1 : Nat)) ∧ W'.cell? ⟨w1.heap.size, 3, none⟩ = some (.int .i64 (t2 : Nat)) ∧ W'.cell? ⟨w1.heap.size, 4, none⟩ = some (.int .i64 (t3 : Nat)))
    (first | with_reducible exact HK0.out | with_reducible exact HK1.out | with_reducible exact HK2.out | with_reducible exact HK3.out | with_reducible exact HK4.out | with_reducible assumption)
    (first
      | (go_at_call 46; refine (HE.out _ _ _ _ _ _ RD.out GD.out).mono ?_; rintro e5 w5 ⟨op5, k5, nm5, fd5, a5, len5, c5, rfl, x5, d5⟩; have E5 := Lib.hid (HK5.out w5 d5.onl); have HK1 := Lib.hid (HKB.out w5 E5.out.1); have X5 := Lib.hid x5; have R5 := Lib.hid d5.rd; have z5 := d5.onl.size; clear x5 d5)
      | (go_at_call 81; refine (answer_par R5.out X5.out.1 X5.out.2 HNX.out HD.out).mono ?_; rintro e8 w8 ⟨b8, op8, n8, nm8, fd8, a8, len8, c8, j8, ⟨dc, dp, dl, dk⟩, rfl, h8⟩; unfold dgV; have Z8 := Lib.hid z5; have H8 := Lib.hid h8; have l53 := heap_lt E5.out.2.2.1; have l52 := heap_lt E5.out.2.1; have K83 := Lib.hid ((b8.block _ (by { have := E5.out.1; have l := heap_lt K23.out; have l2 : W2.heap.size ≤ w5.heap.size := z5; omega })).trans E5.out.1); have K81 := Lib.hid ((b8.block _ l52).trans E5.out.2.1); have K82 := Lib.hid ((b8.block _ l53).trans E5.out.2.2.1); have B8 := Lib.hid (E5.out.2.2.2.trans (b8.mono E5.out.2.2.2.size)); have HK2 := Lib.hid (HKB.out w8 K83.out); have g1 := box_cells K81.out; have g2 := box_cells K82.out; have f1 : ∀ o, w8.frozen? ⟨w.heap.size, o, none⟩ = false := fun o => by { simp [World.frozen?, K81.out] }; have f2 : ∀ o, w8.frozen? ⟨w.heap.size + 1, o, none⟩ = false := fun o => by { simp [World.frozen?, K82.out] }; have l81 := heap_lt K81.out; have l82 := heap_lt K82.out; have HK3 := Lib.hid (HKB.out (((((w8.setCell ⟨w.heap.size, 0, none⟩ (.int .i64 op8)).setCell ⟨w.heap.size, 1, none⟩ (.int .i64 n8)).setCell ⟨w.heap.size, 2, none⟩ (.string nm8)).setCell ⟨w.heap.size, 3, none⟩ (.string fd8)).setCell ⟨w.heap.size, 4, none⟩ (.slice a8 len8 c8)) ((heap_set5 _ _ _ (by omega) _ _ _ _ _).trans K83.out)); have HK4 := Lib.hid (HKB.out (((((((((w8.setCell ⟨w.heap.size, 0, none⟩ (.int .i64 op8)).setCell ⟨w.heap.size, 1, none⟩ (.int .i64 n8)).setCell ⟨w.heap.size, 2, none⟩ (.string nm8)).setCell ⟨w.heap.size, 3, none⟩ (.string fd8)).setCell ⟨w.heap.size, 4, none⟩ (.slice a8 len8 c8)).setCell ⟨w.heap.size + 1, 0, none⟩ (.int .i64 (dc : Nat))).setCell ⟨w.heap.size + 1, 1, none⟩ (.int .i64 (dp : Nat))).setCell ⟨w.heap.size + 1, 2, none⟩ (.int .i64 (dl : Nat))).setCell ⟨w.heap.size + 1, 3, none⟩ (.int .i64 (dk : Nat))) ((heap_set4 _ _ _ (by omega) _ _ _ _).trans ((heap_set5 _ _ _ (by omega) _ _ _ _ _).trans K83.out))); clear b8 h8 z5 l52 l53))
  all_goals
    go_wp2_with fail
    have g1 := box_cells K81.out
    have g2 := box_cells K82.out
    have hW2 : W2.drew.heap.size = w1.heap.size + 1 := HZ12.out
    refine bodyPost_ret (v := .tuple #[exV op8 n8 nm8 fd8 a8 len8 c8, .int .i64 (j8 : Nat), dgV ⟨dc, dp, dl, dk⟩]) (by simp [results, Tryz.results45, go_sem, g1, g2, dgV]) rfl ⟨?_, ?_⟩
    · repeat (refine Below.setCell ?_ (by dsimp only; omega) _)
      exact B8.out
    · rcases H8.out with ⟨h1, rfl, rfl, rfl, rfl, rfl, rfl, rfl, rfl, rfl⟩ | ⟨h1, h2, h3, rfl, h5, h6⟩
      · exact .inl ⟨h1, rfl⟩
      · refine .inr ⟨h1, op8, n8, nm8, fd8, a8, len8, c8, by rw [h5], ?_, h3, h6⟩
        refine AllAt.sub ?_ (mk_weak _ (P := Bd p W2.drew.heap.size) (fun j (hj : j < w.heap.size) => .inr (by omega)))
        have hb0 : Bd p W2.drew.heap.size w.heap.size := .inr (by omega)
        have hb1 : Bd p W2.drew.heap.size (w.heap.size + 1) := .inr (by omega)
        exact (((((((((h2.sub (mk_set hb0 _ _)).sub (mk_set hb0 _ _)).sub (mk_set hb0 _ _)).sub (mk_set hb0 _ _)).sub (mk_set hb0 _ _)).sub (mk_set hb1 _ _)).sub (mk_set hb1 _ _)).sub (mk_set hb1 _ _)).sub (mk_set hb1 _ _))
end Go.Proofs.YtpcldpnaljheoaaGreatDoor
end
