/-
  The document's reader of expressions, walked: what binds most: 'not'.
-/
import Derived.Test.YtpcldpnaljheoaaGreatDoorRg8
namespace Go.Proofs.YtpcldpnaljheoaaGreatDoor
open Go.RowKit Go.Deep Go.Sort

theorem sub_set {P : Nat → Prop} {b o : Nat} {W0 W : World} (h : Sub (Mk P W0) (Mk P W)) (hp : P b) (v : Value) : Sub (Mk P W0) (Mk P (W.setCell ⟨b, o, none⟩ v)) := h.trans (mk_set hp W v)
abbrev facA (g cap : Nat) (ts : List Tok) (k : Nat) : Array Value := #[.int .i64 0, tkV g cap ts, .int .i64 (k : Nat)]
abbrev lvA (g cap : Nat) (ts : List Tok) (lv k : Nat) : Array Value := #[.int .i64 0, .int .i64 (lv : Nat), tkV g cap ts, .int .i64 (k : Nat)]
/-- The boxes of a call: its result, the token. -/
structure FxI (g : Nat) (ts : List Tok) (z : Nat) (t : Tok) (w W : World) : Prop where
  bel : Below w.heap.size w W
  tk : TkW g ts W
  k0 : W.heap[w.heap.size]? = some (.cells #[.int .i64 0, .int .i64 0, .string ⟨#[]⟩, .string ⟨#[]⟩, .slice none 0 0, .int .i64 0, .int .i64 0, .int .i64 0, .int .i64 0, .int .i64 0] 56)
  kt : W.heap[z]? = some (.cells #[.int .i64 (t.kind : Nat), .string t.text, .int .i64 (t.n : Nat), .bool t.same, .int .i64 (t.pos : Nat), .int .i64 (t.line : Nat), .int .i64 (t.col : Nat)] 50)
  gt : w.heap.size < z
theorem FxI.next {g : Nat} {ts : List Tok} {z : Nat} {t : Tok} {w W W' : World} (h : FxI g ts z t w W) (b : Below W.heap.size W W') : FxI g ts z t w W' :=
  ⟨h.bel.trans (b.mono h.bel.size), h.tk.below b, (b.block _ (heap_lt h.k0)).trans h.k0, (b.block _ (heap_lt h.kt)).trans h.kt, h.gt⟩
abbrev s10 (W : World) (z : Nat) (v0 v1 v2 v3 v4 v5 v6 v7 v8 v9 : Value) : World :=
  (((((((((W.setCell ⟨z, 0, none⟩ v0).setCell ⟨z, 1, none⟩ v1).setCell ⟨z, 2, none⟩ v2).setCell ⟨z, 3, none⟩ v3).setCell ⟨z, 4, none⟩ v4).setCell ⟨z, 5, none⟩ v5).setCell ⟨z, 6, none⟩ v6).setCell ⟨z, 7, none⟩ v7).setCell ⟨z, 8, none⟩ v8).setCell ⟨z, 9, none⟩ v9
theorem s10_size (W : World) (z : Nat) (v0 v1 v2 v3 v4 v5 v6 v7 v8 v9 : Value) : (s10 W z v0 v1 v2 v3 v4 v5 v6 v7 v8 v9).heap.size = W.heap.size := by simp [World.setCell]
theorem s10_heap {W : World} {z : Nat} {u0 u1 u2 u3 u4 u5 u6 u7 u8 u9 : Value} {T : TypeId} {f : Nat × Nat} (h : W.heap[z]? = some (.cells #[u0, u1, u2, u3, u4, u5, u6, u7, u8, u9] T f)) (v0 v1 v2 v3 v4 v5 v6 v7 v8 v9 : Value) :
    (s10 W z v0 v1 v2 v3 v4 v5 v6 v7 v8 v9).heap[z]? = some (.cells #[v0, v1, v2, v3, v4, v5, v6, v7, v8, v9] T f) := by
  have h0 : (W.setCell ⟨z, 0, none⟩ v0).heap[z]? = some (.cells #[v0, u1, u2, u3, u4, u5, u6, u7, u8, u9] T f) := heap_setC h v0
  have h1 : ((W.setCell ⟨z, 0, none⟩ v0).setCell ⟨z, 1, none⟩ v1).heap[z]? = some (.cells #[v0, v1, u2, u3, u4, u5, u6, u7, u8, u9] T f) := heap_setC h0 v1
  have h2 : (((W.setCell ⟨z, 0, none⟩ v0).setCell ⟨z, 1, none⟩ v1).setCell ⟨z, 2, none⟩ v2).heap[z]? = some (.cells #[v0, v1, v2, u3, u4, u5, u6, u7, u8, u9] T f) := heap_setC h1 v2
  have h3 : ((((W.setCell ⟨z, 0, none⟩ v0).setCell ⟨z, 1, none⟩ v1).setCell ⟨z, 2, none⟩ v2).setCell ⟨z, 3, none⟩ v3).heap[z]? = some (.cells #[v0, v1, v2, v3, u4, u5, u6, u7, u8, u9] T f) := heap_setC h2 v3
  have h4 : (((((W.setCell ⟨z, 0, none⟩ v0).setCell ⟨z, 1, none⟩ v1).setCell ⟨z, 2, none⟩ v2).setCell ⟨z, 3, none⟩ v3).setCell ⟨z, 4, none⟩ v4).heap[z]? = some (.cells #[v0, v1, v2, v3, v4, u5, u6, u7, u8, u9] T f) := heap_setC h3 v4
  have h5 : ((((((W.setCell ⟨z, 0, none⟩ v0).setCell ⟨z, 1, none⟩ v1).setCell ⟨z, 2, none⟩ v2).setCell ⟨z, 3, none⟩ v3).setCell ⟨z, 4, none⟩ v4).setCell ⟨z, 5, none⟩ v5).heap[z]? = some (.cells #[v0, v1, v2, v3, v4, v5, u6, u7, u8, u9] T f) := heap_setC h4 v5
  have h6 : (((((((W.setCell ⟨z, 0, none⟩ v0).setCell ⟨z, 1, none⟩ v1).setCell ⟨z, 2, none⟩ v2).setCell ⟨z, 3, none⟩ v3).setCell ⟨z, 4, none⟩ v4).setCell ⟨z, 5, none⟩ v5).setCell ⟨z, 6, none⟩ v6).heap[z]? = some (.cells #[v0, v1, v2, v3, v4, v5, v6, u7, u8, u9] T f) := heap_setC h5 v6
  have h7 : ((((((((W.setCell ⟨z, 0, none⟩ v0).setCell ⟨z, 1, none⟩ v1).setCell ⟨z, 2, none⟩ v2).setCell ⟨z, 3, none⟩ v3).setCell ⟨z, 4, none⟩ v4).setCell ⟨z, 5, none⟩ v5).setCell ⟨z, 6, none⟩ v6).setCell ⟨z, 7, none⟩ v7).heap[z]? = some (.cells #[v0, v1, v2, v3, v4, v5, v6, v7, u8, u9] T f) := heap_setC h6 v7
  have h8 : (((((((((W.setCell ⟨z, 0, none⟩ v0).setCell ⟨z, 1, none⟩ v1).setCell ⟨z, 2, none⟩ v2).setCell ⟨z, 3, none⟩ v3).setCell ⟨z, 4, none⟩ v4).setCell ⟨z, 5, none⟩ v5).setCell ⟨z, 6, none⟩ v6).setCell ⟨z, 7, none⟩ v7).setCell ⟨z, 8, none⟩ v8).heap[z]? = some (.cells #[v0, v1, v2, v3, v4, v5, v6, v7, v8, u9] T f) := heap_setC h7 v8
  have h9 : ((((((((((W.setCell ⟨z, 0, none⟩ v0).setCell ⟨z, 1, none⟩ v1).setCell ⟨z, 2, none⟩ v2).setCell ⟨z, 3, none⟩ v3).setCell ⟨z, 4, none⟩ v4).setCell ⟨z, 5, none⟩ v5).setCell ⟨z, 6, none⟩ v6).setCell ⟨z, 7, none⟩ v7).setCell ⟨z, 8, none⟩ v8).setCell ⟨z, 9, none⟩ v9).heap[z]? = some (.cells #[v0, v1, v2, v3, v4, v5, v6, v7, v8, v9] T f) := heap_setC h8 v9
  exact h9
theorem s10_below {w W : World} {z : Nat} (h : Below z w W) (v0 v1 v2 v3 v4 v5 v6 v7 v8 v9 : Value) : Below z w (s10 W z v0 v1 v2 v3 v4 v5 v6 v7 v8 v9) :=
  (((((((((h.setCell (Nat.le_refl _) v0).setCell (Nat.le_refl _) v1).setCell (Nat.le_refl _) v2).setCell (Nat.le_refl _) v3).setCell (Nat.le_refl _) v4).setCell (Nat.le_refl _) v5).setCell (Nat.le_refl _) v6).setCell (Nat.le_refl _) v7).setCell (Nat.le_refl _) v8).setCell (Nat.le_refl _) v9
theorem s10_sub {P : Nat → Prop} {W : World} {z : Nat} (hz : P z) (v0 v1 v2 v3 v4 v5 v6 v7 v8 v9 : Value) : Sub (Mk P W) (Mk P (s10 W z v0 v1 v2 v3 v4 v5 v6 v7 v8 v9)) :=
  sub_set (sub_set (sub_set (sub_set (sub_set (sub_set (sub_set (sub_set (sub_set (mk_set hz W v0) hz v1) hz v2) hz v3) hz v4) hz v5) hz v6) hz v7) hz v8) hz v9
/-- A result stored, and two new blocks. -/
theorem fin2 {w W : World} {P : Nat → Prop} {z : Nat} (hz : P z) (hB : Below z w W) {u0 u1 u2 u3 u4 u5 u6 u7 u8 u9 : Value} {T : TypeId} {f : Nat × Nat} (h : W.heap[z]? = some (.cells #[u0, u1, u2, u3, u4, u5, u6, u7, u8, u9] T f)) (v0 v1 v2 v3 v4 v5 v6 v7 v8 v9 : Value) (o1 o2 : Obj) :
    (((s10 W z v0 v1 v2 v3 v4 v5 v6 v7 v8 v9).alloc o1).alloc o2).heap[z]? = some (.cells #[v0, v1, v2, v3, v4, v5, v6, v7, v8, v9] T f) ∧
    Sub (Mk P W) (Mk P (((s10 W z v0 v1 v2 v3 v4 v5 v6 v7 v8 v9).alloc o1).alloc o2)) ∧
    (((s10 W z v0 v1 v2 v3 v4 v5 v6 v7 v8 v9).alloc o1).alloc o2).heap[W.heap.size + 1]? = some o2 ∧
    Below z w (((s10 W z v0 v1 v2 v3 v4 v5 v6 v7 v8 v9).alloc o1).alloc o2) := by
  have hl := heap_lt h
  have hs := s10_size W z v0 v1 v2 v3 v4 v5 v6 v7 v8 v9
  have H := s10_heap h v0 v1 v2 v3 v4 v5 v6 v7 v8 v9
  have B := s10_below hB v0 v1 v2 v3 v4 v5 v6 v7 v8 v9
  have S := s10_sub (W := W) hz v0 v1 v2 v3 v4 v5 v6 v7 v8 v9
  generalize s10 W z v0 v1 v2 v3 v4 v5 v6 v7 v8 v9 = V at hs H B S ⊢
  have A := ((Below.refl V.heap.size V).alloc (Nat.le_refl _) o1).alloc (by simp) o2
  refine ⟨(A.block _ (by omega)).trans H, S.trans (mk_step A.size fun k hk _ => A.block k hk), ?_, B.trans (A.mono (by omega))⟩
  have := heap_new (V.alloc o1) o2
  rw [show (V.alloc o1).heap.size = V.heap.size + 1 by simp, hs] at this
  exact this
theorem fin1 {w W : World} {P : Nat → Prop} {z : Nat} (hz : P z) (hB : Below z w W) {u0 u1 u2 u3 u4 u5 u6 u7 u8 u9 : Value} {T : TypeId} {f : Nat × Nat} (h : W.heap[z]? = some (.cells #[u0, u1, u2, u3, u4, u5, u6, u7, u8, u9] T f)) (v0 v1 v2 v3 v4 v5 v6 v7 v8 v9 : Value) (o1 : Obj) :
    ((s10 W z v0 v1 v2 v3 v4 v5 v6 v7 v8 v9).alloc o1).heap[z]? = some (.cells #[v0, v1, v2, v3, v4, v5, v6, v7, v8, v9] T f) ∧
    Sub (Mk P W) (Mk P ((s10 W z v0 v1 v2 v3 v4 v5 v6 v7 v8 v9).alloc o1)) ∧
    Below z w ((s10 W z v0 v1 v2 v3 v4 v5 v6 v7 v8 v9).alloc o1) := by
  have hl := heap_lt h
  have hs := s10_size W z v0 v1 v2 v3 v4 v5 v6 v7 v8 v9
  have H := s10_heap h v0 v1 v2 v3 v4 v5 v6 v7 v8 v9
  have B := s10_below hB v0 v1 v2 v3 v4 v5 v6 v7 v8 v9
  have S := s10_sub (W := W) hz v0 v1 v2 v3 v4 v5 v6 v7 v8 v9
  generalize s10 W z v0 v1 v2 v3 v4 v5 v6 v7 v8 v9 = V at hs H B S ⊢
  have A := (Below.refl V.heap.size V).alloc (Nat.le_refl _) o1
  exact ⟨(A.block _ (by omega)).trans H, S.trans (mk_step A.size fun k hk _ => A.block k hk), B.trans (A.mono (by omega))⟩
theorem not_text {t : Tok} (h : isW t [notB] = true) : t.text = notB := by
  rw [isW_kB, Bool.and_eq_true, isIn_iff] at h
  exact List.mem_singleton.1 h.2
set_option maxRecDepth 100000 in
set_option maxHeartbeats 2000000 in
theorem rfac_not {g cap : Nat} {ts : List Tok} {G : RS → XS} {n : Nat} (hG : OkV g ts 86 (facA g cap ts) G n) {s : RS} {w : World} (hf : s.f = 0) (h : TkW g ts w) (hn : leftS ts s < n + 1) (hi : isT ts s [notB] = true) :
    Calls Tryz.prog 86 (facA g cap ts s.k) w (GPost w.heap.size (mkE 9 0 noB noB [(G (stepS s)).1], (G (stepS s)).2) w) := by
  have hlt := left_stepT hi
  have hkl := (isT_k hi).2.1
  have hlen := h.ok.len
  have hnt : isW (tkAt ts s.k) [notB] = true := by unfold isT at hi; rw [cur_tk hf] at hi; exact hi
  have htx := not_text hnt
  have Z := (Below.refl w.heap.size w).alloc (Nat.le_refl _) got0
  have T0 := Lib.hid (h.below Z)
  have HT := Lib.hid (rtok_any (cap := cap) s.k (h.below Z))
  have K0 := Lib.hid (heap_new w got0)
  have ZB := Lib.hid Z
  have HIS := Lib.hid (fun (W : World) (hW : TkW g ts W) => ris_any (cap := cap) s.k notB hW)
  have HC := Lib.hid (fun (W : World) (hW : TkW g ts W) => hG (stepS s) W hf hkl hW (by omega))
  have hw1 : IntKind.i64.wrap ((s.k : Int) + 1) = (((stepS s).k : Nat) : Int) := by rw [IntWalk.i64_in _ (by omega)]; exact (Int.natCast_add s.k 1).symm
  rw [hnt] at HIS
  generalize tkAt ts s.k = t at HT HIS htx
  have hb45 : (t.text.toList == [45]) = false := by
    rw [htx, show notB.toList = [110, 111, 116] from by rw [ByteArray.toList_eq]; rfl]
    rfl
  generalize G (stepS s) = R at HC ⊢
  generalize (stepS s).k = k1 at hw1 HC
  clear h Z hi hnt htx hG hn hlt hkl
  go_enter Tryz.func86, Tryz.ntmps86
  go_wp2_with fail
  generalize w.alloc _ = W at HT K0 ZB T0 ⊢
  refine HT.out.mono ?_
  rintro e w1 ⟨rfl, b1⟩
  have b1a := b1.alloc b1.size (.cells #[.int .i64 (t.kind : Nat), .string t.text, .int .i64 (t.n : Nat), .bool t.same, .int .i64 (t.pos : Nat), .int .i64 (t.line : Nat), .int .i64 (t.col : Nat)] 50)
  have I1 := Lib.hid (show FxI g ts w1.heap.size t w _ from ⟨ZB.out.trans (b1a.mono ZB.out.size), T0.out.below b1a, (b1a.block _ (heap_lt K0.out)).trans K0.out, heap_new w1 _, Nat.lt_of_lt_of_le (heap_lt K0.out) b1.size⟩)
  generalize hzt : w1.heap.size = zt at I1
  clear HT b1 b1a K0 ZB T0
  unfold tokV tokCells
  go_wp2_with fail
  generalize w1.alloc _ = W1 at I1 ⊢
  refine (HIS.out _ I1.out.tk).mono ?_
  rintro e w2 ⟨rfl, b2⟩
  have I2 := Lib.hid (I1.out.next b2)
  clear I1 b2
  go_wp2_with fail
  refine (HC.out _ I2.out.tk).mono ?_
  rintro e w3 ⟨b3, ⟨hRf, op, nn, nm, fd, a, len, c, rfl, hx⟩ | ⟨hRf, rfl⟩⟩
  · have I3 := Lib.hid (I2.out.next b3)
    have X3 := Lib.hid hx
    have z0 := heap_lt I2.out.k0
    have z3 := b3.size
    have kt := box_cells I3.out.kt
    have lzt := heap_lt I3.out.kt
    have lz0 := heap_lt I3.out.k0
    have k0 := box_cells I3.out.k0
    have f0 : ∀ o, w3.frozen? ⟨w.heap.size, o, none⟩ = false := fun o => by simp [World.frozen?, I3.out.k0]
    clear hx b3
    unfold gotV
    go_wp2_with fail
    obtain ⟨hA, hS, hR, hBl⟩ := fin2 (P := fun k => k < w2.heap.size) z0 I3.out.bel I3.out.k0 (.int .i64 9) (.int .i64 0) (.string ⟨#[]⟩) (.string ⟨#[]⟩) (.slice (some ⟨w3.heap.size + 1, 0, none⟩) 1 1) (.int .i64 (R.2.k : Nat)) (.int .i64 0) (.int .i64 0) (.int .i64 0) (.int .i64 0) (.cells #[.int .i64 9, .int .i64 0, .string ⟨#[]⟩, .string ⟨#[]⟩, .slice (some ⟨w3.heap.size + 1, 0, none⟩) 1 1, .int .i64 (R.2.k : Nat), .int .i64 0, .int .i64 0, .int .i64 0, .int .i64 0] 56) (.cells #[.int .i64 op, .int .i64 nn, .string nm, .string fd, .slice a len c] 25)
    have hrw := row1_at (P := fun k => k < w2.heap.size) hR (by omega) (X3.out.sub hS).1
    exact bodyPost_ret (v := gotV 9 0 ⟨#[]⟩ ⟨#[]⟩ (some ⟨w3.heap.size + 1, 0, none⟩) 1 1 R.2.k ⟨0, 0, 0, 0⟩) (results_cell (i := 6) (b := w.heap.size) Tryz.results86 Tryz.isAgg56 Tryz.sizeOf56 rfl rfl hA) rfl ⟨hBl, .inl ⟨hRf, _, _, _, _, _, _, _, rfl, ((ExAt.over (op := 9) (n := 0) (nm := noB) (fd := noB) hrw (by
      intro z hz
      obtain rfl := List.mem_singleton.1 hz
      exact X3.out.2) (by omega) (by omega) (by omega) (by omega) (by decide) (by decide)).sub (mk_weak _ (fun k hk => Nat.lt_trans hk z0)))⟩⟩
  · have I3 := Lib.hid (I2.out.next b3)
    have z0 := heap_lt I2.out.k0
    have kt := box_cells I3.out.kt
    have lzt := heap_lt I3.out.kt
    have lz0 := heap_lt I3.out.k0
    have k0 := box_cells I3.out.k0
    have f0 : ∀ o, w3.frozen? ⟨w.heap.size, o, none⟩ = false := fun o => by simp [World.frozen?, I3.out.k0]
    have hd : ((R.2.f : Int) == 0) = false := by simp [hRf]
    clear b3
    unfold gotN gotV faultD
    go_wp2_with fail
    obtain ⟨hA, _, hBl⟩ := fin1 (P := fun _ => True) trivial I3.out.bel I3.out.k0 (.int .i64 0) (.int .i64 0) (.string ⟨#[]⟩) (.string ⟨#[]⟩) (.slice none 0 0) (.int .i64 0) (.int .i64 (R.2.f : Nat)) (.int .i64 (R.2.fp : Nat)) (.int .i64 (R.2.fl : Nat)) (.int .i64 (R.2.fc : Nat)) (.cells #[.int .i64 0, .int .i64 0, .string ⟨#[]⟩, .string ⟨#[]⟩, .slice none 0 0, .int .i64 0, .int .i64 (R.2.f : Nat), .int .i64 (R.2.fp : Nat), .int .i64 (R.2.fl : Nat), .int .i64 (R.2.fc : Nat)] 56)
    exact bodyPost_ret (v := gotN (faultD R.2)) (results_cell (i := 6) (b := w.heap.size) Tryz.results86 Tryz.isAgg56 Tryz.sizeOf56 rfl rfl hA) rfl ⟨hBl, .inr ⟨hRf, rfl⟩⟩
end Go.Proofs.YtpcldpnaljheoaaGreatDoor
