/-
  The document's reader of expressions, walked: what begins with a name: an element.
-/
import Derived.Test.YtpcldpnaljheoaaGreatDoorRm8
namespace Go.Proofs.YtpcldpnaljheoaaGreatDoor
open Go.RowKit Go.Deep Go.Sort

/-- A result stored, and one new block. -/
theorem fin1r {w W : World} {P : Nat → Prop} {z : Nat} (hz : P z) (hB : Below z w W) {u0 u1 u2 u3 u4 u5 u6 u7 u8 u9 : Value} {T : TypeId} {f : Nat × Nat} (h : W.heap[z]? = some (.cells #[u0, u1, u2, u3, u4, u5, u6, u7, u8, u9] T f)) (v0 v1 v2 v3 v4 v5 v6 v7 v8 v9 : Value) (o1 : Obj) :
    ((s10 W z v0 v1 v2 v3 v4 v5 v6 v7 v8 v9).alloc o1).heap[z]? = some (.cells #[v0, v1, v2, v3, v4, v5, v6, v7, v8, v9] T f) ∧
    Sub (Mk P W) (Mk P ((s10 W z v0 v1 v2 v3 v4 v5 v6 v7 v8 v9).alloc o1)) ∧
    ((s10 W z v0 v1 v2 v3 v4 v5 v6 v7 v8 v9).alloc o1).heap[W.heap.size]? = some o1 ∧
    Below z w ((s10 W z v0 v1 v2 v3 v4 v5 v6 v7 v8 v9).alloc o1) := by
  obtain ⟨h1, h2, h3⟩ := fin1 hz hB h v0 v1 v2 v3 v4 v5 v6 v7 v8 v9 o1
  have := heap_new (s10 W z v0 v1 v2 v3 v4 v5 v6 v7 v8 v9) o1
  rw [s10_size] at this
  exact ⟨h1, h2, this, h3⟩
set_option maxRecDepth 100000 in
set_option maxHeartbeats 4000000 in
theorem rnm_index {g cap : Nat} {ts : List Tok} {E : RS → XS} {n : Nat} (hE : OkV g ts 48 (lvA g cap ts 1) E n) (hEk : ∀ s, s.f = 0 → leftS ts s < n → (E s).2.f = 0 → (E s).2.k ≤ ts.length) {s : RS} {w : World} (hf : s.f = 0) (h : TkW g ts w) (hn : leftS ts s < n + 1) (hk : (cur ts s).kind = 1) (h40 : isT ts (stepS s) [⟨#[40]⟩] = false) (h91 : isT ts (stepS s) [⟨#[91]⟩] = true) :
    Calls Tryz.prog 137 (facA g cap ts s.k) w (GPost w.heap.size (mkE 5 0 (cur ts s).text noB [(E (stepS (stepS s))).1], needT ts (E (stepS (stepS s))).2 [⟨#[93]⟩]) w) := by
  have hlen := h.ok.len
  have Z := (Below.refl w.heap.size w).alloc (Nat.le_refl _) got0
  have T0 := Lib.hid (h.below Z)
  have HT := Lib.hid (rtok_any (cap := cap) s.k (h.below Z))
  have K0 := Lib.hid (heap_new w got0)
  have ZB := Lib.hid Z
  have hsl := (cur_k (ts := ts) (s := s) (by omega)).2.1
  have hlt := left_step (cur_k (ts := ts) (s := s) (by omega))
  have hlt2 := left_stepT h91
  have hkl := (isT_k h91).2.1
  have htx := h.ok.txt _ (List.mem_of_getElem? (cur_k (ts := ts) (s := s) (by omega)).2.2)
  have e40 : isW (tkAt ts (stepS s).k) [⟨#[40]⟩] = false := by unfold isT at h40; rw [cur_tk (s := stepS s) hf] at h40; exact h40
  have e91 : isW (tkAt ts (stepS s).k) [⟨#[91]⟩] = true := by unfold isT at h91; rw [cur_tk (s := stepS s) hf] at h91; exact h91
  have H40 := Lib.hid (fun (W : World) (hW : TkW g ts W) => ris_any (cap := cap) (stepS s).k ⟨#[40]⟩ hW)
  have H91 := Lib.hid (fun (W : World) (hW : TkW g ts W) => ris_any (cap := cap) (stepS s).k ⟨#[91]⟩ hW)
  rw [e40] at H40
  rw [e91] at H91
  have HC := Lib.hid (fun (W : World) (hW : TkW g ts W) => hE (stepS (stepS s)) W hf hkl hW (by omega))
  have hRk := Lib.hid (hEk (stepS (stepS s)) hf (by omega))
  have hk1' : (stepS s).k = s.k + 1 := rfl
  have hk2' : (stepS (stepS s)).k = s.k + 2 := rfl
  have hw1 : IntKind.i64.wrap ((s.k : Int) + 1) = (((stepS s).k : Nat) : Int) := by rw [IntWalk.i64_in _ (by omega), hk1']; omega
  have hw2 : IntKind.i64.wrap ((s.k : Int) + 2) = (((stepS (stepS s)).k : Nat) : Int) := by rw [IntWalk.i64_in _ (by omega), hk2']; omega
  rw [← cur_tk (ts := ts) hf] at HT
  have hk1 : ((cur ts s).kind : Int) = 1 := by omega
  generalize cur ts s = t at HT hk1 htx ⊢
  generalize E (stepS (stepS s)) = R at HC hRk ⊢
  generalize (stepS (stepS s)).k = k2 at HC hw2
  generalize (stepS s).k = k1 at H40 H91 hw1
  clear h Z hk h40 h91 e40 e91 hf hE hEk hn hlt hlt2 hkl hk1' hk2'
  go_enter Tryz.func137, Tryz.ntmps137
  go_wp2_with fail
  generalize w.alloc _ = W at HT K0 ZB T0 ⊢
  refine HT.out.mono ?_
  rintro e w1 ⟨rfl, b1⟩
  have b1a := b1.alloc b1.size (.cells #[.int .i64 (t.kind : Nat), .string t.text, .int .i64 (t.n : Nat), .bool t.same, .int .i64 (t.pos : Nat), .int .i64 (t.line : Nat), .int .i64 (t.col : Nat)] 50)
  have I1 := Lib.hid (show FxI g ts w1.heap.size t w _ from ⟨ZB.out.trans (b1a.mono ZB.out.size), T0.out.below b1a, (b1a.block _ (heap_lt K0.out)).trans K0.out, heap_new w1 _, Nat.lt_of_lt_of_le (heap_lt K0.out) b1.size⟩)
  generalize hzt : w1.heap.size = zt at I1
  clear HT b1 b1a K0 ZB T0
  unfold tokV tokCells
  rw [hk1] at I1 ⊢
  clear hk1
  go_wp2_with fail
  generalize w1.alloc _ = W1 at I1 ⊢
  refine (H40.out _ I1.out.tk).mono ?_
  rintro e w2 ⟨rfl, b2⟩
  have I2 := Lib.hid (I1.out.next b2)
  clear I1 b2
  go_wp2_with fail
  refine (H91.out _ I2.out.tk).mono ?_
  rintro e w3 ⟨rfl, b3⟩
  have I3 := Lib.hid (I2.out.next b3)
  clear I2 b3
  go_wp2_with fail
  refine (HC.out _ I3.out.tk).mono ?_
  rintro e w4 ⟨b4, ⟨hRf, op, nn, nm, fd, a, len, c, rfl, hx⟩ | ⟨hRf, rfl⟩⟩
  · have hk2 := hRk.out hRf
    have I4 := Lib.hid (I3.out.next b4)
    have z0 := heap_lt I3.out.k0
    have z4 := b4.size
    have lz0 := heap_lt I4.out.k0
    have XB := (Below.refl w4.heap.size w4).alloc (Nat.le_refl _) (.cells #[.int .i64 op, .int .i64 nn, .string nm, .string fd, .slice a len c, .int .i64 (R.2.k : Nat), .int .i64 0, .int .i64 0, .int .i64 0, .int .i64 0] 56)
    have I5 := Lib.hid (I4.out.next XB)
    have X5 := Lib.hid (hx.sub (mk_step (P := fun k => k < w3.heap.size) XB.size fun k hk _ => XB.block k hk))
    have K5 := Lib.hid (heap_new w4 (.cells #[.int .i64 op, .int .i64 nn, .string nm, .string fd, .slice a len c, .int .i64 (R.2.k : Nat), .int .i64 0, .int .i64 0, .int .i64 0, .int .i64 0] 56))
    have HK := Lib.hid (fun (W : World) (hW : TkW g ts W) => ris_any (cap := cap) R.2.k ⟨#[93]⟩ hW)
    have HWR := Lib.hid (fun (W : World) (hW : TkW g ts W) => rwrong_any (cap := cap) R.2.k hW)
    have hwk : IntKind.i64.wrap ((R.2.k : Int) + 1) = (((stepS R.2).k : Nat) : Int) := by rw [IntWalk.i64_in _ (by omega)]; exact (Int.natCast_add R.2.k 1).symm
    clear hx b4 XB I4 hRk
    generalize hzg : w4.heap.size = zg at *
    cases hp : isT ts R.2 [⟨#[93]⟩] with
    | true =>
      have hpw : isW (tkAt ts R.2.k) [⟨#[93]⟩] = true := by unfold isT at hp; rw [cur_tk hRf] at hp; exact hp
      rw [hpw] at HK
      have hres : needT ts R.2 [⟨#[93]⟩] = stepS R.2 := by unfold needT; rw [if_pos hp]
      have HRES := Lib.hid hres
      clear hpw hp hres
      unfold gotV
      go_wp2_with fail
      generalize w4.alloc _ = W5 at I5 X5 K5 ⊢
      refine (HK.out _ I5.out.tk).mono ?_
      rintro e w6 ⟨rfl, b6⟩
      have I6 := Lib.hid (I5.out.next b6)
      have K6 := Lib.hid ((b6.block _ (heap_lt K5.out)).trans K5.out)
      have X6 := Lib.hid (X5.out.sub (mk_step (P := fun k => k < w3.heap.size) b6.size fun k hk _ => b6.block k hk))
      have g0 := box_cells K6.out
      have k0 := box_cells I6.out.k0
      have kt := box_cells I6.out.kt
      have lzt := heap_lt I6.out.kt
      have lzg := heap_lt K6.out
      have lzz := heap_lt I6.out.k0
      have f0 : ∀ o, w6.frozen? ⟨w.heap.size, o, none⟩ = false := fun o => by simp [World.frozen?, I6.out.k0]
      clear I5 K5 X5 b6
      go_wp2_with fail
      obtain ⟨hA, hS, hR, hBl⟩ := fin1r (P := fun k => k < w3.heap.size) z0 I6.out.bel I6.out.k0 (.int .i64 5) (.int .i64 0) (.string t.text) (.string ⟨#[]⟩) (.slice (some ⟨w6.heap.size, 0, none⟩) 1 1) (.int .i64 ((stepS R.2).k : Nat)) (.int .i64 0) (.int .i64 0) (.int .i64 0) (.int .i64 0) (.cells #[.int .i64 op, .int .i64 nn, .string nm, .string fd, .slice a len c] 25)
      have hrw := row1_at (P := fun k => k < w3.heap.size) hR (by have := K6.out; omega) (X6.out.sub hS).1
      exact bodyPost_ret (v := gotV 5 0 t.text ⟨#[]⟩ (some ⟨w6.heap.size, 0, none⟩) 1 1 (stepS R.2).k ⟨0, 0, 0, 0⟩) (results_cell (i := 6) (b := w.heap.size) Tryz.results137 Tryz.isAgg56 Tryz.sizeOf56 rfl rfl hA) rfl (by
        rw [HRES.out]
        exact ⟨hBl, .inl ⟨hRf, _, _, _, _, _, _, _, rfl, ((ExAt.over (op := 5) (n := 0) (nm := t.text) (fd := noB) hrw (by
          intro z hz
          obtain rfl := List.mem_singleton.1 hz
          exact X6.out.2) (by omega) (by omega) (by omega) (by omega) (by unfold maxLen; omega) (by decide)).sub (mk_weak _ (fun k hk => Nat.lt_trans hk z0)))⟩⟩)
    | false =>
      have hpw : isW (tkAt ts R.2.k) [⟨#[93]⟩] = false := by unfold isT at hp; rw [cur_tk hRf] at hp; exact hp
      rw [hpw] at HK
      have hres : needT ts R.2 [⟨#[93]⟩] = refuseS ts R.2 := by unfold needT; rw [if_neg (by rw [hp]; decide)]
      have HRES := Lib.hid hres
      have hfw := fault_wr (ts := ts) hRf
      have hne := refuse_ne ts R.2
      rw [← hfw] at HWR
      clear hpw hp hres hfw
      generalize refuseS ts R.2 = s3 at HWR hne HRES
      unfold gotV
      go_wp2_with fail
      generalize w4.alloc _ = W5 at I5 X5 K5 ⊢
      refine (HK.out _ I5.out.tk).mono ?_
      rintro e w6 ⟨rfl, b6⟩
      have I6 := Lib.hid (I5.out.next b6)
      have K6 := Lib.hid ((b6.block _ (heap_lt K5.out)).trans K5.out)
      have g0 := box_cells K6.out
      clear I5 K5 X5 b6
      go_wp2_with fail
      refine (HWR.out _ I6.out.tk).mono ?_
      rintro e w7 ⟨rfl, b7⟩
      have I7 := Lib.hid (I6.out.next b7)
      have k0 := box_cells I7.out.k0
      have f0 : ∀ o, w7.frozen? ⟨w.heap.size, o, none⟩ = false := fun o => by simp [World.frozen?, I7.out.k0]
      clear I6 K6 b7 g0
      unfold gotN gotV faultD
      go_wp2_with fail
      exact bodyPost_ret (v := gotN (faultD s3)) (results_cell (i := 6) (b := w.heap.size) Tryz.results137 Tryz.isAgg56 Tryz.sizeOf56 rfl rfl (s10_heap I7.out.k0 _ _ _ _ _ _ _ _ _ _)) rfl (by rw [HRES.out]; exact ⟨s10_below I7.out.bel _ _ _ _ _ _ _ _ _ _, .inr ⟨hne, rfl⟩⟩)
  · have I4 := Lib.hid (I3.out.next b4)
    have z0 := heap_lt I3.out.k0
    have lz0 := heap_lt I4.out.k0
    have k0 := box_cells I4.out.k0
    have f0 : ∀ o, w4.frozen? ⟨w.heap.size, o, none⟩ = false := fun o => by simp [World.frozen?, I4.out.k0]
    have hd : ((R.2.f : Int) != 0) = true := by simp [hRf]
    clear b4
    unfold gotN gotV faultD
    go_wp2_with fail
    obtain ⟨hA, _, hBl⟩ := fin1 (P := fun _ => True) trivial I4.out.bel I4.out.k0 (.int .i64 0) (.int .i64 0) (.string ⟨#[]⟩) (.string ⟨#[]⟩) (.slice none 0 0) (.int .i64 0) (.int .i64 (R.2.f : Nat)) (.int .i64 (R.2.fp : Nat)) (.int .i64 (R.2.fl : Nat)) (.int .i64 (R.2.fc : Nat)) (.cells #[.int .i64 0, .int .i64 0, .string ⟨#[]⟩, .string ⟨#[]⟩, .slice none 0 0, .int .i64 0, .int .i64 (R.2.f : Nat), .int .i64 (R.2.fp : Nat), .int .i64 (R.2.fl : Nat), .int .i64 (R.2.fc : Nat)] 56)
    exact bodyPost_ret (v := gotN (faultD R.2)) (results_cell (i := 6) (b := w.heap.size) Tryz.results137 Tryz.isAgg56 Tryz.sizeOf56 rfl rfl hA) rfl (by rw [needT_f ts hRf]; exact ⟨hBl, .inr ⟨hRf, rfl⟩⟩)
end Go.Proofs.YtpcldpnaljheoaaGreatDoor
