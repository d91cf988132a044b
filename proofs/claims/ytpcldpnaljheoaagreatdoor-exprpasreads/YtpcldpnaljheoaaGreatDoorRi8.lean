/-
  The document's reader of expressions, walked: what binds most: brackets.
-/
import Derived.Test.YtpcldpnaljheoaaGreatDoorRh8
namespace Go.Proofs.YtpcldpnaljheoaaGreatDoor
open Go.RowKit Go.Deep Go.Sort

set_option maxRecDepth 100000 in
set_option maxHeartbeats 4000000 in
theorem rfac_par {g cap : Nat} {ts : List Tok} {E : RS → XS} {n : Nat} (hE : OkV g ts 48 (lvA g cap ts 1) E n) (hEk : ∀ s, s.f = 0 → leftS ts s < n → (E s).2.f = 0 → (E s).2.k ≤ ts.length) {s : RS} {w : World} (hf : s.f = 0) (h : TkW g ts w) (hn : leftS ts s < n + 1) (hi : isT ts s [notB] = false) (hj : isT ts s [⟨#[40]⟩] = true) :
    Calls Tryz.prog 86 (facA g cap ts s.k) w (GPost w.heap.size ((E (stepS s)).1, needT ts (E (stepS s)).2 [⟨#[41]⟩]) w) := by
  have hlt := left_stepT hj
  have hkl := (isT_k hj).2.1
  have hlen := h.ok.len
  have hnt : isW (tkAt ts s.k) [notB] = false := by unfold isT at hi; rw [cur_tk hf] at hi; exact hi
  have hpt : isW (tkAt ts s.k) [⟨#[40]⟩] = true := by unfold isT at hj; rw [cur_tk hf] at hj; exact hj
  have Z := (Below.refl w.heap.size w).alloc (Nat.le_refl _) got0
  have T0 := Lib.hid (h.below Z)
  have HT := Lib.hid (rtok_any (cap := cap) s.k (h.below Z))
  have K0 := Lib.hid (heap_new w got0)
  have ZB := Lib.hid Z
  have HIS := Lib.hid (fun (W : World) (hW : TkW g ts W) => ris_any (cap := cap) s.k notB hW)
  have HIP := Lib.hid (fun (W : World) (hW : TkW g ts W) => ris_any (cap := cap) s.k ⟨#[40]⟩ hW)
  have HC := Lib.hid (fun (W : World) (hW : TkW g ts W) => hE (stepS s) W hf hkl hW (by omega))
  have hRk := Lib.hid (hEk (stepS s) hf (by omega))
  have hw1 : IntKind.i64.wrap ((s.k : Int) + 1) = (((stepS s).k : Nat) : Int) := by rw [IntWalk.i64_in _ (by omega)]; exact (Int.natCast_add s.k 1).symm
  rw [hnt] at HIS
  rw [hpt] at HIP
  generalize tkAt ts s.k = t at HT HIS HIP
  generalize E (stepS s) = R at HC hRk ⊢
  generalize (stepS s).k = k1 at hw1 HC
  clear h Z hi hj hnt hpt hE hEk hn hlt hkl
  go_enter Tryz.func86, Tryz.ntmps86
  go_wp2_with fail
  generalize w.alloc _ = W at HT K0 ZB T0 ⊢
  refine HT.out.mono ?_
  rintro e w1 ⟨rfl, b1⟩
  have b1a := b1.alloc b1.size (.cells #[.int .i64 (t.kind : Nat), .string t.text, .int .i64 (t.n : Nat), .bool t.same, .int .i64 (t.pos : Nat), .int .i64 (t.line : Nat), .int .i64 (t.col : Nat)] 50)
  have I1 := Lib.hid (show FxI g ts w1.heap.size t w _ from ⟨ZB.out.trans (b1a.mono ZB.out.size), T0.out.below b1a, (b1a.block _ (heap_lt K0.out)).trans K0.out, heap_new w1 _, Nat.lt_of_lt_of_le (heap_lt K0.out) b1.size⟩)
  generalize hzt : w1.heap.size = zt at I1
  clear HT b1 b1a K0 ZB T0
  unfold tokV tokCells
  go_wp2_with fail
  generalize w1.alloc _ = W1 at I1 ⊢
  refine (HIS.out _ I1.out.tk).mono ?_
  rintro e w2 ⟨rfl, b2⟩
  have I2 := Lib.hid (I1.out.next b2)
  clear I1 b2
  go_wp2_with fail
  refine (HIP.out _ I2.out.tk).mono ?_
  rintro e w3 ⟨rfl, b3⟩
  have I3 := Lib.hid (I2.out.next b3)
  clear I2 b3
  go_wp2_with fail
  refine (HC.out _ I3.out.tk).mono ?_
  rintro e w4 ⟨b4, ⟨hRf, op, nn, nm, fd, a, len, c, rfl, hx⟩ | ⟨hRf, rfl⟩⟩
  · have hk2 := hRk.out hRf
    have I4 := Lib.hid (I3.out.next b4)
    have z0 := heap_lt I3.out.k0
    have z4 := b4.size
    have lz0 := heap_lt I4.out.k0
    have XB := (Below.refl w4.heap.size w4).alloc (Nat.le_refl _) (.cells #[.int .i64 op, .int .i64 nn, .string nm, .string fd, .slice a len c, .int .i64 (R.2.k : Nat), .int .i64 0, .int .i64 0, .int .i64 0, .int .i64 0] 56)
    have I5 := Lib.hid (I4.out.next XB)
    have X5 := Lib.hid (hx.sub (sub_of_blocks XB.size (fun k => k < w3.heap.size) (fun k => k < w3.heap.size ∨ k = w4.heap.size) fun b hb hn => ⟨by rintro (h | h) <;> omega, XB.block b hb⟩))
    have K5 := Lib.hid (heap_new w4 (.cells #[.int .i64 op, .int .i64 nn, .string nm, .string fd, .slice a len c, .int .i64 (R.2.k : Nat), .int .i64 0, .int .i64 0, .int .i64 0, .int .i64 0] 56))
    have HK := Lib.hid (fun (W : World) (hW : TkW g ts W) => ris_any (cap := cap) R.2.k ⟨#[41]⟩ hW)
    have HWR := Lib.hid (fun (W : World) (hW : TkW g ts W) => rwrong_any (cap := cap) R.2.k hW)
    have hwk : IntKind.i64.wrap ((R.2.k : Int) + 1) = (((stepS R.2).k : Nat) : Int) := by rw [IntWalk.i64_in _ (by omega)]; exact (Int.natCast_add R.2.k 1).symm
    clear hx b4 XB I4 hRk
    generalize hzg : w4.heap.size = zg at *
    cases hp : isT ts R.2 [⟨#[41]⟩] with
    | true =>
      have hpw : isW (tkAt ts R.2.k) [⟨#[41]⟩] = true := by unfold isT at hp; rw [cur_tk hRf] at hp; exact hp
      rw [hpw] at HK
      have hres : needT ts R.2 [⟨#[41]⟩] = stepS R.2 := by unfold needT; rw [if_pos hp]
      have HRES := Lib.hid hres
      clear hpw hp hres
      unfold gotV
      go_wp2_with fail
      generalize w4.alloc _ = W5 at I5 X5 K5 ⊢
      refine (HK.out _ I5.out.tk).mono ?_
      rintro e w6 ⟨rfl, b6⟩
      have I6 := Lib.hid (I5.out.next b6)
      have K6 := Lib.hid ((b6.block _ (heap_lt K5.out)).trans K5.out)
      have X6 := Lib.hid (X5.out.sub (mk_step (P := fun k => k < w3.heap.size ∨ k = zg) b6.size fun k hk _ => b6.block k hk))
      have g0 := box_cells K6.out
      have k0 := box_cells I6.out.k0
      have f0 : ∀ o, w6.frozen? ⟨w.heap.size, o, none⟩ = false := fun o => by simp [World.frozen?, I6.out.k0]
      have fg : ∀ o, w6.frozen? ⟨zg, o, none⟩ = false := fun o => by simp [World.frozen?, K6.out]
      clear I5 K5 X5 b6
      go_wp2_with fail
      have hk0 : (w6.setCell ⟨zg, 5, none⟩ (.int .i64 ((stepS R.2).k : Nat))).heap[w.heap.size]? = some (.cells #[.int .i64 0, .int .i64 0, .string ⟨#[]⟩, .string ⟨#[]⟩, .slice none 0 0, .int .i64 0, .int .i64 0, .int .i64 0, .int .i64 0, .int .i64 0] 56) := (Below.heap_setCell _ _ _ _ (by show w.heap.size ≠ zg; omega)).trans I6.out.k0
      exact bodyPost_ret (v := gotV op nn nm fd a len c (stepS R.2).k ⟨0, 0, 0, 0⟩) (results_cell (i := 6) (b := w.heap.size) Tryz.results86 Tryz.isAgg56 Tryz.sizeOf56 rfl rfl (s10_heap hk0 _ _ _ _ _ _ _ _ _ _)) rfl (by
        rw [HRES.out]
        refine ⟨s10_below (I6.out.bel.setCell (by show w.heap.size ≤ zg; omega) _) _ _ _ _ _ _ _ _ _ _, .inl ⟨hRf, _, _, _, _, _, _, _, rfl, X6.out.sub (((mk_set (P := fun k => k < w3.heap.size ∨ k = zg) (.inr rfl) w6 _).trans (s10_sub (P := fun k => k < w3.heap.size ∨ k = zg) (.inl z0) _ _ _ _ _ _ _ _ _ _)).trans (mk_weak _ fun k hk => .inl (Nat.lt_trans hk z0)))⟩⟩)
    | false =>
      have hpw : isW (tkAt ts R.2.k) [⟨#[41]⟩] = false := by unfold isT at hp; rw [cur_tk hRf] at hp; exact hp
      rw [hpw] at HK
      have hres : needT ts R.2 [⟨#[41]⟩] = refuseS ts R.2 := by unfold needT; rw [if_neg (by rw [hp]; decide)]
      have HRES := Lib.hid hres
      have hfw := fault_wr (ts := ts) hRf
      have hne := refuse_ne ts R.2
      rw [← hfw] at HWR
      clear hpw hp hres hfw
      generalize refuseS ts R.2 = s3 at HWR hne HRES
      unfold gotV
      go_wp2_with fail
      generalize w4.alloc _ = W5 at I5 X5 K5 ⊢
      refine (HK.out _ I5.out.tk).mono ?_
      rintro e w6 ⟨rfl, b6⟩
      have I6 := Lib.hid (I5.out.next b6)
      have K6 := Lib.hid ((b6.block _ (heap_lt K5.out)).trans K5.out)
      have g0 := box_cells K6.out
      clear I5 K5 X5 b6
      go_wp2_with fail
      refine (HWR.out _ I6.out.tk).mono ?_
      rintro e w7 ⟨rfl, b7⟩
      have I7 := Lib.hid (I6.out.next b7)
      have k0 := box_cells I7.out.k0
      have f0 : ∀ o, w7.frozen? ⟨w.heap.size, o, none⟩ = false := fun o => by simp [World.frozen?, I7.out.k0]
      clear I6 K6 b7 g0
      unfold gotN gotV faultD
      go_wp2_with fail
      exact bodyPost_ret (v := gotN (faultD s3)) (results_cell (i := 6) (b := w.heap.size) Tryz.results86 Tryz.isAgg56 Tryz.sizeOf56 rfl rfl (s10_heap I7.out.k0 _ _ _ _ _ _ _ _ _ _)) rfl (by rw [HRES.out]; exact ⟨s10_below I7.out.bel _ _ _ _ _ _ _ _ _ _, .inr ⟨hne, rfl⟩⟩)
  · have I4 := Lib.hid (I3.out.next b4)
    have z0 := heap_lt I3.out.k0
    have lz0 := heap_lt I4.out.k0
    have k0 := box_cells I4.out.k0
    have f0 : ∀ o, w4.frozen? ⟨w.heap.size, o, none⟩ = false := fun o => by simp [World.frozen?, I4.out.k0]
    have hd : ((R.2.f : Int) != 0) = true := by simp [hRf]
    clear b4
    unfold gotN gotV faultD
    go_wp2_with fail
    obtain ⟨hA, _, hBl⟩ := fin1 (P := fun _ => True) trivial I4.out.bel I4.out.k0 (.int .i64 0) (.int .i64 0) (.string ⟨#[]⟩) (.string ⟨#[]⟩) (.slice none 0 0) (.int .i64 0) (.int .i64 (R.2.f : Nat)) (.int .i64 (R.2.fp : Nat)) (.int .i64 (R.2.fl : Nat)) (.int .i64 (R.2.fc : Nat)) (.cells #[.int .i64 0, .int .i64 0, .string ⟨#[]⟩, .string ⟨#[]⟩, .slice none 0 0, .int .i64 0, .int .i64 (R.2.f : Nat), .int .i64 (R.2.fp : Nat), .int .i64 (R.2.fl : Nat), .int .i64 (R.2.fc : Nat)] 56)
    exact bodyPost_ret (v := gotN (faultD R.2)) (results_cell (i := 6) (b := w.heap.size) Tryz.results86 Tryz.isAgg56 Tryz.sizeOf56 rfl rfl hA) rfl (by rw [needT_f ts hRf]; exact ⟨hBl, .inr ⟨hRf, rfl⟩⟩)
end Go.Proofs.YtpcldpnaljheoaaGreatDoor
