/-
  The document's reader of expressions, walked: Parse.
-/
import Derived.Test.YtpcldpnaljheoaaGreatDoorRkn
import Derived.Test.YtpcldpnaljheoaaGreatDoorRbe
namespace Go.Proofs.YtpcldpnaljheoaaGreatDoor
open Go.RowKit Go.Deep Go.Sort

/-- What the document's Parse leaves. -/
def RPost (ts : List Tok) (k : Nat) (w : World) (e : Ending) (w' : World) : Prop :=
  Below w.heap.size w w' ∧ ((parD ts k).c ≠ 0 ∧ e = .returned (gotN (parD ts k)) ∨
    (parD ts k).c = 0 ∧ ∃ op n nm fd a len c, e = .returned (gotV op n nm fd a len c (parX ts k).2.k ⟨0, 0, 0, 0⟩) ∧ AllAt (Mk (fun b => b < w.heap.size) w') [.int .i64 op, .int .i64 n, .string nm, .string fd, .slice a len c] (parX ts k).1 ∧ ShE (parX ts k).1 ∧ (parX ts k).2.k ≤ ts.length)
theorem parD_eq {ts : List Tok} {k : Nat} (hok : TsOk ts) (hs : (parX ts k).2.f = 0 → ShE (parX ts k).1) : parD ts k = if (parX ts k).2.f = 0 then limR (parX ts k).1 (tkAt ts k).pos (tkAt ts k).line (tkAt ts k).col else faultD (parX ts k).2 := by
  unfold parD ansD
  rw [show cur ts ⟨k, 0, 0, 0, 0⟩ = tkAt ts k from cur_st ts k]
  split
  · rename_i hf
    exact limD_R (der_tm (parX_good ts k rfl hf).2.2) (hs hf) (parX_n hok hf) _ _ _
  · rfl
set_option maxRecDepth 100000 in
set_option maxHeartbeats 4000000 in
theorem rParse_any {g cap : Nat} {ts : List Tok} {k : Nat} {w : World} (h : TkW g ts w) (hk : k ≤ ts.length) :
    Calls Tryz.prog 22 #[.int .i64 0, tkV g cap ts, .int .i64 (k : Nat)] w (RPost ts k w) := by
  have Z := (Below.refl w.heap.size w).alloc (Nat.le_refl _) got0
  have T0 := Lib.hid (h.below Z)
  have K0 := Lib.hid (heap_new w got0)
  have ZB := Lib.hid Z
  have hz1 : (w.alloc got0).heap.size = w.heap.size + 1 := by simp
  have HL := Lib.hid (fun (W : World) (hW : TkW g ts W) => rexpr_any (cap := cap) (s := ⟨k, 0, 0, 0, 0⟩) rfl hk hW)
  have HB1 := Lib.hid (fun (d : Dg) (hd : d.c ≠ 0) (W : World) => rbound_f (g := g) (ts := ts) (cap := cap) (w := W) k d hd)
  have HPE := Lib.hid (parD_eq (ts := ts) (k := k) h.ok)
  have HG := Lib.hid (parX_good ts k)
  unfold RPost
  rw [show exprP ts (fac ts (ts.length + 1)) ⟨k, 0, 0, 0, 0⟩ = parX ts k from rfl] at HL
  generalize parD ts k = PD at HPE ⊢
  generalize parX ts k = X at HL HPE HG ⊢
  clear h Z
  go_enter Tryz.func22, Tryz.ntmps22
  go_wp2_with fail
  generalize w.alloc _ = W at K0 ZB T0 hz1 ⊢
  refine (HL.out _ T0.out).mono ?_
  rintro e w1 ⟨b1, ⟨hXf, op, n, nm, fd, a, len, c, rfl, hx⟩ | ⟨hXf, rfl⟩⟩
  · have hD := HPE.out fun _ => hx.2
    rw [if_pos hXf] at hD
    have hkk := (HG.out rfl hXf).2.1
    have HB := Lib.hid (rbound_ok (cap := cap) (j := X.2.k) k (T0.out.below b1) (hx.1.sub (mk_sub _ _)) hx.2)
    unfold BdPost at HB
    rw [← hD] at HB
    have B1 := Lib.hid (ZB.out.trans (b1.mono ZB.out.size))
    have K1 := Lib.hid ((b1.block _ (heap_lt K0.out)).trans K0.out)
    have X1 := Lib.hid hx
    have hw1 := b1.size
    clear hD b1 hx K0 ZB T0 HL HPE HG HB1
    go_wp2_with fail
    refine HB.out.mono ?_
    rintro e w2 ⟨b2, ⟨hL, rfl⟩ | ⟨hL, rfl⟩⟩
    · have B2 := Lib.hid (B1.out.trans (b2.mono B1.out.size))
      have K2 := Lib.hid ((b2.block _ (heap_lt K1.out)).trans K1.out)
      have c0 := box_cells K2.out
      have l0 := heap_lt K2.out
      have f0 : ∀ o, w2.frozen? ⟨w.heap.size, o, none⟩ = false := fun o => by simp [World.frozen?, K2.out]
      clear b2 K1 B1 HB
      unfold gotN gotV
      go_wp2_with fail
      exact bodyPost_ret (v := gotN PD) (results_cell (i := 6) (b := w.heap.size) Tryz.results22 Tryz.isAgg56 Tryz.sizeOf56 rfl rfl (s10_heap K2.out _ _ _ _ _ _ _ _ _ _)) rfl ⟨s10_below B2.out _ _ _ _ _ _ _ _ _ _, .inl ⟨hL, rfl⟩⟩
    · have B2 := Lib.hid (B1.out.trans (b2.mono B1.out.size))
      have K2 := Lib.hid ((b2.block _ (heap_lt K1.out)).trans K1.out)
      have X2 := Lib.hid (X1.out.sub (mk_step (P := fun k => k < W.heap.size) b2.size fun k hk _ => b2.block k hk))
      have c0 := box_cells K2.out
      have l0 := heap_lt K2.out
      have f0 : ∀ o, w2.frozen? ⟨w.heap.size, o, none⟩ = false := fun o => by simp [World.frozen?, K2.out]
      clear b2 K1 B1 HB
      unfold gotV
      go_wp2_with fail
      exact bodyPost_ret (v := gotV op n nm fd a len c X.2.k ⟨0, 0, 0, 0⟩) (results_cell (i := 6) (b := w.heap.size) Tryz.results22 Tryz.isAgg56 Tryz.sizeOf56 rfl rfl (s10_heap K2.out _ _ _ _ _ _ _ _ _ _)) rfl ⟨s10_below B2.out _ _ _ _ _ _ _ _ _ _, .inr ⟨hL, op, n, nm, fd, a, len, c, rfl, (X2.out.sub ((s10_sub (P := fun k => k < W.heap.size) (by show w.heap.size < W.heap.size; omega) _ _ _ _ _ _ _ _ _ _).trans (mk_weak _ fun k hk => by show k < W.heap.size; have : k < w.heap.size := hk; omega))).1, X2.out.2, hkk⟩⟩
  · have hD : PD = faultD X.2 := by
      have := HPE.out fun h => absurd h hXf
      rwa [if_neg hXf] at this
    have hc : (faultD X.2).c ≠ 0 := hXf
    have HB := Lib.hid (HB1.out (faultD X.2) hc w1)
    have B1 := Lib.hid (ZB.out.trans (b1.mono ZB.out.size))
    have K1 := Lib.hid ((b1.block _ (heap_lt K0.out)).trans K0.out)
    rw [← hD] at HB hc ⊢
    clear hD b1 K0 ZB T0 HL HPE HG HB1
    go_wp2_with fail
    refine HB.out.mono ?_
    rintro e w2 ⟨rfl, b2⟩
    have B2 := Lib.hid (B1.out.trans (b2.mono B1.out.size))
    have K2 := Lib.hid ((b2.block _ (heap_lt K1.out)).trans K1.out)
    have c0 := box_cells K2.out
    have l0 := heap_lt K2.out
    have f0 : ∀ o, w2.frozen? ⟨w.heap.size, o, none⟩ = false := fun o => by simp [World.frozen?, K2.out]
    clear b2 K1 B1 HB
    unfold gotN gotV
    go_wp2_with fail
    exact bodyPost_ret (v := gotN PD) (results_cell (i := 6) (b := w.heap.size) Tryz.results22 Tryz.isAgg56 Tryz.sizeOf56 rfl rfl (s10_heap K2.out _ _ _ _ _ _ _ _ _ _)) rfl ⟨s10_below B2.out _ _ _ _ _ _ _ _ _ _, .inl ⟨hc, rfl⟩⟩
end Go.Proofs.YtpcldpnaljheoaaGreatDoor
