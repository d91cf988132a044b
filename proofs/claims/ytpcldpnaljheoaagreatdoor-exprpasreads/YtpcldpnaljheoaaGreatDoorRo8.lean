/-
  The document's reader of expressions, walked: a simple expression without a sign ahead of it.
-/
import Derived.Test.YtpcldpnaljheoaaGreatDoorRl8
namespace Go.Proofs.YtpcldpnaljheoaaGreatDoor
open Go.RowKit Go.Deep Go.Sort

set_option maxRecDepth 100000 in
set_option maxHeartbeats 8000000 in
theorem rlev_simple {g cap : Nat} {ts : List Tok} {F : RS → XS} {n : Nat} (hF : OkV g ts 48 (lvA g cap ts 3) F n) (hFk : ∀ s, s.f = 0 → leftS ts s < n → (F s).2.f = 0 → s.k < (F s).2.k ∧ (F s).2.k ≤ ts.length) {s : RS} {w : World} (hf : s.f = 0) (hk : s.k ≤ ts.length) (h : TkW g ts w) (hn : leftS ts s < n) (hi : isT ts s [⟨#[45]⟩] = false) :
    Calls Tryz.prog 48 (lvA g cap ts 2 s.k) w (GPost w.heap.size (rowP ts addL F (ts.length + 1) (F s).1 (F s).2) w) := by
  have hlen := h.ok.len
  have hgl := h.toks.lt
  generalize hR : rowP ts addL F (ts.length + 1) (F s).1 (F s).2 = R
  have HR := Lib.hid hR
  have Z := (Below.refl w.heap.size w).alloc (Nat.le_refl _) got0
  have T0 := Lib.hid (h.below Z)
  have K0 := Lib.hid (heap_new w got0)
  have ZB := Lib.hid Z
  have HC := Lib.hid (fun (W : World) (hW : TkW g ts W) => hF s W hf hk hW hn)
  have hmi : isW (tkAt ts s.k) [⟨#[45]⟩] = false := by unfold isT at hi; rw [cur_tk hf] at hi; exact hi
  have HMI := Lib.hid (fun (W : World) (hW : TkW g ts W) => ris_any (cap := cap) s.k ⟨#[45]⟩ hW)
  rw [hmi] at HMI
  have HCk := Lib.hid (hFk s hf hn)
  have HF := Lib.hid hF
  have HFk := Lib.hid hFk
  have HLL := Lib.hid (left_eq (ts := ts) hf)
  generalize F s = X at HC HCk HR
  clear h Z hR hF hFk hk hi hmi
  go_enter Tryz.func48, Tryz.ntmps48
  go_wp2_with fail
  have ez : (w.alloc got0).heap.size = w.heap.size + 1 := by simp
  generalize w.alloc _ = W at K0 ZB T0 ez ⊢
  refine (rlast_any _).mono ?_
  rintro e w1 ⟨rfl, rfl⟩
  go_wp2_with fail
  refine (HMI.out _ T0.out).mono ?_
  rintro e wq ⟨rfl, bq⟩
  have eq2 := bq.size
  have ZB := Lib.hid (ZB.out.trans (bq.mono ZB.out.size))
  have K0 := Lib.hid ((bq.block _ (heap_lt K0.out)).trans K0.out)
  have T0 := Lib.hid (T0.out.below bq)
  clear bq HMI
  go_wp2_with fail
  refine (HC.out _ T0.out).mono ?_
  rintro e w2 ⟨b2, ⟨hXf, op, nn, nm, fd, a, len, c, rfl, hx⟩ | ⟨hXf, rfl⟩⟩
  · obtain ⟨hXk1, hXk2⟩ := HCk.out hXf
    have XB := (Below.refl w2.heap.size w2).alloc (Nat.le_refl _) (gotC op nn nm fd a len c X.2.k)
    have BB := b2.trans (XB.mono b2.size)
    have hz2 := b2.size
    have I0 := Lib.hid (show LvI g ts w2.heap.size w op nn nm fd a len c X.1 X.2 (w2.alloc (gotC op nn nm fd a len c X.2.k)) from
      ⟨ZB.out.trans (BB.mono ZB.out.size), T0.out.below BB, (BB.block _ (heap_lt K0.out)).trans K0.out, heap_new w2 _, by omega,
       hx.sub (sub_of_blocks XB.size (fun k => k < wq.heap.size) (fun k => k < w.heap.size + 1 ∨ k = w2.heap.size) fun b hb hn => ⟨by rintro (h | h) <;> omega, XB.block b hb⟩), hXf, hXk2⟩)
    have hX1 : leftS ts X.2 < n := by rw [left_eq hXf]; rw [HLL.out] at hn; omega
    have hX2 : leftS ts X.2 < ts.length + 1 := by rw [left_eq hXf]; omega
    generalize hzg : w2.heap.size = zg at I0
    have hzg0 : w.heap.size < zg := I0.out.gt
    clear hx b2 XB BB HC HCk T0 K0 ZB hz2 ez HLL
    unfold gotV
    go_wp2_with fail
    generalize w2.alloc _ = W2 at I0 ⊢
    go_loopw [] (fun wr => ∃ (m : Nat) (op nn : Int) (nm fd : ByteArray) (a : Option Addr) (len c : Nat) (e : List D) (s' : RS), LvI g ts zg w op nn nm fd a len c e s' wr ∧ leftS ts s' < m ∧ leftS ts s' < n ∧ rowP ts addL F m e s' = R) (fun wr => leftG ts.length zg wr)
    case atStart => exact ⟨_, _, _, _, _, _, _, _, _, _, I0.out, hX2, hX1, HR.out⟩
    case round =>
      obtain ⟨m, op, nn, nm, fd, a, len, c, e, s', hI, hm, hn', hRR⟩ := hrel
      clear I0 hX1 hX2 HR
      have HS := Lib.hid (rsign_any (cap := cap) 2 (by decide) (by decide) s'.k (by have := hI.kle; omega) hI.tk)
      have hso := sign_opP (ts := ts) hI.f (lv := 2) (by decide) (by decide)
      have hseg := opP_seg (ts := ts) add_ne s'
      rw [show lvL 2 = addL from rfl] at hso
      have hle := opP_le ts s' addL
      generalize hsg : signR ts s'.k ((rowS 2).zip (rowO 2)) = so at HS hso
      have lg := hI.left
      have I := Lib.hid hI
      have gk := box_cells hI.kg
      have hlz := heap_lt hI.kg
      clear hI hsg
      go_wp2_with fail
      refine HS.out.mono ?_
      rintro e w3 ⟨rfl, b3⟩
      have I3 := Lib.hid (I.out.next b3)
      have g3 := box_cells I3.out.kg
      have k3 := box_cells I3.out.k0
      have lzg := heap_lt I3.out.kg
      have lz0 := heap_lt I3.out.k0
      have f0 : ∀ o, w3.frozen? ⟨w.heap.size, o, none⟩ = false := fun o => by simp [World.frozen?, I3.out.k0]
      have fg : ∀ o, w3.frozen? ⟨zg, o, none⟩ = false := fun o => by simp [World.frozen?, I3.out.kg]
      clear HS b3 gk hlz
      obtain ⟨o, cnt⟩ := so
      obtain ⟨m, rfl⟩ : ∃ m', m = m' + 1 := ⟨m - 1, by omega⟩
      have hRu := hRR
      unfold rowP at hRu
      rw [hso] at hRu hseg hle
      rcases hseg with h0 | ⟨h0, _, hf2, hk1, hk2, _⟩
      · obtain ⟨rfl, hadv⟩ := Prod.mk.inj h0
        have hRe : (e, s') = R := by rw [← hRu, if_pos rfl, hadv]
        clear hRu hso hle h0 hadv
        go_wp2_with fail
        exact bodyPost_ret (v := gotV op nn nm fd a len c s'.k ⟨0, 0, 0, 0⟩) (results_cell (i := 8) (b := w.heap.size) Tryz.results48 Tryz.isAgg56 Tryz.sizeOf56 rfl rfl (s10_heap I3.out.k0 _ _ _ _ _ _ _ _ _ _)) rfl (by
          rw [← hRe]
          exact ⟨s10_below I3.out.bel _ _ _ _ _ _ _ _ _ _, .inl ⟨I3.out.f, _, _, _, _, _, _, _, rfl, I3.out.x.sub ((s10_sub (P := fun k => k < w.heap.size + 1 ∨ k = zg) (.inl (Nat.lt_succ_self _)) _ _ _ _ _ _ _ _ _ _).trans (mk_weak _ fun k hk => .inl (Nat.lt_succ_of_lt hk)))⟩⟩)
      · have hb0 : ((o : Int) == 0) = false := by simp; omega
        rw [if_neg h0] at hRu
        have hRU := Lib.hid hRu
        have hll : leftS ts (advS s' cnt) < leftS ts s' := by rw [left_eq hf2, left_eq I3.out.f]; omega
        have hwc : IntKind.i64.wrap ((s'.k : Int) + (cnt : Int)) = (((advS s' cnt).k : Nat) : Int) := by
          have hk2' : s'.k + cnt ≤ ts.length := hk2
          rw [IntWalk.i64_in _ (by omega)]; exact (Int.natCast_add s'.k cnt).symm
        have HD := Lib.hid (fun (W : World) (hW : TkW g ts W) => HF.out (advS s' cnt) W hf2 hk2 hW (by omega))
        have HDk := Lib.hid (HFk.out (advS s' cnt) hf2 (by omega))
        generalize advS s' cnt = s2 at hwc HD HDk hRU hll hf2 hk2
        generalize F s2 = Y at HD HDk hRU
        clear hRu hso h0 hk1
        go_wp2_with fail
        refine (HD.out _ I3.out.tk).mono ?_
        rintro e w4 ⟨b4, ⟨hYf, op', nn', nm', fd', a', len', c', rfl, hy⟩ | ⟨hYf, rfl⟩⟩
        · obtain ⟨hYk1, hYk2⟩ := HDk.out hYf
          have I4 := Lib.hid (I3.out.next b4)
          have g4 := box_cells I4.out.kg
          have lzg4 := heap_lt I4.out.kg
          have lz4 := heap_lt I4.out.k0
          have fg4 : ∀ o, w4.frozen? ⟨zg, o, none⟩ = false := fun o => by simp [World.frozen?, I4.out.kg]
          have hz4 := b4.size
          have Y4 := Lib.hid hy
          clear hy b4 g3 k3 f0 fg lzg lz0
          unfold gotV
          go_wp2_with fail
          have hz3 := heap_lt I3.out.kg
          have hgt := I4.out.gt
          obtain ⟨hA, hS, hR2, hBl⟩ := fin2 (P := fun k => k < w.heap.size + 1 ∨ k = zg) (.inr rfl) (Below.refl zg w4) I4.out.kg (.int .i64 (o : Nat)) (.int .i64 0) (.string ⟨#[]⟩) (.string ⟨#[]⟩) (.slice (some ⟨w4.heap.size + 1, 0, none⟩) 2 2) (.int .i64 (Y.2.k : Nat)) (.int .i64 0) (.int .i64 0) (.int .i64 0) (.int .i64 0) (gotC op' nn' nm' fd' a' len' c' Y.2.k) (.cells #[.int .i64 op, .int .i64 nn, .string nm, .string fd, .slice a len c, .int .i64 op', .int .i64 nn', .string nm', .string fd', .slice a' len' c'] 25)
          have hrw := row2_at (P := fun k => k < w.heap.size + 1 ∨ k = zg) (vs := [.int .i64 op, .int .i64 nn, .string nm, .string fd, .slice a len c]) (us := [.int .i64 op', .int .i64 nn', .string nm', .string fd', .slice a' len' c']) hR2 (by rintro (h | h) <;> omega) rfl (I4.out.x.sub hS).1 ((Y4.out.sub (mk_weak w4 (P' := fun k => k < w.heap.size + 1 ∨ k = zg) (fun k hk => by rcases hk with h | h <;> omega))).sub hS).1
          have hle' : o ≤ 100 := hle
          have NI := Lib.hid (show LvI g ts zg w o 0 noB noB (some ⟨w4.heap.size + 1, 0, none⟩) 2 2 (mkE o 0 noB noB [e, Y.1]) Y.2 _ from
            ⟨I4.out.bel.trans (hBl.mono (by omega)), ⟨I4.out.tk.toks.kept hBl.size (hBl.block g (by omega)), I4.out.tk.ok⟩, (hBl.block _ I4.out.gt).trans I4.out.k0, hA, I4.out.gt, (ExAt.over (op := o) (n := 0) (nm := noB) (fd := noB) hrw (by
              intro z hz
              rcases List.mem_cons.1 hz with rfl | hz
              · exact I4.out.x.2
              · obtain rfl := List.mem_singleton.1 hz
                exact Y4.out.2) (by omega) (by omega) (by omega) (by omega) (by decide) (by decide)), hYf, hYk2⟩)
          have hYl : leftS ts Y.2 < leftS ts s' := by rw [left_eq hYf]; rw [left_eq hf2] at hll; omega
          go_roundw
          case rel => exact ⟨m, _, _, _, _, _, _, _, _, _, NI.out, by omega, by omega, hRU.out⟩
          case measure => rw [NI.out.left, lg]; exact hYl
        · have I4 := Lib.hid (I3.out.next b4)
          have lz4 := heap_lt I4.out.k0
          have k4 := box_cells I4.out.k0
          have f4 : ∀ o, w4.frozen? ⟨w.heap.size, o, none⟩ = false := fun o => by simp [World.frozen?, I4.out.k0]
          have hd : ((Y.2.f : Int) != 0) = true := by simp [hYf]
          have hRe : rowP ts addL F m (mkE o 0 noB noB [e, Y.1]) Y.2 = (mkE o 0 noB noB [e, Y.1], Y.2) := rowP_f ts _ _ _ _ hYf
          clear b4
          unfold gotN gotV faultD
          go_wp2_with fail
          obtain ⟨hA, _, hBl⟩ := fin1 (P := fun _ => True) trivial I4.out.bel I4.out.k0 (.int .i64 0) (.int .i64 0) (.string ⟨#[]⟩) (.string ⟨#[]⟩) (.slice none 0 0) (.int .i64 0) (.int .i64 (Y.2.f : Nat)) (.int .i64 (Y.2.fp : Nat)) (.int .i64 (Y.2.fl : Nat)) (.int .i64 (Y.2.fc : Nat)) (.cells #[.int .i64 0, .int .i64 0, .string ⟨#[]⟩, .string ⟨#[]⟩, .slice none 0 0, .int .i64 0, .int .i64 (Y.2.f : Nat), .int .i64 (Y.2.fp : Nat), .int .i64 (Y.2.fl : Nat), .int .i64 (Y.2.fc : Nat)] 56)
          exact bodyPost_ret (v := gotN (faultD Y.2)) (results_cell (i := 8) (b := w.heap.size) Tryz.results48 Tryz.isAgg56 Tryz.sizeOf56 rfl rfl hA) rfl (by rw [← hRU.out, hRe]; exact ⟨hBl, .inr ⟨hYf, rfl⟩⟩)
  · have I2 := Lib.hid (show FxI g ts w.heap.size ⟨0, ⟨#[]⟩, 0, false, 0, 0, 0⟩ w w2 ∨ True from .inr trivial)
    have B2 := ZB.out.trans (b2.mono ZB.out.size)
    have K2 := (b2.block _ (heap_lt K0.out)).trans K0.out
    have lz0 := heap_lt K2
    have k0 := box_cells K2
    have f0 : ∀ o, w2.frozen? ⟨w.heap.size, o, none⟩ = false := fun o => by simp [World.frozen?, K2]
    have hd : ((X.2.f : Int) != 0) = true := by simp [hXf]
    have hRe : R = (X.1, X.2) := by rw [← HR.out]; exact rowP_f ts _ _ _ _ hXf
    clear b2 I2
    unfold gotN gotV faultD
    go_wp2_with fail
    obtain ⟨hA, _, hBl⟩ := fin1 (P := fun _ => True) trivial B2 K2 (.int .i64 0) (.int .i64 0) (.string ⟨#[]⟩) (.string ⟨#[]⟩) (.slice none 0 0) (.int .i64 0) (.int .i64 (X.2.f : Nat)) (.int .i64 (X.2.fp : Nat)) (.int .i64 (X.2.fl : Nat)) (.int .i64 (X.2.fc : Nat)) (.cells #[.int .i64 0, .int .i64 0, .string ⟨#[]⟩, .string ⟨#[]⟩, .slice none 0 0, .int .i64 0, .int .i64 (X.2.f : Nat), .int .i64 (X.2.fp : Nat), .int .i64 (X.2.fl : Nat), .int .i64 (X.2.fc : Nat)] 56)
    exact bodyPost_ret (v := gotN (faultD X.2)) (results_cell (i := 8) (b := w.heap.size) Tryz.results48 Tryz.isAgg56 Tryz.sizeOf56 rfl rfl hA) rfl (by rw [hRe]; exact ⟨hBl, .inr ⟨hXf, rfl⟩⟩)
end Go.Proofs.YtpcldpnaljheoaaGreatDoor
