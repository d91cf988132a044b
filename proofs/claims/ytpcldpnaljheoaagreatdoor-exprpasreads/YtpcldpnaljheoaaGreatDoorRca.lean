/-
  The document's reader of expressions, walked: the operands of a call.
-/
import Derived.Test.YtpcldpnaljheoaaGreatDoorRl8
import Derived.Test.YtpcldpnaljheoaaGreatDoorZz3
import Derived.Test.YtpcldpnaljheoaaGreatDoorZz4
namespace Go.Proofs.YtpcldpnaljheoaaGreatDoor
open Go.RowKit Go.Deep Go.Sort

theorem LX.nil (p B : Nat) (W : World) : LX p B W (.slice none 0 0) [] :=
  ⟨⟨[], ⟨by simp, rfl, .inl ⟨rfl, rfl⟩⟩, rfl, by simp⟩, by simp⟩
/-- One operand more; what else lies there stays. -/
theorem LX.app2 {p B : Nat} {W : World} {v : Value} {acc : List (List D)} (h : LX p B W v acc) (hB : B + 1 ≤ W.heap.size) {C : Nat} (hBC : B ≤ C) (hv : ∀ k, v.ownBlock = some k → k < C) (hlen : acc.length ≤ 100000)
    {u : List D} {op k : Int} {nm fd : ByteArray} {a : Option Addr} {len c : Nat} (hu : ExAt (Mk (Bd p C) W) u op k nm fd a len c) (ty : TypeId) :
    ∃ v' w', (Builtin.append_ #[23, 23] ty #[v, .slice (some ⟨W.heap.size, 0, none⟩) 1 1]).run Tryz.prog (W.alloc (.cells (exC op k nm fd a len c) 25)) = .ok v' w' ∧ LX p B w' v' (acc ++ [u]) ∧ Below (B + 1) W w' ∧ ∀ j, j < W.heap.size → v.ownBlock ≠ some j → w'.heap[j]? = W.heap[j]? := by
  obtain ⟨ls, h1, h2, h3⟩ := h.ex
  have hb6 := (Below.refl W.heap.size W).alloc (Nat.le_refl _) (.cells (exC op k nm fd a len c) 25)
  have h16 : OwnX (B + 1) (W.alloc (.cells (exC op k nm fd a len c) 25)) v ls := h1.kept fun k hk => hb6.block k (h1.lt k hk).2
  obtain ⟨v', w', hr, ho, hg, hloc⟩ := run_appX (w := W.alloc (.cells (exC op k nm fd a len c) 25)) ty h16 (by simp; omega) (b := W.heap.size) (o := 0) (m := 1) (cap := 1) (ns := [[.int .i64 op, .int .i64 k, .string nm, .string fd, .slice a len c]])
    (fun vs hvs => by rw [List.mem_singleton.1 hvs]; exact ⟨rfl, hu.1.one⟩) rfl (fun j u hj => by
      rw [box_cells (heap_new W _), Nat.zero_add]
      simpa using hj) (by omega)
  have hsub : Sub (Mk (LQ p B v) W) (Mk (LQ p B v') w') := by
    refine sub_of_blocks (Nat.le_trans hb6.size hg.size) _ _ fun j hj hn => ⟨?_, (hg.block j (by simp; omega) fun e => hn (.inr e.symm)).trans (hb6.block j hj)⟩
    rintro (g | g)
    · exact hn (.inl g)
    · rcases hloc with e | e
      · exact hn (.inr (e ▸ g))
      · rw [e] at g
        have : (W.alloc (.cells (exC op k nm fd a len c) 25)).heap.size = j := Option.some.inj g
        simp at this
        omega
  refine ⟨v', w', hr, ⟨⟨_, ho, by rw [List.length_append, List.length_append, h2]; rfl, fun i vs ds e1 e2 => ?_⟩, fun z hz => ?_⟩, ?_, ?_⟩
  · by_cases hi : i < ls.length
    · rw [List.getElem?_append_left hi] at e1
      rw [List.getElem?_append_left (by omega)] at e2
      exact (h3 i vs ds e1 e2).sub hsub
    · rw [List.getElem?_append_right (by omega)] at e1
      rw [List.getElem?_append_right (by omega), ← h2] at e2
      match hq : i - ls.length, e1, e2 with
      | 0, e1, e2 =>
        obtain rfl := Option.some.inj e1
        obtain rfl := Option.some.inj e2
        refine (hu.1.sub (mk_weak W (P' := LQ p B v) ?_)).sub hsub
        rintro j ((g | g) | g)
        · exact .inl g
        · exact .inr (by omega)
        · exact .inr (hv j g)
  · rcases List.mem_append.1 hz with g | g
    · exact h.sh z g
    · rw [List.mem_singleton.1 g]; exact hu.2
  · exact ⟨hg.os.trans hb6.os, hg.tape.trans hb6.tape, hg.output.trans hb6.output, Nat.le_trans hb6.size hg.size, fun j hj => (hg.block j (by simp; omega) fun e => by have := (h.lt j e.symm).1; omega).trans (hb6.block j (by omega))⟩
  · intro j hj hn
    exact (hg.block j (by simp; omega) fun e => hn e.symm).trans (hb6.block j hj)
theorem wp_appY {ops : Array Oper} {rest : List Oper} {o : Oper} {a : Act} {Q : Exit → Act → World → Prop} (hgd : o.guard = none) (sl x : Operand)
    (ho : o.op = .call { callee := .builtin .append, args := #[sl, x], argTypes := #[23, 23] })
    {p B : Nat} {W : World} {v : Value} {acc : List (List D)} (h : LX p B W v acc) (hB : B + 1 ≤ W.heap.size) {C : Nat} (hBC : B ≤ C) (hv : ∀ k, v.ownBlock = some k → k < C) (hlen : acc.length ≤ 100000)
    {u : List D} {op k : Int} {nm fd : ByteArray} {ad : Option Addr} {len c : Nat} (hu : ExAt (Mk (Bd p C) W) u op k nm fd ad len c) {z : Nat} (hz : W.heap.size = z) (hs : a.eval sl = v) (hx : a.eval x = .slice (some ⟨z, 0, none⟩) 1 1)
    (hk : ∀ v' w', LX p B w' v' (acc ++ [u]) → Below (B + 1) W w' → (∀ j, j < W.heap.size → v.ownBlock ≠ some j → w'.heap[j]? = W.heap[j]?) → wpList Tryz.prog ops Q rest (a.put o.dst v') w') :
    wpList Tryz.prog ops Q (o :: rest) a (W.alloc (.cells #[.int .i64 op, .int .i64 k, .string nm, .string fd, .slice ad len c] 25)) := by
  subst hz
  refine wpList_plain hgd fun K hK => ?_
  obtain ⟨v', w', hr, h2, h3, h4⟩ := h.app2 hB hBC hv hlen hu o.type
  unfold Oper.wp execOp
  simp only [ho, resolve, invoke, builtin, Sem.run_bind, Sem.run_pure, Result.andThen_ok, List.map_toArray, List.map_cons, List.map_nil, hs, hx, hr]
  exact hK _ _ (hk v' w' h2 h3 h4)
theorem LX.sl {p B : Nat} {W : World} {v : Value} {acc : List (List D)} (h : LX p B W v acc) : ∃ a n c, v = .slice a n c := by
  obtain ⟨ls, h1, _⟩ := h.ex
  rcases h1.own.2 with ⟨rfl, _⟩ | ⟨g, cap, _, rfl, _⟩
  · exact ⟨_, _, _, rfl⟩
  · exact ⟨_, _, _, rfl⟩
/-- The loop: the result's box, the call's, its operands. -/
structure ClI (g : Nat) (ts : List Tok) (nm : ByteArray) (w : World) (v : Value) (acc : List (List D)) (W : World) : Prop where
  gl : g < w.heap.size
  bel : Below w.heap.size w W
  tk : TkW g ts W
  k0 : W.heap[w.heap.size]? = some (.cells #[.int .i64 0, .int .i64 0, .string ⟨#[]⟩, .string ⟨#[]⟩, .slice none 0 0, .int .i64 0, .int .i64 0, .int .i64 0, .int .i64 0, .int .i64 0] 56)
  ke : W.heap[w.heap.size + 1]? = some (.cells #[.int .i64 7, .int .i64 0, .string nm, .string ⟨#[]⟩, v] 25)
  lx : LX (w.heap.size + 1) (w.heap.size + 2) W v acc
theorem ClI.next {g : Nat} {ts : List Tok} {nm : ByteArray} {w : World} {v : Value} {acc : List (List D)} {W W' : World} (h : ClI g ts nm w v acc W) (b : Below W.heap.size W W') : ClI g ts nm w v acc W' :=
  ⟨h.gl, h.bel.trans (b.mono h.bel.size), h.tk.below b, (b.block _ (heap_lt h.k0)).trans h.k0, (b.block _ (heap_lt h.ke)).trans h.ke, h.lx.onl (Nat.lt_succ_self _) (Onl.of b (Nat.le_refl _))⟩
theorem ClI.app {g : Nat} {ts : List Tok} {nm : ByteArray} {w : World} {v v' : Value} {acc acc' : List (List D)} {W W' : World} (h : ClI g ts nm w v acc W) (b : Below (w.heap.size + 3) W W') (l : LX (w.heap.size + 1) (w.heap.size + 2) W' v' acc') : ClI g ts nm w v' acc' (W'.setCell ⟨w.heap.size + 1, 4, none⟩ v') := by
  have hgl := h.gl
  have hne : ∀ k, k ≠ w.heap.size + 1 → k < w.heap.size + 3 → (W'.setCell ⟨w.heap.size + 1, 4, none⟩ v').heap[k]? = W.heap[k]? := fun k h1 h2 => (Below.heap_setCell _ _ _ _ h1).trans (b.block k h2)
  have hs : (W'.setCell ⟨w.heap.size + 1, 4, none⟩ v').heap.size = W'.heap.size := by simp [World.setCell]
  exact ⟨h.gl, (h.bel.trans (b.mono (by omega))).setCell (by dsimp only; omega) v', ⟨h.tk.toks.kept (by rw [hs]; exact b.size) (hne g (by omega) (by omega)), h.tk.ok⟩, (hne _ (by omega) (by omega)).trans h.k0,
    heap_setC (o := 4) ((b.block _ (by omega)).trans h.ke) v', l.onl (Nat.lt_succ_self _) ((Onl.refl (w.heap.size + 1) W').setCell (p := ⟨w.heap.size + 1, 4, none⟩) rfl v')⟩
theorem ClI.start {g : Nat} {ts : List Tok} {w : World} (h : TkW g ts w) (nm : ByteArray) : ClI g ts nm w (.slice none 0 0) [] ((w.alloc got0).alloc (.cells #[.int .i64 7, .int .i64 0, .string nm, .string ⟨#[]⟩, .slice none 0 0] 25)) := by
  have Z1 := (Below.refl w.heap.size w).alloc (Nat.le_refl _) got0
  have Z2 := Z1.alloc Z1.size (.cells #[.int .i64 7, .int .i64 0, .string nm, .string ⟨#[]⟩, .slice none 0 0] 25)
  have e1 : (w.alloc got0).heap.size = w.heap.size + 1 := by simp
  have N2 := (Below.refl _ (w.alloc got0)).alloc (Nat.le_refl _) (.cells #[.int .i64 7, .int .i64 0, .string nm, .string ⟨#[]⟩, .slice none 0 0] 25)
  have k2 := heap_new (w.alloc got0) (.cells #[.int .i64 7, .int .i64 0, .string nm, .string ⟨#[]⟩, .slice none 0 0] 25)
  rw [e1] at k2 N2
  exact ⟨h.toks.lt, Z2, h.below Z2, (N2.block _ (by omega)).trans (heap_new w got0), k2, LX.nil _ _ _⟩
theorem opsF_f (ts : List Tok) (E : RS → XS) : ∀ (m : Nat) (acc : List (List D)) {s : RS}, s.f ≠ 0 → (opsF ts E m acc s).2 = s
  | 0, _, _, _ => rfl
  | m + 1, acc, s, h => by
    unfold opsF
    rw [if_neg (by rw [isT_f ts h]; decide)]
    exact needT_f ts h _
theorem isT_ne {ts : List Tok} {s : RS} {a b : ByteArray} (h : isT ts s [a] = true) (hab : a ≠ b) : isT ts s [b] = false := by
  cases hb : isT ts s [b] with
  | false => rfl
  | true =>
    exfalso
    unfold isT at h hb
    rw [isW_kB, Bool.and_eq_true, isIn_iff] at h hb
    exact hab ((List.mem_singleton.1 h.2).symm.trans (List.mem_singleton.1 hb.2))
abbrev gotO (op n : Int) (nm fd : ByteArray) (a : Option Addr) (len c : Nat) (i : Nat) (d : Dg) : Obj :=
  .cells #[.int .i64 op, .int .i64 n, .string nm, .string fd, .slice a len c, .int .i64 (i : Nat), .int .i64 (d.c : Nat), .int .i64 (d.p : Nat), .int .i64 (d.l : Nat), .int .i64 (d.k : Nat)] 56
abbrev callA (g cap : Nat) (ts : List Tok) (nm : ByteArray) (k : Nat) : Array Value := #[.int .i64 0, .string nm, tkV g cap ts, .int .i64 (k : Nat)]
set_option maxRecDepth 100000 in
set_option maxHeartbeats 8000000 in
theorem rcall_any {g cap : Nat} {ts : List Tok} {E : RS → XS} {n : Nat} (hE : OkV g ts 48 (lvA g cap ts 1) E n) (hEk : ∀ s, s.f = 0 → leftS ts s < n → (E s).2.f = 0 → s.k < (E s).2.k ∧ (E s).2.k ≤ ts.length) {s : RS} {w : World} (hf : s.f = 0) (hk : s.k ≤ ts.length) (h : TkW g ts w) (hn : leftS ts s < n) (nm : ByteArray) (hnm : nm.size ≤ 70000) :
    Calls Tryz.prog 170 (callA g cap ts nm s.k) w (GPost w.heap.size (mkE 7 0 nm noB (oprF ts E s).1, (oprF ts E s).2) w) := by
  have hlen := h.ok.len
  have I0 := Lib.hid (ClI.start h nm)
  have HIS := Lib.hid (fun (k : Nat) (x : ByteArray) (W : World) (hW : TkW g ts W) => ris_any (cap := cap) k x hW)
  have HWR := Lib.hid (fun (k : Nat) (W : World) (hW : TkW g ts W) => rwrong_any (cap := cap) k hW)
  have HE := Lib.hid hE
  have HEk := Lib.hid hEk
  generalize hR : oprF ts E s = R
  have HR := Lib.hid hR
  have h0 : isW (tkAt ts s.k) [⟨#[41]⟩] = isT ts s [⟨#[41]⟩] := by unfold isT; rw [cur_tk hf]
  have HIS0 := Lib.hid (fun (W : World) (hW : TkW g ts W) => ris_any (cap := cap) s.k ⟨#[41]⟩ hW)
  rw [h0] at HIS0
  clear h hE hEk hR h0
  cases hi : isT ts s [⟨#[41]⟩] with
  | true =>
    rw [hi] at HIS0
    have hRe : R = ([], stepS s) := by rw [← HR.out]; unfold oprF; rw [if_pos hi]
    have hw1 : IntKind.i64.wrap ((s.k : Int) + 1) = (((stepS s).k : Nat) : Int) := by rw [IntWalk.i64_in _ (by omega)]; exact (Int.natCast_add s.k 1).symm
    have hsf : (stepS s).f = 0 := hf
    rw [hRe]
    generalize (stepS s) = s1 at hw1 hsf ⊢
    clear HR hRe hi HIS HWR HE HEk hn hf
    go_enter Tryz.func170, Tryz.ntmps170
    go_wp2_with fail
    generalize (w.alloc got0).alloc _ = W at I0 ⊢
    refine (HIS0.out _ I0.out.tk).mono ?_
    rintro e w1 ⟨rfl, b1⟩
    have I1 := Lib.hid (I0.out.next b1)
    have ce := box_cells I1.out.ke
    have ck := box_cells I1.out.k0
    have lz0 := heap_lt I1.out.k0
    have lze := heap_lt I1.out.ke
    have f0 : ∀ o, w1.frozen? ⟨w.heap.size, o, none⟩ = false := fun o => by simp [World.frozen?, I1.out.k0]
    clear b1 I0 HIS0
    go_wp2_with fail
    exact bodyPost_ret (v := gotV 7 0 nm ⟨#[]⟩ none 0 0 s1.k ⟨0, 0, 0, 0⟩) (results_cell (i := 8) (b := w.heap.size) Tryz.results170 Tryz.isAgg56 Tryz.sizeOf56 rfl rfl (s10_heap I1.out.k0 _ _ _ _ _ _ _ _ _ _)) rfl ⟨s10_below I1.out.bel _ _ _ _ _ _ _ _ _ _, .inl ⟨hsf, _, _, _, _, _, _, _, rfl, ExAt.leaf _ (by omega) (by omega) (by omega) (by omega) (by unfold maxLen; omega) (by decide)⟩⟩
  | false =>
    rw [hi] at HIS0
    have hRe : opsF ts E (ts.length + 1) ([] ++ [(E s).1]) (E s).2 = R := by rw [← HR.out]; unfold oprF; rw [if_neg (by rw [hi]; decide)]; rfl
    have HRe := Lib.hid hRe
    have hm : leftS ts s < ts.length + 1 := by unfold leftS; split <;> omega
    have hz := I0.out.gl
    clear HR hi hRe
    go_enter Tryz.func170, Tryz.ntmps170
    go_wp2_with fail
    generalize (w.alloc got0).alloc _ = W at I0 ⊢
    refine (HIS0.out _ I0.out.tk).mono ?_
    rintro e w1 ⟨rfl, b1⟩
    have I1 := Lib.hid (I0.out.next b1)
    clear b1 I0 HIS0
    go_wp2_with fail
    go_loopw [3, 10] (fun iv uv wr => ∃ (m : Nat) (v : Value) (acc : List (List D)) (s' : RS), iv = .int .i64 (s'.k : Nat) ∧ uv = .bool false ∧ ClI g ts nm w v acc wr ∧ s'.f = 0 ∧ s'.k ≤ ts.length ∧ leftS ts s' < n ∧ leftS ts s' < m ∧ acc.length + leftS ts s' ≤ 80000 ∧ opsF ts E m (acc ++ [(E s').1]) (E s').2 = R) (fun iv _ _ => ts.length - (intOf iv).toNat)
    case atStart => exact ⟨_, _, _, s, rfl, rfl, I1.out, hf, hk, hn, hm, by simp; omega, HRe.out⟩
    case round =>
      obtain ⟨m, v, acc, s', rfl, rfl, hI, hf', hk', hn', hm', hac, hRR⟩ := hrel
      have I := Lib.hid hI
      have HRR := Lib.hid hRR
      have HC := Lib.hid (fun (W : World) (hW : TkW g ts W) => HE.out s' W hf' hk' hW hn')
      have HCk := Lib.hid (HEk.out s' hf' hn')
      have hl' := left_eq (ts := ts) hf'
      clear hI hRR I1 HRe hf hk hn hm
      generalize E s' = X at HC HCk HRR
      obtain ⟨m, rfl⟩ : ∃ m', m = m' + 1 := ⟨m - 1, by omega⟩
      go_wp2_with fail
      refine (HC.out _ I.out.tk).mono ?_
      rintro e w4 ⟨b4, ⟨hXf, op, nn, nm2, fd, a, len, c, rfl, hx⟩ | ⟨hXf, rfl⟩⟩
      · obtain ⟨hXk1, hXk2⟩ := HCk.out hXf
        have hbt : isW (tkAt ts X.2.k) [⟨#[41]⟩] = isT ts X.2 [⟨#[41]⟩] := by unfold isT; rw [cur_tk hXf]
        have hbc : isW (tkAt ts X.2.k) [⟨#[44]⟩] = isT ts X.2 [⟨#[44]⟩] := by unfold isT; rw [cur_tk hXf]
        have HIT := Lib.hid (HIS.out X.2.k ⟨#[41]⟩)
        have HIC := Lib.hid (HIS.out X.2.k ⟨#[44]⟩)
        rw [hbt] at HIT
        rw [hbc] at HIC
        have XB := (Below.refl w4.heap.size w4).alloc (Nat.le_refl _) (gotC op nn nm2 fd a len c X.2.k)
        have hC : w.heap.size + 2 ≤ wr.heap.size := heap_lt I.out.ke
        have I4 := I.out.next b4
        have I5 := Lib.hid (I4.next XB)
        have hz4 : w.heap.size + 2 ≤ w4.heap.size := heap_lt I4.ke
        have hown := fun k hk => (I.out.lx.lt k hk).2
        have HOW := Lib.hid hown
        have hzg : ∀ k, v.ownBlock = some k → k < w4.heap.size := fun k hk => (I4.lx.lt k hk).2
        have HZG := Lib.hid hzg
        have X5 := Lib.hid ((hx.sub (mk_step (P := fun k => k < wr.heap.size) XB.size fun k hk _ => XB.block k hk)).sub (mk_weak _ (P' := Bd (w.heap.size + 1) wr.heap.size) (by rintro k (h | h) <;> omega)))
        have K5 := Lib.hid (heap_new w4 (gotC op nn nm2 fd a len c X.2.k))
        have hB5 : w.heap.size + 3 ≤ (w4.alloc (gotC op nn nm2 fd a len c X.2.k)).heap.size := by simp; omega
        have HB5 := Lib.hid hB5
        have HZ5 := Lib.hid (show (w4.alloc (gotC op nn nm2 fd a len c X.2.k)).heap.size = w4.heap.size + 1 by simp)
        have hal : acc.length ≤ 100000 := by omega
        clear hx b4 XB I4 I hown hzg hB5 hbt hbc HC HCk
        generalize hzz : w4.heap.size = zg at *
        have ce := box_cells I5.out.ke
        have cg := box_cells K5.out
        have le := heap_lt I5.out.ke
        have lg := heap_lt K5.out
        have fe : ∀ o, (w4.alloc (gotC op nn nm2 fd a len c X.2.k)).frozen? ⟨w.heap.size + 1, o, none⟩ = false := fun o => by simp [World.frozen?, I5.out.ke]
        unfold gotV
        have tok1 : True := trivial
        go_wp2_with (have _t := tok1; at_builtin; (refine wp_appY rfl (.tmp 71) (.tmp 74) rfl I5.out.lx HB5.out hC HOW.out hal X5.out HZ5.out rfl rfl ?_; intro v7 w7 l7 b7 n7); (obtain ⟨a7, m7, q7, rfl⟩ := l7.sl); (have J7 := Lib.hid (I5.out.app b7 l7)); (have G7 := Lib.hid (show (w7.setCell ⟨w.heap.size + 1, 4, none⟩ (.slice a7 m7 q7)).heap[zg]? = some (gotC op nn nm2 fd a len c X.2.k) from (Below.heap_setCell _ _ _ _ (show zg ≠ w.heap.size + 1 by omega)).trans ((n7 zg lg (fun e => absurd (HZG.out _ e) (Nat.lt_irrefl _))).trans K5.out))); (have c7 := box_cells ((b7.block (w.heap.size + 1) (by omega)).trans I5.out.ke)); (have g7 := box_cells G7.out 5); (have f7 : ∀ o, w7.frozen? ⟨w.heap.size + 1, o, none⟩ = false := fun o => by { simp [World.frozen?, (b7.block (w.heap.size + 1) (by omega)).trans I5.out.ke] }); (have l7e : w.heap.size + 1 < w7.heap.size := Nat.lt_of_lt_of_le le b7.size); clear l7 b7 n7 tok1)
        generalize hw8 : w7.setCell ⟨w.heap.size + 1, 4, none⟩ (.slice a7 m7 q7) = W8 at J7 G7 g7 ⊢
        clear hw8 f7 l7e c7 cg ce le lg fe I5 K5 X5
        refine (HIT.out _ J7.out.tk).mono ?_
        rintro e w9 ⟨rfl, b9⟩
        have I9 := Lib.hid (J7.out.next b9)
        clear b9 J7 G7 g7
        cases hp : isT ts X.2 [⟨#[41]⟩] with
        | true =>
          have hcm : isT ts X.2 [⟨#[44]⟩] = false := isT_ne hp (by decide)
          have hRe : R = (acc ++ [X.1], stepS X.2) := by
            rw [← HRR.out]
            unfold opsF
            rw [if_neg (by rw [hcm]; decide)]
            unfold needT
            rw [if_pos hp]
          obtain ⟨la, lc, hve, hat⟩ := I9.out.lx.fin (Nat.lt_succ_self _)
          have hsh := I9.out.lx.sh
          injection hve with h1 h2 h3
          subst h1 h2 h3
          rw [List.length_append, List.length_singleton] at hat
          have HAT := Lib.hid hat
          have hw1 : IntKind.i64.wrap ((X.2.k : Int) + 1) = (((stepS X.2).k : Nat) : Int) := by
            have := (isT_k hp).2.1
            rw [IntWalk.i64_in _ (by omega)]; exact (Int.natCast_add X.2.k 1).symm
          have hsf : (stepS X.2).f = 0 := hXf
          generalize stepS X.2 = s3 at hw1 hsf hRe
          have ce := box_cells I9.out.ke
          have c0 := box_cells I9.out.k0
          have le := heap_lt I9.out.ke
          have l0 := heap_lt I9.out.k0
          have f0 : ∀ o, w9.frozen? ⟨w.heap.size, o, none⟩ = false := fun o => by simp [World.frozen?, I9.out.k0]
          clear hat hp hcm HIC HRR
          go_wp2_with fail
          exact bodyPost_ret (v := gotV 7 0 nm ⟨#[]⟩ a7 (acc.length + 1) q7 s3.k ⟨0, 0, 0, 0⟩) (results_cell (i := 8) (b := w.heap.size) Tryz.results170 Tryz.isAgg56 Tryz.sizeOf56 rfl rfl (s10_heap I9.out.k0 _ _ _ _ _ _ _ _ _ _)) rfl (by
            rw [hRe]
            exact ⟨s10_below I9.out.bel _ _ _ _ _ _ _ _ _ _, .inl ⟨hsf, _, _, _, _, _, _, _, rfl, ((ExAt.over (op := 7) (n := 0) (nm := nm) (fd := noB) (HAT.out.sub (s10_sub (P := Bd (w.heap.size + 1) (w.heap.size + 2)) (z := w.heap.size) (.inr (by omega)) _ _ _ _ _ _ _ _ _ _)) hsh (by omega) (by omega) (by omega) (by omega) (by unfold maxLen; omega) (by decide)).sub (mk_weak _ (P := Bd (w.heap.size + 1) (w.heap.size + 2)) (fun k (hk : k < w.heap.size) => .inr (by omega))))⟩⟩)
        | false =>
          go_wp2_with fail
          refine (HIC.out _ I9.out.tk).mono ?_
          rintro e w10 ⟨rfl, b10⟩
          have I10 := Lib.hid (I9.out.next b10)
          clear b10 I9
          cases hq : isT ts X.2 [⟨#[44]⟩] with
          | true =>
            have hkl := (isT_k hq).2.1
            have hlt := left_stepT hq
            have hlX := left_eq (ts := ts) hXf
            have hRe : opsF ts E m (acc ++ [X.1] ++ [(E (stepS X.2)).1]) (E (stepS X.2)).2 = R := by
              rw [← HRR.out]
              conv => rhs; unfold opsF
              rw [if_pos hq]
            have HRE := Lib.hid hRe
            have hw1 : IntKind.i64.wrap ((X.2.k : Int) + 1) = (((stepS X.2).k : Nat) : Int) := by
              rw [IntWalk.i64_in _ (by omega)]; exact (Int.natCast_add X.2.k 1).symm
            have hsf : (stepS X.2).f = 0 := hXf
            have hsk : (stepS X.2).k = X.2.k + 1 := rfl
            generalize stepS X.2 = s3 at hw1 hsf hsk hlt HRE
            clear hRe HRR hq hp
            go_wp2_with fail
            go_roundw
            case rel => exact ⟨m, _, _, s3, by rw [hsk]; go_num, rfl, I10.out, hsf, by omega, by omega, by omega, by rw [List.length_append, List.length_singleton]; omega, HRE.out⟩
            case measure => simp [intOf]; omega
          | false =>
            have hfw := fault_wr (ts := ts) hXf
            have hne := refuse_ne ts X.2
            have HW2 := Lib.hid (HWR.out X.2.k)
            rw [← hfw] at HW2
            have hRe : R = (acc ++ [X.1], refuseS ts X.2) := by
              rw [← HRR.out]
              unfold opsF
              rw [if_neg (by rw [hq]; decide)]
              unfold needT
              rw [if_neg (by rw [hp]; decide)]
            generalize refuseS ts X.2 = s3 at HW2 hne hRe
            clear hfw HRR hq hp
            go_wp2_with fail
            refine (HW2.out _ I10.out.tk).mono ?_
            rintro e w11 ⟨rfl, b11⟩
            have I11 := Lib.hid (I10.out.next b11)
            have c0 := box_cells I11.out.k0
            have l0 := heap_lt I11.out.k0
            have f0 : ∀ o, w11.frozen? ⟨w.heap.size, o, none⟩ = false := fun o => by simp [World.frozen?, I11.out.k0]
            clear b11 I10
            unfold gotN gotV faultD
            go_wp2_with fail
            exact bodyPost_ret (v := gotN (faultD s3)) (results_cell (i := 8) (b := w.heap.size) Tryz.results170 Tryz.isAgg56 Tryz.sizeOf56 rfl rfl (s10_heap I11.out.k0 _ _ _ _ _ _ _ _ _ _)) rfl (by
              rw [hRe]
              exact ⟨s10_below I11.out.bel _ _ _ _ _ _ _ _ _ _, .inr ⟨hne, rfl⟩⟩)
      · have I4 := Lib.hid (I.out.next b4)
        have lz4 := heap_lt I4.out.k0
        have k4 := box_cells I4.out.k0
        have f4 : ∀ o, w4.frozen? ⟨w.heap.size, o, none⟩ = false := fun o => by simp [World.frozen?, I4.out.k0]
        have hd : ((X.2.f : Int) != 0) = true := by simp [hXf]
        have hRe : R.2 = X.2 := by rw [← HRR.out]; exact opsF_f ts E _ _ hXf
        clear b4 I HC HCk HRR HIS HWR
        unfold gotN gotV faultD
        go_wp2_with fail
        obtain ⟨hA, _, hBl⟩ := fin1 (P := fun _ => True) trivial I4.out.bel I4.out.k0 (.int .i64 0) (.int .i64 0) (.string ⟨#[]⟩) (.string ⟨#[]⟩) (.slice none 0 0) (.int .i64 0) (.int .i64 (X.2.f : Nat)) (.int .i64 (X.2.fp : Nat)) (.int .i64 (X.2.fl : Nat)) (.int .i64 (X.2.fc : Nat)) (.cells #[.int .i64 0, .int .i64 0, .string ⟨#[]⟩, .string ⟨#[]⟩, .slice none 0 0, .int .i64 0, .int .i64 (X.2.f : Nat), .int .i64 (X.2.fp : Nat), .int .i64 (X.2.fl : Nat), .int .i64 (X.2.fc : Nat)] 56)
        exact bodyPost_ret (v := gotN (faultD X.2)) (results_cell (i := 8) (b := w.heap.size) Tryz.results170 Tryz.isAgg56 Tryz.sizeOf56 rfl rfl hA) rfl (by rw [hRe]; exact ⟨hBl, .inr ⟨hXf, rfl⟩⟩)
end Go.Proofs.YtpcldpnaljheoaaGreatDoor
