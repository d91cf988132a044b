/-
  Texts of this proof, put together.
-/
import Derived.Test.YtciijpahjjoppaaGreatPn8
import Derived.Test.YtciijpahjjoppaaGreatPn3
import Derived.Test.YtciijpahjjoppaaGreatPn4
import Derived.Deep.RegionHeld3
section
namespace Go.Proofs.YtciijpahjjoppaaGreat
open Go.RowKit Go.Shelf Go.Deep

theorem wp_buildSlice1 {ops : Array Oper} {rest : List Oper} {o : Oper} {a : Act} {Q : Exit → Act → World → Prop} (hgd : o.guard = none) (x : Operand) (T E : TypeId) (ho : o.op = .buildSlice T 1 #[(0, x)]) (ht : Tryz.prog.underlying T = some (.slice E)) (k : Nat) (hsz : ∀ w, (sizeOf E).run Tryz.prog w = .ok k w) (z : Value) (hz : ∀ w, (zeroValue E).run Tryz.prog w = .ok z w) (hk : 0 < k) (hk2 : k ≤ 100)
    {w : World} (vs : List Value) (hx : a.eval x = .agg ⟨vs⟩) (hlen : vs.length = k)
    (h : wpList Tryz.prog ops Q rest (a.put o.dst (.slice (some ⟨w.heap.size, 0, none⟩) 1 1)) (w.alloc (.cells ⟨vs⟩ E))) : wpList Tryz.prog ops Q (o :: rest) a w := by
  refine wpList_plain hgd fun K hK => ?_
  unfold Oper.wp execOp
  have hr := run_buildSlice1 (w := w) ht hsz hz hk hk2 hlen
  simp only [ho, List.map_toArray, List.map_cons, List.map_nil, hx]
  rw [Sem.run_bind, hr]
  exact hK _ _ h
theorem wp_makeRow {ops : Array Oper} {rest : List Oper} {o : Oper} {a : Act} {Q : Exit → Act → World → Prop} (hgd : o.guard = none) (x : Operand) (T E : TypeId) (ho : o.op = .makeSlice T (.const (.int .i64 0)) x) (i : TypeInfo) (z : Value) (size : Nat) (ht : Tryz.prog.underlying T = some (.slice E)) (hi : Tryz.prog.info? E = some i) (hz : i.zero = some z) (hsize : i.size = size)
    {w : World} (c : Nat) (hx : a.eval x = .int .i64 c) (hbytes : i.bytes * c ≤ 281474976710656) (h63 : c ≤ maxLen)
    (h : ∀ w', w'.ownsRow w.heap.size E size (.slice (some ⟨w.heap.size, 0, none⟩) 0 c) 0 [] → w.grownBy w' none → wpList Tryz.prog ops Q rest (a.put o.dst (.slice (some ⟨w.heap.size, 0, none⟩) 0 c)) w') : wpList Tryz.prog ops Q (o :: rest) a w := by
  refine wpList_plain hgd fun K hK => ?_
  unfold Oper.wp execOp
  obtain ⟨w', hr, h1, h2⟩ := run_make_own (P := Tryz.prog) w w.heap.size T E i z size ht hi hz hsize .i64 .i64 c hbytes h63 (Nat.le_refl _)
  have he : a.eval (.const (.int .i64 0)) = .int .i64 0 := rfl
  simp only [ho, he, hx]
  rw [Sem.run_bind, hr]
  exact hK _ _ (h w' h1 h2)

theorem flat_at {K : Nat} : ∀ (vss : List (List Value)) (j i : Nat) (vs : List Value), (∀ us ∈ vss, us.length = K) → vss[j]? = some vs → i < K → vss.flatten[j * K + i]? = vs[i]?
  | [], j, _, _, _, h, _ => by simp at h
  | us :: r, 0, i, vs, hl, h, hi => by
    simp at h
    subst h
    rw [List.flatten_cons, List.getElem?_append_left (by rw [hl us (by simp)]; omega)]
    congr 1
    omega
  | us :: r, j + 1, i, vs, hl, h, hi => by
    rw [List.flatten_cons, List.getElem?_append_right (by rw [hl us (by simp), Nat.add_mul]; omega), hl us (by simp), show (j + 1) * K + i - K = j * K + i by rw [Nat.add_mul]; omega]
    exact flat_at r j i vs (fun x hx => hl x (by simp [hx])) (by simpa using h) hi

section
variable {σ : Type} {g : Nat} {c1 c2 : Value}
/-- What is new since block n, or lies below block lo. -/
noncomputable def NewN (C : Clo σ g c1 c2) (lo n : Nat) (W : World) : World := Mk (fun b => C.O W b ∨ (lo ≤ b ∧ b < n)) W
theorem newN_kept {C : Clo σ g c1 c2} {lo n : Nat} {W W' : World} (h : Kept C.O C.hi W W') : Sub (NewN C lo n W) (NewN C lo n W') :=
  sub_of_blocks h.size _ _ fun b hb hp => ⟨fun e => by rcases e with e | e; exact h.not_own hb (fun o => hp (.inl o)) e; exact hp (.inr e), h.block b hb fun o => hp (.inl o)⟩
theorem newN_less {C : Clo σ g c1 c2} {lo n n' : Nat} {W : World} (h : n' ≤ n) : Sub (NewN C lo n W) (NewN C lo n' W) :=
  sub_of_blocks (Nat.le_refl _) _ _ fun b _ hp => ⟨fun e => by rcases e with e | e; exact hp (.inl e); exact hp (.inr ⟨e.1, by omega⟩), rfl⟩
theorem newN_step {C : Clo σ g c1 c2} {lo n : Nat} {W W' : World} (hs : W.heap.size ≤ W'.heap.size) (hO : ∀ b, b < W.heap.size → C.O W' b → C.O W b) (hb : ∀ b, b < W.heap.size → ¬ (lo ≤ b ∧ b < n) → ¬ C.O W b → W'.heap[b]? = W.heap[b]?) : Sub (NewN C lo n W) (NewN C lo n W') :=
  sub_of_blocks hs _ _ fun b hl hp => ⟨fun e => by rcases e with e | e; exact hp (.inl (hO b hl e)); exact hp (.inr e), hb b hl (fun e => hp (.inr e)) fun e => hp (.inl e)⟩
theorem newN_ground {C : Clo σ g c1 c2} {n : Nat} {w0 W : World} {m : Nat} {st : σ} (hI : C.I m st W) (hlow : w0.heap.size ≤ C.low) (hb : Below w0.heap.size w0 W) : Sub w0 (NewN C w0.heap.size n W) :=
  sub_low _ hb fun b e => by
    rcases e with e | e
    · have := (C.ltO hI e).1; omega
    · exact e.1

structure TuJ (C : Clo σ g c1 c2) (lo m : Nat) (w : World) (st : σ) (T : TypeId) (K : Nat) (v : Value) (k : Nat) (vss : List (List Value)) (ls : List (List D)) (W : World) : Prop where
  i : C.I m st W
  row : W.ownsRow w.heap.size T K v k vss.flatten
  no : ∀ b, v.ownBlock = some b → ¬ C.O W b
  kept : Kept C.O C.hi w W
  low : C.low ≤ w.heap.size
  len : vss.length = k ∧ ls.length = k
  one : ∀ vs ∈ vss, vs.length = K
  dlen : ∀ ds ∈ ls, ds.length = K
  dat : ∀ (j : Nat) (vs : List Value) (ds : List D), vss[j]? = some vs → ls[j]? = some ds → AllAt (Mk (fun b => C.O W b ∨ (lo ≤ b ∧ b < w.heap.size) ∨ v.ownBlock = some b) W) vs ds
theorem TuJ.start {C : Clo σ g c1 c2} {lo m : Nat} {w w1 : World} {st : σ} {T : TypeId} {K c : Nat} (hI : C.I m st w) (hown : w1.ownsRow w.heap.size T K (.slice (some ⟨w.heap.size, 0, none⟩) 0 c) 0 []) (hg : w.grownBy w1 none) : TuJ C lo m w st T K (.slice (some ⟨w.heap.size, 0, none⟩) 0 c) 0 [] [] w1 := by
  have hlow : C.low ≤ w.heap.size := Nat.le_trans (C.hiI hI).1 (C.hiI hI).2
  have hb : Below w.heap.size w w1 := (Below.refl w.heap.size w).grown hg (Nat.le_refl _) (fun j hj => by cases hj)
  obtain ⟨k1, i1⟩ := C.below (Kept.refl C.O C.hi w) hI hlow hb
  refine ⟨i1, by simpa using hown, fun b hbk e => ?_, k1, hlow, ⟨rfl, rfl⟩, by simp, by simp, fun j vs ds h => by simp at h⟩
  have hb' : w.heap.size = b := by simpa [Value.ownBlock] using hbk
  have := (C.keep hI hb.size (fun b h => hb.block b (by omega)) (fun b h => hb.block b (C.ltO hI h).2)).2 b e
  have := (C.ltO hI this).2
  omega
theorem TuJ.called {C : Clo σ g c1 c2} {lo m m' : Nat} {w : World} {st st' : σ} {T : TypeId} {K : Nat} {v : Value} {k : Nat} {vss : List (List Value)} {ls : List (List D)} {W W' : World} (h : TuJ C lo m w st T K v k vss ls W) (hk : Kept C.O C.hi W W') (hi : C.I m' st' W') : TuJ C lo m' w st' T K v k vss ls W' :=
  ⟨hi, ownsRow_same h.row fun b hb => hk.block b (rowBlock h.row hb).2.1 (h.no b hb), fun b hb => hk.not_own (rowBlock h.row hb).2.1 (h.no b hb), h.kept.trans hk, h.low, h.len, h.one, h.dlen,
    fun j vs ds h1 h2 => (h.dat j vs ds h1 h2).sub (sub_of_blocks hk.size _ _ fun b hb hp => ⟨fun e => by rcases e with e | e; exact hk.not_own hb (fun o => hp (.inl o)) e; exact hp (.inr e), hk.block b hb fun o => hp (.inl o)⟩)⟩
theorem TuJ.below {C : Clo σ g c1 c2} {lo m : Nat} {w : World} {st : σ} {T : TypeId} {K : Nat} {v : Value} {k : Nat} {vss : List (List Value)} {ls : List (List D)} {W W' : World} (h : TuJ C lo m w st T K v k vss ls W) (hb : Below W.heap.size W W') : TuJ C lo m w st T K v k vss ls W' := by
  obtain ⟨k1, i1⟩ := C.below (Kept.refl C.O C.hi W) h.i (Nat.le_trans h.low h.kept.size) hb
  exact h.called k1 i1
theorem TuJ.appended {C : Clo σ g c1 c2} {lo m : Nat} {w : World} {st : σ} {T : TypeId} {K : Nat} {v v' : Value} {k : Nat} {vss : List (List Value)} {ls : List (List D)} {W w1 : World} {n : Nat} {vs : List Value} {ds : List D} (h : TuJ C lo m w st T K v k vss ls W) (hlw : lo ≤ w.heap.size)
    (hl : vs.length = K) (hdl : ds.length = K) (hd : AllAt (NewN C lo n W) vs ds) (hn : w.heap.size ≤ n) (hvn : ∀ b, v.ownBlock = some b → b < n)
    (hg : W.grownBy w1 v.ownBlock) (hat : v'.ownBlock = v.ownBlock ∨ v'.ownBlock = some W.heap.size) (hr : w1.ownsRow w.heap.size T K v' (k + 1) (vss.flatten ++ vs)) :
    TuJ C lo m w st T K v' (k + 1) (vss ++ [vs]) (ls ++ [ds]) w1 := by
  have hblk : ∀ b, b < W.heap.size → some b ≠ v.ownBlock → w1.heap[b]? = W.heap[b]? := fun b h1 h2 => hg.block b h1 h2
  have hrow := h.row
  have own : ∀ b, C.O W b → w1.heap[b]? = W.heap[b]? := fun b hb => hblk b (C.ltO h.i hb).2 fun e => h.no b e.symm hb
  have old : ∀ b, b < w.heap.size → w1.heap[b]? = W.heap[b]? := fun b hb => hblk b (Nat.lt_of_lt_of_le hb h.kept.size) fun e => by have := (rowBlock hrow e.symm).1; omega
  obtain ⟨i1, o1⟩ := C.keep h.i hg.size (fun b hb => old b (by have := h.low; omega)) own
  have kk : Kept C.O C.hi w w1 := (C.next h.kept h.i h.low hg.os hg.tape hg.output hg.size own old).1
  have nob : ∀ b, v'.ownBlock = some b → b = W.heap.size ∨ v.ownBlock = some b := fun b hb => by
    rcases hat with e | e
    · exact .inr (e ▸ hb)
    · rw [e] at hb
      exact .inl (by simpa using hb.symm)
  refine ⟨i1, by rw [List.flatten_append]; simpa using hr, fun b hb e => ?_, kk, h.low, by simp [h.len.1, h.len.2], ?_, ?_, fun j us es h1 h2 => ?_⟩
  · have e' := o1 b e
    rcases nob b hb with rfl | e2
    · have := (C.ltO h.i e').2; omega
    · exact h.no b e2 e'
  · intro us hu
    rcases List.mem_append.1 hu with hu | hu
    · exact h.one us hu
    · rw [List.mem_singleton.1 hu]; exact hl
  · intro us hu
    rcases List.mem_append.1 hu with hu | hu
    · exact h.dlen us hu
    · rw [List.mem_singleton.1 hu]; exact hdl
  · have key : ∀ (P : Nat → Prop), (∀ b, C.O W b → P b) → (∀ b, v.ownBlock = some b → P b) → (∀ b, lo ≤ b ∧ b < w.heap.size → P b) → Sub (Mk P W) (Mk (fun b => C.O w1 b ∨ (lo ≤ b ∧ b < w.heap.size) ∨ v'.ownBlock = some b) w1) := fun P h1 h2 h3 =>
      sub_of_blocks hg.size _ _ fun b hb hp => ⟨fun e => by
        rcases e with e | e | e
        · exact hp (h1 b (o1 b e))
        · exact hp (h3 b e)
        · rcases nob b e with rfl | e
          · omega
          · exact hp (h2 b e), hblk b hb fun e => hp (h2 b e.symm)⟩
    by_cases hj : j < k
    · rw [List.getElem?_append_left (by rw [h.len.1]; exact hj)] at h1
      rw [List.getElem?_append_left (by rw [h.len.2]; exact hj)] at h2
      exact (h.dat j us es h1 h2).sub (key _ (fun b e => .inl e) (fun b e => .inr (.inr e)) fun b e => .inr (.inl e))
    · have hjk : j = k := by
        have := (List.getElem?_eq_some_iff.1 h1).1
        rw [List.length_append, h.len.1, List.length_singleton] at this
        omega
      subst hjk
      rw [List.getElem?_append_right (by rw [h.len.1]; exact Nat.le_refl _), h.len.1, Nat.sub_self] at h1
      rw [List.getElem?_append_right (by rw [h.len.2]; exact Nat.le_refl _), h.len.2, Nat.sub_self] at h2
      simp at h1 h2
      subst h1 h2
      refine hd.sub (key _ (fun b e => .inl e) (fun b e => ?_) fun b e => .inr ⟨e.1, by omega⟩)
      refine .inr ⟨?_, hvn b e⟩
      have := (rowBlock hrow e).1
      omega
theorem TuJ.done {C : Clo σ g c1 c2} {lo m : Nat} {w : World} {st : σ} {T : TypeId} {K : Nat} {v : Value} {k : Nat} {vss : List (List Value)} {ls : List (List D)} {W : World} (h : TuJ C lo m w st T K v k vss ls W) : ∃ a cap, v = .slice a ls.length cap ∧ At (NewN C lo w.heap.size W) v (.row ls) := by
  have hs : Sub (Mk (fun b => C.O W b ∨ (lo ≤ b ∧ b < w.heap.size) ∨ v.ownBlock = some b) W) (NewN C lo w.heap.size W) :=
    sub_of_blocks (Nat.le_refl _) _ _ fun b _ hp => ⟨fun e => by rcases e with e | e; exact hp (.inl e); exact hp (.inr (.inl e)), rfl⟩
  rcases h.row.2 with ⟨rfl, h0⟩ | ⟨q, cap, cur, rfl, hq, hg, hn, hm, hcs, htk⟩
  · have : ls = [] := List.eq_nil_of_length_eq_zero (h.len.2.trans h0)
    subst this
    exact ⟨none, 0, rfl, .nil none 0 (by decide)⟩
  · have hno : ¬ (C.O W q ∨ (lo ≤ q ∧ q < w.heap.size)) := fun e => by
      rcases e with e | e
      · exact h.no q rfl e
      · omega
    have hgq : (NewN C lo w.heap.size W).heap[q]? = some (.cells cur T (0, 0)) := (mk_get W hno).trans hg
    refine ⟨_, cap, by rw [h.len.2], ?_⟩
    refine .row q 0 k cap K ls (fun j => vss.getD j []) h.len.2 hn hm (heap_lt hgq) (fun j hj => ?_) (fun j ds hd => h.dlen ds (List.mem_of_getElem? hd)) (fun j i u hj hu => ?_) (fun j i ds u d h1 h2 h3 => ?_)
    · have e : vss[j]? = some (vss[j]'(by rw [h.len.1]; exact hj)) := List.getElem?_eq_getElem _
      rw [List.getD_eq_getElem?_getD, e]
      exact h.one _ (List.mem_of_getElem? e)
    · have e : vss[j]? = some (vss[j]'(by rw [h.len.1]; exact hj)) := List.getElem?_eq_getElem _
      rw [List.getD_eq_getElem?_getD, e] at hu
      have hu' : (vss[j]'(by rw [h.len.1]; exact hj))[i]? = some u := hu
      have hiK : i < K := by
        have := (List.getElem?_eq_some_iff.1 hu').1
        rw [h.one _ (List.mem_of_getElem? e)] at this
        exact this
      have hf := flat_at vss j i _ h.one e hiK
      rw [hu', ← htk, List.getElem?_take_of_lt (by have : (j + 1) * K ≤ k * K := Nat.mul_le_mul_right K hj; rw [Nat.add_mul] at this; omega)] at hf
      unfold World.cell?
      simp only [hgq]
      simpa using hf
    · have hj : j < k := by rw [← h.len.2]; exact (List.getElem?_eq_some_iff.1 h1).1
      have e : vss[j]? = some (vss[j]'(by rw [h.len.1]; exact hj)) := List.getElem?_eq_getElem _
      rw [List.getD_eq_getElem?_getD, e] at h2
      exact ((h.dat j _ ds e h1).get i u d h2 h3).sub hs
end
end Go.Proofs.YtciijpahjjoppaaGreat
end
section
namespace Go.Proofs.YtciijpahjjoppaaGreat
open Go.RowKit Go.Deep Go.Shelf
set_option maxRecDepth 100000 in
theorem turnNil_88 (f : Value) (w : World) : Calls Tryz.prog 88 #[.slice none 0 0, f] w fun e w' => e = .returned (.slice none 0 0) ∧ w = w' := by
  have hn := eql_nil Tryz.underlying30 none 0 0
  simp only [Option.isNone_none] at hn
  go_enter Tryz.func88, Tryz.ntmps88
  go_wp2_with fail
  go_ret
  exact ⟨rfl, rfl⟩
set_option maxRecDepth 100000 in
theorem turnNil_90 (f : Value) (w : World) : Calls Tryz.prog 90 #[.slice none 0 0, f] w fun e w' => e = .returned (.slice none 0 0) ∧ w = w' := by
  have hn := eql_nil Tryz.underlying31 none 0 0
  simp only [Option.isNone_none] at hn
  go_enter Tryz.func90, Tryz.ntmps90
  go_wp2_with fail
  go_ret
  exact ⟨rfl, rfl⟩
set_option maxRecDepth 100000 in
theorem turnNil_92 (f : Value) (w : World) : Calls Tryz.prog 92 #[.slice none 0 0, f] w fun e w' => e = .returned (.slice none 0 0) ∧ w = w' := by
  have hn := eql_nil Tryz.underlying32 none 0 0
  simp only [Option.isNone_none] at hn
  go_enter Tryz.func92, Tryz.ntmps92
  go_wp2_with fail
  go_ret
  exact ⟨rfl, rfl⟩
set_option maxRecDepth 100000 in
theorem turnNil_94 (f : Value) (w : World) : Calls Tryz.prog 94 #[.slice none 0 0, f] w fun e w' => e = .returned (.slice none 0 0) ∧ w = w' := by
  have hn := eql_nil Tryz.underlying33 none 0 0
  simp only [Option.isNone_none] at hn
  go_enter Tryz.func94, Tryz.ntmps94
  go_wp2_with fail
  go_ret
  exact ⟨rfl, rfl⟩
set_option maxRecDepth 100000 in
theorem turnNil_123 (f : Value) (w : World) : Calls Tryz.prog 123 #[.slice none 0 0, f] w fun e w' => e = .returned (.slice none 0 0) ∧ w = w' := by
  have hn := eql_nil Tryz.underlying29 none 0 0
  simp only [Option.isNone_none] at hn
  go_enter Tryz.func123, Tryz.ntmps123
  go_wp2_with fail
  go_ret
  exact ⟨rfl, rfl⟩
theorem tnotesNil (g : Nat) (c1 c2 : Value) (w : World) : Calls Tryz.prog 87 #[.agg #[.func (.func g) #[] #[c1, c2]], .slice none 0 0] w fun e w' => e = .returned (.slice none 0 0) ∧ Below w.heap.size w w' := by
  go_enter Tryz.func87, Tryz.ntmps87
  go_wp2_with fail
  refine (turnNil_123 _ _).mono ?_
  rintro e w1 ⟨rfl, rfl⟩
  go_wp2_with fail
  go_ret
  exact ⟨rfl, (Below.refl _ _).alloc (Nat.le_refl _) _⟩
theorem frozen_box {w : World} {n : Nat} {cs : Array Value} {t : TypeId} (h : w.heap[n]? = some (.cells cs t)) : ∀ i, w.frozen? ⟨n, i, none⟩ = false := fun i => by
  unfold World.frozen?
  simp [h]

set_option maxRecDepth 100000 in
set_option maxHeartbeats 4000000 in
theorem turnEmp {σ : Type} {g : Nat} {c1 c2 : Value} (C : Clo σ g c1 c2) (hg : g = 50 ∨ g = 59) (n : Nat) (st : σ) (nm : ByteArray) (w : World) (hI : C.I (n + (parts nm).length) st w) (hs : nm.size ≤ lim) :
    Calls Tryz.prog 51 #[.agg #[.func (.func g) #[] #[c1, c2]], .agg #[.string nm, .slice none 0 0, .slice none 0 0, .slice none 0 0, .slice none 0 0, .slice none 0 0, .slice none 0 0, .slice none 0 0, .slice none 0 0]] w fun e w' => e = .returned (.agg #[.string (C.nm st nm).1, .slice none 0 0, .slice none 0 0, .slice none 0 0, .slice none 0 0, .slice none 0 0, .slice none 0 0, .slice none 0 0, .slice none 0 0]) ∧ C.I n (C.nm st nm).2 w' ∧ Kept C.O C.hi w w' := by
  have J0 := Lib.hid (BxJ.start C (T := 35) (cs := #[.string nm, .slice none 0 0, .slice none 0 0, .slice none 0 0, .slice none 0 0, .slice none 0 0, .slice none 0 0, .slice none 0 0, .slice none 0 0]) (zs := #[.string ⟨#[]⟩, .slice none 0 0, .slice none 0 0, .slice none 0 0, .slice none 0 0, .slice none 0 0, .slice none 0 0, .slice none 0 0, .slice none 0 0]) rfl hI)
  have HG := Lib.hid hg
  clear hI hg
  go_enter Tryz.func51, Tryz.ntmps51
  go_wp2_with fail
  refine (name_any C HG.out n st nm _ J0.out.i hs).mono ?_
  rintro e W1 ⟨rfl, i1, k1⟩
  have J1 := Lib.hid (J0.out.called k1 i1)
  clear i1 k1
  generalize hr : (C.nm st nm).1 = r
  generalize hs2 : (C.nm st nm).2 = s2 at *
  have HRR := Lib.hid hr
  have HS2 := Lib.hid hs2
  clear hr hs2
  have cA1 := box_cells J1.out.bt
  have cB1 : ∀ i, W1.cell? ⟨w.heap.size + 1, i, none⟩ = (#[.string nm, .slice none 0 0, .slice none 0 0, .slice none 0 0, .slice none 0 0, .slice none 0 0, .slice none 0 0, .slice none 0 0, .slice none 0 0] : Array Value)[i]? := box_cells J1.out.bx
  have fB1 := frozen_box J1.out.bx
  go_wp2_with fail
  have J1s : BxJ C n w s2 35 [.string r, .slice none 0 0, .slice none 0 0, .slice none 0 0, .slice none 0 0, .slice none 0 0, .slice none 0 0, .slice none 0 0, .slice none 0 0] (W1.setCell ⟨w.heap.size + 1, 0, none⟩ (.string r)) := J1.out.set 0 (.string r)
  have H1s := Lib.hid J1s
  clear J1s
  refine (tnotesNil g c1 c2 _).mono ?_
  rintro e W2 ⟨rfl, b⟩
  have J2 := Lib.hid (H1s.out.below b)
  clear b cA1 cB1 fB1
  have cA2 := box_cells J2.out.bt
  have cB2 : ∀ i, W2.cell? ⟨w.heap.size + 1, i, none⟩ = (#[.string r, .slice none 0 0, .slice none 0 0, .slice none 0 0, .slice none 0 0, .slice none 0 0, .slice none 0 0, .slice none 0 0, .slice none 0 0] : Array Value)[i]? := box_cells J2.out.bx
  have fB2 := frozen_box J2.out.bx
  go_wp2_with fail
  have J2s : BxJ C n w s2 35 [.string r, .slice none 0 0, .slice none 0 0, .slice none 0 0, .slice none 0 0, .slice none 0 0, .slice none 0 0, .slice none 0 0, .slice none 0 0] (W2.setCell ⟨w.heap.size + 1, 1, none⟩ (.slice none 0 0)) := J2.out.set 1 (.slice none 0 0)
  have H2s := Lib.hid J2s
  clear J2s
  refine (tnotesNil g c1 c2 _).mono ?_
  rintro e W3 ⟨rfl, b⟩
  have J3 := Lib.hid (H2s.out.below b)
  clear b cA2 cB2 fB2
  have cA3 := box_cells J3.out.bt
  have cB3 : ∀ i, W3.cell? ⟨w.heap.size + 1, i, none⟩ = (#[.string r, .slice none 0 0, .slice none 0 0, .slice none 0 0, .slice none 0 0, .slice none 0 0, .slice none 0 0, .slice none 0 0, .slice none 0 0] : Array Value)[i]? := box_cells J3.out.bx
  have fB3 := frozen_box J3.out.bx
  go_wp2_with fail
  have J3s : BxJ C n w s2 35 [.string r, .slice none 0 0, .slice none 0 0, .slice none 0 0, .slice none 0 0, .slice none 0 0, .slice none 0 0, .slice none 0 0, .slice none 0 0] (W3.setCell ⟨w.heap.size + 1, 2, none⟩ (.slice none 0 0)) := J3.out.set 2 (.slice none 0 0)
  have H3s := Lib.hid J3s
  clear J3s
  refine (tnotesNil g c1 c2 _).mono ?_
  rintro e W4 ⟨rfl, b⟩
  have J4 := Lib.hid (H3s.out.below b)
  clear b cA3 cB3 fB3
  have cA4 := box_cells J4.out.bt
  have cB4 : ∀ i, W4.cell? ⟨w.heap.size + 1, i, none⟩ = (#[.string r, .slice none 0 0, .slice none 0 0, .slice none 0 0, .slice none 0 0, .slice none 0 0, .slice none 0 0, .slice none 0 0, .slice none 0 0] : Array Value)[i]? := box_cells J4.out.bx
  have fB4 := frozen_box J4.out.bx
  go_wp2_with fail
  have J4s : BxJ C n w s2 35 [.string r, .slice none 0 0, .slice none 0 0, .slice none 0 0, .slice none 0 0, .slice none 0 0, .slice none 0 0, .slice none 0 0, .slice none 0 0] (W4.setCell ⟨w.heap.size + 1, 3, none⟩ (.slice none 0 0)) := J4.out.set 3 (.slice none 0 0)
  have H4s := Lib.hid J4s
  clear J4s
  refine (turnNil_88 _ _).mono ?_
  rintro e W5 ⟨rfl, hw⟩
  have J5 : Hid (BxJ C n w s2 35 [.string r, .slice none 0 0, .slice none 0 0, .slice none 0 0, .slice none 0 0, .slice none 0 0, .slice none 0 0, .slice none 0 0, .slice none 0 0] W5) := by rw [← hw]; exact H4s.out
  clear hw cA4 cB4 fB4
  have cA5 := box_cells J5.out.bt
  have cB5 : ∀ i, W5.cell? ⟨w.heap.size + 1, i, none⟩ = (#[.string r, .slice none 0 0, .slice none 0 0, .slice none 0 0, .slice none 0 0, .slice none 0 0, .slice none 0 0, .slice none 0 0, .slice none 0 0] : Array Value)[i]? := box_cells J5.out.bx
  have fB5 := frozen_box J5.out.bx
  go_wp2_with fail
  have J5s : BxJ C n w s2 35 [.string r, .slice none 0 0, .slice none 0 0, .slice none 0 0, .slice none 0 0, .slice none 0 0, .slice none 0 0, .slice none 0 0, .slice none 0 0] (W5.setCell ⟨w.heap.size + 1, 4, none⟩ (.slice none 0 0)) := J5.out.set 4 (.slice none 0 0)
  have H5s := Lib.hid J5s
  clear J5s
  refine (turnNil_90 _ _).mono ?_
  rintro e W6 ⟨rfl, hw⟩
  have J6 : Hid (BxJ C n w s2 35 [.string r, .slice none 0 0, .slice none 0 0, .slice none 0 0, .slice none 0 0, .slice none 0 0, .slice none 0 0, .slice none 0 0, .slice none 0 0] W6) := by rw [← hw]; exact H5s.out
  clear hw cA5 cB5 fB5
  have cA6 := box_cells J6.out.bt
  have cB6 : ∀ i, W6.cell? ⟨w.heap.size + 1, i, none⟩ = (#[.string r, .slice none 0 0, .slice none 0 0, .slice none 0 0, .slice none 0 0, .slice none 0 0, .slice none 0 0, .slice none 0 0, .slice none 0 0] : Array Value)[i]? := box_cells J6.out.bx
  have fB6 := frozen_box J6.out.bx
  go_wp2_with fail
  have J6s : BxJ C n w s2 35 [.string r, .slice none 0 0, .slice none 0 0, .slice none 0 0, .slice none 0 0, .slice none 0 0, .slice none 0 0, .slice none 0 0, .slice none 0 0] (W6.setCell ⟨w.heap.size + 1, 5, none⟩ (.slice none 0 0)) := J6.out.set 5 (.slice none 0 0)
  have H6s := Lib.hid J6s
  clear J6s
  refine (turnNil_92 _ _).mono ?_
  rintro e W7 ⟨rfl, hw⟩
  have J7 : Hid (BxJ C n w s2 35 [.string r, .slice none 0 0, .slice none 0 0, .slice none 0 0, .slice none 0 0, .slice none 0 0, .slice none 0 0, .slice none 0 0, .slice none 0 0] W7) := by rw [← hw]; exact H6s.out
  clear hw cA6 cB6 fB6
  have cA7 := box_cells J7.out.bt
  have cB7 : ∀ i, W7.cell? ⟨w.heap.size + 1, i, none⟩ = (#[.string r, .slice none 0 0, .slice none 0 0, .slice none 0 0, .slice none 0 0, .slice none 0 0, .slice none 0 0, .slice none 0 0, .slice none 0 0] : Array Value)[i]? := box_cells J7.out.bx
  have fB7 := frozen_box J7.out.bx
  go_wp2_with fail
  have J7s : BxJ C n w s2 35 [.string r, .slice none 0 0, .slice none 0 0, .slice none 0 0, .slice none 0 0, .slice none 0 0, .slice none 0 0, .slice none 0 0, .slice none 0 0] (W7.setCell ⟨w.heap.size + 1, 6, none⟩ (.slice none 0 0)) := J7.out.set 6 (.slice none 0 0)
  have H7s := Lib.hid J7s
  clear J7s
  refine (turnNil_94 _ _).mono ?_
  rintro e W8 ⟨rfl, hw⟩
  have J8 : Hid (BxJ C n w s2 35 [.string r, .slice none 0 0, .slice none 0 0, .slice none 0 0, .slice none 0 0, .slice none 0 0, .slice none 0 0, .slice none 0 0, .slice none 0 0] W8) := by rw [← hw]; exact H7s.out
  clear hw cA7 cB7 fB7
  have cA8 := box_cells J8.out.bt
  have cB8 : ∀ i, W8.cell? ⟨w.heap.size + 1, i, none⟩ = (#[.string r, .slice none 0 0, .slice none 0 0, .slice none 0 0, .slice none 0 0, .slice none 0 0, .slice none 0 0, .slice none 0 0, .slice none 0 0] : Array Value)[i]? := box_cells J8.out.bx
  have fB8 := frozen_box J8.out.bx
  go_wp2_with fail
  have J8s : BxJ C n w s2 35 [.string r, .slice none 0 0, .slice none 0 0, .slice none 0 0, .slice none 0 0, .slice none 0 0, .slice none 0 0, .slice none 0 0, .slice none 0 0] (W8.setCell ⟨w.heap.size + 1, 7, none⟩ (.slice none 0 0)) := J8.out.set 7 (.slice none 0 0)
  have H8s := Lib.hid J8s
  clear J8s
  refine (tnotesNil g c1 c2 _).mono ?_
  rintro e W9 ⟨rfl, b⟩
  have J9 := Lib.hid (H8s.out.below b)
  clear b cA8 cB8 fB8
  have cA9 := box_cells J9.out.bt
  have cB9 : ∀ i, W9.cell? ⟨w.heap.size + 1, i, none⟩ = (#[.string r, .slice none 0 0, .slice none 0 0, .slice none 0 0, .slice none 0 0, .slice none 0 0, .slice none 0 0, .slice none 0 0, .slice none 0 0] : Array Value)[i]? := box_cells J9.out.bx
  have fB9 := frozen_box J9.out.bx
  have JL : BxJ C n w s2 35 [.string r, .slice none 0 0, .slice none 0 0, .slice none 0 0, .slice none 0 0, .slice none 0 0, .slice none 0 0, .slice none 0 0, .slice none 0 0] (W9.setCell ⟨w.heap.size + 1, 8, none⟩ (.slice none 0 0)) := J9.out.set 8 (.slice none 0 0)
  have HL := Lib.hid JL
  have CL := Lib.hid (show ∀ (i : Nat) (v : Value), ([.string r, .slice none 0 0, .slice none 0 0, .slice none 0 0, .slice none 0 0, .slice none 0 0, .slice none 0 0, .slice none 0 0, .slice none 0 0] : List Value)[i]? = some v → (W9.setCell ⟨w.heap.size + 1, 8, none⟩ (.slice none 0 0)).cell? ⟨w.heap.size + 1, 0 + i, none⟩ = some v from fun i v hv => by rw [box_cells JL.bx, Nat.zero_add]; simpa using hv)
  obtain ⟨zs, z1, z2⟩ := JL.br
  have Z1 := Lib.hid (show zs.length = 9 from z1)
  have LN := Lib.hid (show ([.string r, .slice none 0 0, .slice none 0 0, .slice none 0 0, .slice none 0 0, .slice none 0 0, .slice none 0 0, .slice none 0 0, .slice none 0 0] : List Value).length = 9 from rfl)
  have ON := Lib.hid (show ∀ v ∈ ([.string r, .slice none 0 0, .slice none 0 0, .slice none 0 0, .slice none 0 0, .slice none 0 0, .slice none 0 0, .slice none 0 0, .slice none 0 0] : List Value), v.oneCell' = true by intro v hv; simp at hv; rcases hv with rfl | rfl <;> rfl)
  have Z2 := Lib.hid z2
  clear JL z1 z2
  go_wp2_with (first
    | ((with_reducible refine wp_loadAgg (o := ⟨some 54, _, _, _, _, _⟩) rfl (.tmp 3) 35 rfl 9 Tryz.isAgg35 Tryz.sizeOf35 (w.heap.size + 1) 0 ?_ [.string r, .slice none 0 0, .slice none 0 0, .slice none 0 0, .slice none 0 0, .slice none 0 0, .slice none 0 0, .slice none 0 0, .slice none 0 0] LN.out CL.out ?_); rfl)
    | ((with_reducible refine wp_storeOld (o := ⟨none, .store 35 (.tmp 4) (.tmp 54), _, _, _, _⟩) rfl (.tmp 4) (.tmp 54) 35 rfl 9 Tryz.sizeOf35 (w.heap.size + 2) zs Z1.out 35 Z2.out ?_ [.string r, .slice none 0 0, .slice none 0 0, .slice none 0 0, .slice none 0 0, .slice none 0 0, .slice none 0 0, .slice none 0 0, .slice none 0 0] ?_ LN.out ON.out ?_); rfl; rfl))
  refine bodyPost_ret (v := .agg ⟨[.string r, .slice none 0 0, .slice none 0 0, .slice none 0 0, .slice none 0 0, .slice none 0 0, .slice none 0 0, .slice none 0 0, .slice none 0 0]⟩) ?_ rfl ?_
  · exact results_cell (i := 4) (b := w.heap.size + 2) Tryz.results51 Tryz.isAgg35 Tryz.sizeOf35 rfl rfl HL.out.last.1
  · exact ⟨by rw [HRR.out], by rw [HS2.out]; exact HL.out.last.2.1, HL.out.last.2.2⟩
end Go.Proofs.YtciijpahjjoppaaGreat
end
section
namespace Go.Proofs.YtciijpahjjoppaaGreat
open Go.RowKit Go.Deep Go.Shelf Go.Maps

theorem Kept.toBelow {O : World → Nat → Prop} {hi n : Nat} {w w' W : World} (h : Kept O hi w w') (b : Below n W w) (hn : n ≤ W.heap.size) (hO : ∀ c, c < n → ¬ O w c) : Below n W w' :=
  ⟨h.os.trans b.os, h.tape.trans b.tape, h.output.trans b.output, Nat.le_trans b.size h.size, fun c hc => (h.block c (Nat.lt_of_lt_of_le (by omega) b.size) (hO c hc)).trans (b.block c hc)⟩
theorem namesW0 (w : World) (A : Obj) (F : Array Value) (n : Nat) (hn : n ≤ 3000000) : NamesI (w.heap.size + 1) n [] (((((w.alloc A).alloc (.cells #[.slice none 0 0] 29)).alloc (.map #[] 0)).alloc (.cells #[.map (some (w.heap.size + 1 + 1))] 92)).alloc (.cells F 97)) := by
  obtain ⟨w1, e1⟩ : ∃ w1, w1 = w.alloc A := ⟨_, rfl⟩
  obtain ⟨w2, e2⟩ : ∃ w2, w2 = w1.alloc (.cells #[.slice none 0 0] 29) := ⟨_, rfl⟩
  obtain ⟨w3, e3⟩ : ∃ w3, w3 = w2.alloc (.map #[] 0) := ⟨_, rfl⟩
  obtain ⟨w4, e4⟩ : ∃ w4, w4 = w3.alloc (.cells #[.map (some (w.heap.size + 1 + 1))] 92) := ⟨_, rfl⟩
  obtain ⟨w5, e5⟩ : ∃ w5, w5 = w4.alloc (.cells F 97) := ⟨_, rfl⟩
  rw [← e1, ← e2, ← e3, ← e4, ← e5]
  have z1 : w1.heap.size = w.heap.size + 1 := by rw [e1, World.size_alloc]
  have z2 : w2.heap.size = w.heap.size + 2 := by rw [e2, World.size_alloc, z1]
  have z3 : w3.heap.size = w.heap.size + 3 := by rw [e3, World.size_alloc, z2]
  have z4 : w4.heap.size = w.heap.size + 4 := by rw [e4, World.size_alloc, z3]
  have z5 : w5.heap.size = w.heap.size + 5 := by rw [e5, World.size_alloc, z4]
  have b3 : Below w2.heap.size w2 w3 := by rw [e3]; exact (Below.refl _ _).alloc (Nat.le_refl _) _
  have b4 : Below w3.heap.size w3 w4 := by rw [e4]; exact (Below.refl _ _).alloc (Nat.le_refl _) _
  have b5 : Below w4.heap.size w4 w5 := by rw [e5]; exact (Below.refl _ _).alloc (Nat.le_refl _) _
  have h2 : w2.heap[w.heap.size + 1]? = some (.cells #[.slice none 0 0] 29) := by rw [e2, ← z1]; exact heap_new _ _
  have h4 : w4.heap[w.heap.size + 3]? = some (.cells #[.map (some (w.heap.size + 1 + 1))] 92) := by rw [e4, ← z3]; exact heap_new _ _
  have hm : w3.ownsMap Tryz.prog 9 (unitElem (H := Unit)) (w.heap.size + 2) 0 (.map []) := by rw [e3, ← z2]; exact World.ownsMap_made _ _ _ _
  refine ⟨by omega, by simpa using hn, by simp, ownsMap_same hm ((b5.block _ (by omega)).trans (b4.block _ (by omega))), (b5.block _ (by omega)).trans h4, .slice none 0 0, ?_, World.ownsRow_nil _ _ _ _⟩
  exact ((b5.block _ (by omega)).trans ((b4.block _ (by omega)).trans (b3.block _ (by omega)))).trans h2
theorem below5 (w : World) (A B C D E : Obj) : Below w.heap.size w (((((w.alloc A).alloc B).alloc C).alloc D).alloc E) :=
  (((((Below.refl _ w).alloc (Nat.le_refl _) A).alloc (by simp) B).alloc (by simp; omega) C).alloc (by simp; omega) D).alloc (by simp; omega) E
theorem ownS_mono {b b' : Nat} {w : World} {v : Value} {ss : List ByteArray} (h : w.ownsRow b 9 1 v ss.length (ss.map Value.string)) (hb : b' ≤ b) : OwnS b' w v ss := by
  refine ⟨h.1, ?_⟩
  rcases h.2 with h4 | ⟨g, cap, cur, hv, hb', r⟩
  · exact .inl h4
  · exact .inr ⟨g, cap, cur, hv, Nat.le_trans hb hb', r⟩
/-- What Names leaves. -/
def NamPost (ns : List ByteArray) (w : World) (e : Ending) (w' : World) : Prop := ∃ v, e = .returned v ∧ OwnS w.heap.size w' v ns ∧ Below w.heap.size w w'
set_option maxRecDepth 100000 in
set_option maxHeartbeats 4000000 in
theorem namesEmp (nm : ByteArray) (w : World) (hs : nm.size ≤ lim) (hpl : (parts nm).length ≤ 3000000) : Calls Tryz.prog 19 #[.agg #[.string nm, .slice none 0 0, .slice none 0 0, .slice none 0 0, .slice none 0 0, .slice none 0 0, .slice none 0 0, .slice none 0 0, .slice none 0 0]] w (NamPost ((namClo (w.heap.size + 1)).nm [] nm).2 w) := by
  have hmm := @run_makeMap Tryz.prog
  go_enter Tryz.func19, Tryz.ntmps19
  have LN := Lib.hid (show ([.func (.func 50) #[] #[.pointer (some ⟨w.heap.size + 1 + 1 + 1, 0, none⟩), .pointer (some ⟨w.heap.size + 1, 0, none⟩)]] : List Value).length = 1 from rfl)
  have ON := Lib.hid (show ∀ v ∈ ([.func (.func 50) #[] #[.pointer (some ⟨w.heap.size + 1 + 1 + 1, 0, none⟩), .pointer (some ⟨w.heap.size + 1, 0, none⟩)]] : List Value), v.oneCell' = true by intro v hv; simp at hv; subst hv; rfl)
  go_wp2_with (first
    | ((with_reducible refine wp_storeNew (o := ⟨none, .store 97 (.tmp 5) (.tmp 8), _, _, _, _⟩) rfl (.tmp 5) (.tmp 8) 97 rfl 1 Tryz.sizeOf97 _ ?_ ?_ [.func (.func 50) #[] #[.pointer (some ⟨w.heap.size + 1 + 1 + 1, 0, none⟩), .pointer (some ⟨w.heap.size + 1, 0, none⟩)]] ?_ LN.out ON.out ?_); rfl; (simp only [World.size_alloc]; rfl); rfl))
  have I0 := Lib.hid (namesW0 w (.cells #[.string nm, .slice none 0 0, .slice none 0 0, .slice none 0 0, .slice none 0 0, .slice none 0 0, .slice none 0 0, .slice none 0 0, .slice none 0 0] 35) #[.func (.func 50) #[] #[.pointer (some ⟨w.heap.size + 1 + 1 + 1, 0, none⟩), .pointer (some ⟨w.heap.size + 1, 0, none⟩)]] (0 + (parts nm).length) (by omega))
  have B0 := Lib.hid (below5 w (.cells #[.string nm, .slice none 0 0, .slice none 0 0, .slice none 0 0, .slice none 0 0, .slice none 0 0, .slice none 0 0, .slice none 0 0, .slice none 0 0] 35) (.cells #[.slice none 0 0] 29) (.map #[] 0) (.cells #[.map (some (w.heap.size + 1 + 1))] 92) (.cells #[.func (.func 50) #[] #[.pointer (some ⟨w.heap.size + 1 + 1 + 1, 0, none⟩), .pointer (some ⟨w.heap.size + 1, 0, none⟩)]] 97))
  refine (turnEmp (namClo (w.heap.size + 1)) (.inl rfl) 0 [] nm _ I0.out hs).mono ?_
  rintro e W1 ⟨rfl, i1, k1⟩
  have B1 := Lib.hid (k1.toBelow B0.out (Nat.le_refl _) (fun c hc ho => by have := ((namClo (w.heap.size + 1)).ltO I0.out ho).1; have : w.heap.size + 1 ≤ c := this; omega))
  have I1 : NamesI (w.heap.size + 1) 0 ((namClo (w.heap.size + 1)).nm [] nm).2 W1 := i1
  obtain ⟨v, hv, hr⟩ := I1.row
  have HR := Lib.hid hr
  have cv := hv.cell
  clear I1 i1 k1 hr hv
  go_wp2_with fail
  go_ret
  exact ⟨v, rfl, ownS_mono HR.out (by omega), B1.out⟩

def renPart (ps : List (ByteArray × ByteArray)) (x : ByteArray) : ByteArray := if x.size = 0 then x else renOf ps x
def renName (ps : List (ByteArray × ByteArray)) (s : ByteArray) : ByteArray := joinD ((parts s).map (renPart ps))
theorem ren_pts (r : RenB) (l : List ByteArray) : (renClo r).pts () l = (l.map (renPart r.ps), ()) := by
  induction l with
  | nil => rfl
  | cons x l ih =>
    show (((renClo r).pt () x).1 :: ((renClo r).pts () l).1, ()) = _
    rw [ih]
    have : ((renClo r).pt () x).1 = renPart r.ps x := by
      unfold Clo.pt renPart
      split <;> rfl
    rw [this]
    rfl
theorem ren_nm (r : RenB) (s : ByteArray) : (renClo r).nm () s = (renName r.ps s, ()) := by
  unfold Clo.nm renName
  rw [ren_pts]
theorem renW0 (w w3 : World) (a : Option Addr) (len cap : Nat) (ps : List (ByteArray × ByteArray)) (F : Array Value) (hP : PairsAt w a len cap ps) (hl : w.heap.size + 4 ≤ w3.heap.size) (hb : ∀ b, b < w.heap.size → w3.heap[b]? = w.heap[b]?) (h1 : w3.heap[w.heap.size + 1]? = some (.cells #[.slice a len cap] 44)) (hm : ∃ D n, MapAt w3 (w.heap.size + 3) n D ∧ FirstD D ps) :
    RenI ⟨w.heap.size + 1, w.heap.size + 3, w3.heap.size, w.heap.size + 1, w3.heap.size + 2, a, len, cap, ps⟩ ((w3.alloc (.cells #[.map (some (w.heap.size + 3))] 106)).alloc (.cells F 97)) := by
  have b2 := ((Below.refl w3.heap.size w3).alloc (Nat.le_refl _) (.cells #[.map (some (w.heap.size + 3))] 106)).alloc (by simp) (.cells F 97)
  obtain ⟨D, n, hm1, hm2⟩ := hm
  refine ⟨⟨Nat.le_refl _, ?_⟩, ⟨?_, ?_⟩, ⟨?_, ?_⟩, ?_, (b2.block (w.heap.size + 1) (by omega)).trans h1, box_first w3 _ _, ⟨D, n, ownsMap_same hm1 (b2.block (w.heap.size + 3) (by omega)), hm2⟩, ?_, ?_⟩
  · show w.heap.size + 1 < w3.heap.size + 2; omega
  · show w.heap.size + 1 ≤ w.heap.size + 3; omega
  · show w.heap.size + 3 < w3.heap.size + 2; omega
  · show w.heap.size + 1 ≤ w3.heap.size; omega
  · show w3.heap.size < w3.heap.size + 2; omega
  · show w3.heap.size + 2 ≤ _; simp
  · exact hP.kept (by have := b2.size; omega) fun b hb' => (b2.block b (by omega)).trans (hb b hb')
  · intro b o e h0
    show b < w.heap.size + 1
    have e' : a = some ⟨b, o, none⟩ := e
    have h0' : 0 < len := h0
    rcases hP.2.2.2.2 with h | ⟨b', o', e2, hb', _⟩
    · omega
    · rw [e'] at e2
      cases e2
      omega
set_option maxRecDepth 100000 in
set_option maxHeartbeats 4000000 in
theorem renameEmp (nm : ByteArray) (a : Option Addr) (len cap : Nat) (ps : List (ByteArray × ByteArray)) (w : World) (hs : nm.size ≤ lim) (hP : PairsAt w a len cap ps) : Calls Tryz.prog 22 #[.agg #[.string nm, .slice none 0 0, .slice none 0 0, .slice none 0 0, .slice none 0 0, .slice none 0 0, .slice none 0 0, .slice none 0 0, .slice none 0 0], .slice a len cap] w fun e w' => e = .returned (.agg #[.string (renName ps nm), .slice none 0 0, .slice none 0 0, .slice none 0 0, .slice none 0 0, .slice none 0 0, .slice none 0 0, .slice none 0 0, .slice none 0 0]) ∧ Below w.heap.size w w' := by
  have HP := Lib.hid hP
  clear hP
  obtain ⟨w0, hw0⟩ : ∃ w0, w0 = ((w.alloc (.cells #[.string nm, .slice none 0 0, .slice none 0 0, .slice none 0 0, .slice none 0 0, .slice none 0 0, .slice none 0 0, .slice none 0 0, .slice none 0 0] 35)).alloc (.cells #[.slice a len cap] 44)).alloc (.cells #[.string ⟨#[]⟩, .slice none 0 0, .slice none 0 0, .slice none 0 0, .slice none 0 0, .slice none 0 0, .slice none 0 0, .slice none 0 0, .slice none 0 0] 35) := ⟨_, rfl⟩
  have B0 : Below w.heap.size w w0 := by rw [hw0]; exact (((Below.refl _ w).alloc (Nat.le_refl _) _).alloc (by simp) _).alloc (by simp; omega) _
  have z0 : w0.heap.size = w.heap.size + 3 := by rw [hw0]; simp
  have a3 := (Below.refl ((w.alloc (.cells #[.string nm, .slice none 0 0, .slice none 0 0, .slice none 0 0, .slice none 0 0, .slice none 0 0, .slice none 0 0, .slice none 0 0, .slice none 0 0] 35)).alloc (.cells #[.slice a len cap] 44)).heap.size ((w.alloc (.cells #[.string nm, .slice none 0 0, .slice none 0 0, .slice none 0 0, .slice none 0 0, .slice none 0 0, .slice none 0 0, .slice none 0 0, .slice none 0 0] 35)).alloc (.cells #[.slice a len cap] 44))).alloc (Nat.le_refl _) (.cells #[.string ⟨#[]⟩, .slice none 0 0, .slice none 0 0, .slice none 0 0, .slice none 0 0, .slice none 0 0, .slice none 0 0, .slice none 0 0, .slice none 0 0] 35)
  have k0 : w0.heap[w.heap.size]? = some (.cells #[.string nm, .slice none 0 0, .slice none 0 0, .slice none 0 0, .slice none 0 0, .slice none 0 0, .slice none 0 0, .slice none 0 0, .slice none 0 0] 35) := by rw [hw0]; exact (a3.block _ (by simp; omega)).trans (box_first w _ _)
  have k1 : w0.heap[w.heap.size + 1]? = some (.cells #[.slice a len cap] 44) := by rw [hw0]; exact (a3.block _ (by simp)).trans (box_second w _ _)
  have k2 : w0.heap[w.heap.size + 2]? = some (.cells #[.string ⟨#[]⟩, .slice none 0 0, .slice none 0 0, .slice none 0 0, .slice none 0 0, .slice none 0 0, .slice none 0 0, .slice none 0 0, .slice none 0 0] 35) := by
    have := heap_new ((w.alloc (.cells #[.string nm, .slice none 0 0, .slice none 0 0, .slice none 0 0, .slice none 0 0, .slice none 0 0, .slice none 0 0, .slice none 0 0, .slice none 0 0] 35)).alloc (.cells #[.slice a len cap] 44)) (.cells #[.string ⟨#[]⟩, .slice none 0 0, .slice none 0 0, .slice none 0 0, .slice none 0 0, .slice none 0 0, .slice none 0 0, .slice none 0 0, .slice none 0 0] 35)
    simp only [World.size_alloc] at this
    rw [hw0]
    exact this
  have HB0 := Lib.hid B0
  have Z0 := Lib.hid z0
  have K0 := Lib.hid k0
  have K1 := Lib.hid k1
  have K2 := Lib.hid k2
  have HW0 := Lib.hid hw0
  clear B0 z0 k0 k1 k2 a3 hw0
  go_enter Tryz.func22, Tryz.ntmps22
  go_wp2_with fail
  rw [← HW0.out]
  refine (firstOf_any a len cap ps w0 (HP.out.kept HB0.out.size fun b hb => HB0.out.block b hb)).mono ?_
  rw [Z0.out]
  rintro e w3 ⟨rfl, hm, b3⟩
  have S3 : w.heap.size + 4 ≤ w3.heap.size := by
    obtain ⟨D, n, h1, _⟩ := hm
    have hlt : w.heap.size + 3 < w3.heap.size := by
      have h1' : w3.ownsMap Tryz.prog 9 (plainElem Tryz.prog 3) (w.heap.size + 3) n D := h1
      unfold World.ownsMap at h1'
      obtain ⟨es, c, h2, _⟩ := h1'
      exact heap_lt h2
    omega
  have kp : w3.heap[w.heap.size]? = some (.cells #[.string nm, .slice none 0 0, .slice none 0 0, .slice none 0 0, .slice none 0 0, .slice none 0 0, .slice none 0 0, .slice none 0 0, .slice none 0 0] 35) := (b3.block _ (by omega)).trans K0.out
  have B3 := Lib.hid (show Below w.heap.size w w3 from HB0.out.trans (b3.mono (by omega)))
  have K13 := Lib.hid ((b3.block _ (show w.heap.size + 1 < w.heap.size + 3 by omega)).trans K1.out)
  have K23 := Lib.hid ((b3.block _ (show w.heap.size + 2 < w.heap.size + 3 by omega)).trans K2.out)
  have HM := Lib.hid hm
  have cp := box_cells kp
  have KP := Lib.hid kp
  clear hm b3 kp
  have LN := Lib.hid (show ([.func (.func 59) #[] #[.pointer (some ⟨w3.heap.size, 0, none⟩), .pointer (some ⟨w.heap.size + 1, 0, none⟩)]] : List Value).length = 1 from rfl)
  have ON := Lib.hid (show ∀ v ∈ ([.func (.func 59) #[] #[.pointer (some ⟨w3.heap.size, 0, none⟩), .pointer (some ⟨w.heap.size + 1, 0, none⟩)]] : List Value), v.oneCell' = true by intro v hv; simp at hv; subst hv; rfl)
  have b5 := ((Below.refl w3.heap.size w3).alloc (Nat.le_refl _) (.cells #[.map (some (w.heap.size + 3))] 106)).alloc (by simp) (.cells #[.func (.func 59) #[] #[.pointer (some ⟨w3.heap.size, 0, none⟩), .pointer (some ⟨w.heap.size + 1, 0, none⟩)]] 97)
  have C5 := Lib.hid (show ∀ (j : Nat) (v : Value), ([.string nm, .slice none 0 0, .slice none 0 0, .slice none 0 0, .slice none 0 0, .slice none 0 0, .slice none 0 0, .slice none 0 0, .slice none 0 0] : List Value)[j]? = some v → ((w3.alloc (.cells #[.map (some (w.heap.size + 3))] 106)).alloc (.cells #[.func (.func 59) #[] #[.pointer (some ⟨w3.heap.size, 0, none⟩), .pointer (some ⟨w.heap.size + 1, 0, none⟩)]] 97)).cell? ⟨w.heap.size, 0 + j, none⟩ = some v from fun j v hv => by
    rw [box_cells ((b5.block _ (heap_lt KP.out)).trans KP.out), Nat.zero_add]
    simpa using hv)
  have L9 := Lib.hid (show ([.string nm, .slice none 0 0, .slice none 0 0, .slice none 0 0, .slice none 0 0, .slice none 0 0, .slice none 0 0, .slice none 0 0, .slice none 0 0] : List Value).length = 9 from rfl)
  have I5 := Lib.hid (renW0 w w3 a len cap ps #[.func (.func 59) #[] #[.pointer (some ⟨w3.heap.size, 0, none⟩), .pointer (some ⟨w.heap.size + 1, 0, none⟩)]] HP.out S3 (fun b hb => B3.out.block b hb) K13.out HM.out)
  have B5 := Lib.hid (B3.out.trans (b5.mono B3.out.size))
  have K25 := Lib.hid ((b5.block _ (heap_lt K23.out)).trans K23.out)
  clear b5
  go_wp2_with (first
    | ((with_reducible refine wp_storeNew (o := ⟨none, .store 97 (.tmp 6) (.tmp 10), _, _, _, _⟩) rfl (.tmp 6) (.tmp 10) 97 rfl 1 Tryz.sizeOf97 _ ?_ ?_ [.func (.func 59) #[] #[.pointer (some ⟨w3.heap.size, 0, none⟩), .pointer (some ⟨w.heap.size + 1, 0, none⟩)]] ?_ LN.out ON.out ?_); rfl; (simp only [World.size_alloc]; rfl); rfl)
    | ((with_reducible refine wp_loadAgg (o := ⟨some 12, _, _, _, _, _⟩) rfl (.tmp 2) 35 rfl 9 Tryz.isAgg35 Tryz.sizeOf35 w.heap.size 0 ?_ [.string nm, .slice none 0 0, .slice none 0 0, .slice none 0 0, .slice none 0 0, .slice none 0 0, .slice none 0 0, .slice none 0 0, .slice none 0 0] L9.out C5.out ?_); rfl))
  refine (turnEmp (renClo ⟨w.heap.size + 1, w.heap.size + 3, w3.heap.size, w.heap.size + 1, w3.heap.size + 2, a, len, cap, ps⟩) (.inr rfl) 0 () nm _ I5.out hs).mono ?_
  rw [ren_nm]
  rintro e W6 ⟨rfl, _, k6⟩
  have hnO : ∀ c, c < w.heap.size ∨ c = w.heap.size + 2 → ¬ RenO ⟨w.heap.size + 1, w.heap.size + 3, w3.heap.size, w.heap.size + 1, w3.heap.size + 2, a, len, cap, ps⟩ ((w3.alloc (.cells #[.map (some (w.heap.size + 3))] 106)).alloc (.cells #[.func (.func 59) #[] #[.pointer (some ⟨w3.heap.size, 0, none⟩), .pointer (some ⟨w.heap.size + 1, 0, none⟩)]] 97)) c := fun c hc ho => by
    have ho' : c = w.heap.size + 1 ∨ c = w.heap.size + 3 ∨ c = w3.heap.size := ho
    omega
  have B6 := Lib.hid (k6.toBelow B5.out (Nat.le_refl _) (fun c hc => hnO c (.inl hc)))
  have K26 := Lib.hid ((k6.block (w.heap.size + 2) (heap_lt K25.out) (hnO _ (.inr rfl))).trans K25.out)
  clear hnO k6 cp
  have LZ := Lib.hid (show ([.string ⟨#[]⟩, .slice none 0 0, .slice none 0 0, .slice none 0 0, .slice none 0 0, .slice none 0 0, .slice none 0 0, .slice none 0 0, .slice none 0 0] : List Value).length = 9 from rfl)
  have LR := Lib.hid (show ([.string (renName ps nm), .slice none 0 0, .slice none 0 0, .slice none 0 0, .slice none 0 0, .slice none 0 0, .slice none 0 0, .slice none 0 0, .slice none 0 0] : List Value).length = 9 from rfl)
  have OR := Lib.hid (show ∀ v ∈ ([.string (renName ps nm), .slice none 0 0, .slice none 0 0, .slice none 0 0, .slice none 0 0, .slice none 0 0, .slice none 0 0, .slice none 0 0, .slice none 0 0] : List Value), v.oneCell' = true by intro v hv; simp at hv; rcases hv with rfl | rfl <;> rfl)
  go_wp2_with (first
    | ((with_reducible refine wp_storeOld (o := ⟨none, .store 35 (.tmp 4) (.tmp 13), _, _, _, _⟩) rfl (.tmp 4) (.tmp 13) 35 rfl 9 Tryz.sizeOf35 (w.heap.size + 2) [.string ⟨#[]⟩, .slice none 0 0, .slice none 0 0, .slice none 0 0, .slice none 0 0, .slice none 0 0, .slice none 0 0, .slice none 0 0, .slice none 0 0] LZ.out 35 K26.out ?_ [.string (renName ps nm), .slice none 0 0, .slice none 0 0, .slice none 0 0, .slice none 0 0, .slice none 0 0, .slice none 0 0, .slice none 0 0, .slice none 0 0] ?_ LR.out OR.out ?_); rfl; rfl))
  refine bodyPost_ret (v := .agg ⟨[.string (renName ps nm), .slice none 0 0, .slice none 0 0, .slice none 0 0, .slice none 0 0, .slice none 0 0, .slice none 0 0, .slice none 0 0, .slice none 0 0]⟩) ?_ rfl ?_
  · exact results_cell (i := 4) (b := w.heap.size + 2) Tryz.results22 Tryz.isAgg35 Tryz.sizeOf35 rfl rfl (setCells_heap [.string (renName ps nm), .slice none 0 0, .slice none 0 0, .slice none 0 0, .slice none 0 0, .slice none 0 0, .slice none 0 0, .slice none 0 0, .slice none 0 0] [] [.string ⟨#[]⟩, .slice none 0 0, .slice none 0 0, .slice none 0 0, .slice none 0 0, .slice none 0 0, .slice none 0 0, .slice none 0 0, .slice none 0 0] W6 _ K26.out rfl)
  · refine ⟨rfl, ?_⟩
    have ho := setCells_os [.string (renName ps nm), .slice none 0 0, .slice none 0 0, .slice none 0 0, .slice none 0 0, .slice none 0 0, .slice none 0 0, .slice none 0 0, .slice none 0 0] W6 (w.heap.size + 2) 0
    exact ⟨ho.1.trans B6.out.os, ho.2.1.trans B6.out.tape, ho.2.2.trans B6.out.output, by rw [setCells_size]; exact B6.out.size, fun k hk => (setCells_other _ W6 _ 0 k (by omega)).trans (B6.out.block k hk)⟩
end Go.Proofs.YtciijpahjjoppaaGreat
end
section
namespace Go.Proofs.YtciijpahjjoppaaGreat
open Go.RowKit Go.Shelf Go.Deep
section
variable {σ : Type} {g : Nat} {c1 c2 : Value}
def TPost (C : Clo σ g c1 c2) (lo n : Nat) (w : World) (x' : List D) (s' : σ) (e : Ending) (w' : World) : Prop := ∃ vs', e = .returned (.agg ⟨vs'⟩) ∧ AllAt (NewN C lo w.heap.size w') vs' x' ∧ C.I n s' w' ∧ Kept C.O C.hi w w'
def TLPost (C : Clo σ g c1 c2) (lo n : Nat) (w : World) (l' : List (List D)) (s' : σ) (e : Ending) (w' : World) : Prop := ∃ a cap, e = .returned (.slice a l'.length cap) ∧ At (NewN C lo w.heap.size w') (.slice a l'.length cap) (.row l') ∧ C.I n s' w' ∧ Kept C.O C.hi w w'
/-- A method of the turner, at an element. -/
def TFn (C : Clo σ g c1 c2) (w0 : World) (F : Nat) (f : σ → List D → List D × σ) (h : List D → List ByteArray) (x : List D) : Prop :=
  ∀ vs, AllAt w0 vs x → ∀ (n m : Nat) (st : σ) (W : World), n + (h x).length ≤ m → C.I m st W → Below w0.heap.size w0 W → Calls Tryz.prog F #[.agg #[.func (.func g) #[] #[c1, c2]], .agg ⟨vs⟩] W (TPost C w0.heap.size n W (f st x).1 (f st x).2)
theorem Clo.atLeast (C : Clo σ g c1 c2) {n m : Nat} {s : σ} {w : World} (h : C.I m s w) (hn : n ≤ m) : C.I n s w := by
  obtain ⟨e, rfl⟩ : ∃ e, m = n + e := ⟨m - n, by omega⟩
  exact C.downs h
theorem Kept.ground {C : Clo σ g c1 c2} {m : Nat} {st : σ} {w0 W W' : World} (h : Kept C.O C.hi W W') (hI : C.I m st W) (hlow : w0.heap.size ≤ C.low) (hW : Below w0.heap.size w0 W) : Below w0.heap.size w0 W' :=
  h.toBelow hW (Nat.le_refl _) fun c hc e => by have := (C.ltO hI e).1; omega
theorem Clo.al (C : Clo σ g c1 c2) {m : Nat} {st : σ} {W : World} (hI : C.I m st W) (o : Obj) : Kept C.O C.hi W (W.alloc o) ∧ C.I m st (W.alloc o) :=
  C.below (Kept.refl C.O C.hi W) hI (Nat.le_trans (C.hiI hI).1 (C.hiI hI).2) ((Below.refl _ W).alloc (Nat.le_refl _) o)
end
theorem dropC {l : List (List D)} {k : Nat} {x : List D} (hx : l[k]? = some x) : l.drop k = x :: l.drop (k + 1) := by
  obtain ⟨h, e⟩ := List.getElem?_eq_some_iff.1 hx
  rw [← e]
  exact List.drop_eq_getElem_cons h
end Go.Proofs.YtciijpahjjoppaaGreat
end
section
namespace Go.Proofs.YtciijpahjjoppaaGreat
open Go.RowKit Go.Shelf Go.Deep
set_option maxRecDepth 100000 in
theorem tnote_any (g : Nat) (c1 c2 : Value) (s : ByteArray) (w : World) : Calls Tryz.prog 124 #[.agg #[.func (.func g) #[] #[c1, c2]], .string s] w fun e w' => e = .returned (.string s) ∧ Below w.heap.size w w' := by
  have R1 := Lib.hid ((Below.refl w.heap.size w).alloc (Nat.le_refl _) (.cells #[.func (.func g) #[] #[c1, c2]] 97))
  go_enter Tryz.func124, Tryz.ntmps124
  go_wp2_with fail
  go_ret
  exact ⟨rfl, R1.out⟩
theorem tinfo9 : (Tryz.prog.info? 9).map (fun i => (i.zero, i.size, i.bytes)) = some (some (.string ⟨#[]⟩), 1, 16) := by kernel_rfl
set_option maxRecDepth 100000 in
set_option maxHeartbeats 4000000 in
theorem turnT_any {σ : Type} {g : Nat} {c1 c2 : Value} (C : Clo σ g c1 c2) (w0 : World) (hlow : w0.heap.size ≤ C.low) (a : Option Addr) (len cap : Nat) (l : List (List D)) (hA : At w0 (.slice a len cap) (.row l)) (hs : ∀ x ∈ l, ShT x) (hl2 : l.length ≤ 8000000)
    (n : Nat) (st : σ) (W : World) (hI : C.I n st W) (hW : Below w0.heap.size w0 W) :
    Calls Tryz.prog 123 #[.slice a len cap, .func (.func 124) #[.agg #[.func (.func g) #[] #[c1, c2]]] #[]] W (TLPost C w0.heap.size n W l st) := by
  have HI := Lib.hid hI
  have HA := Lib.hid hA
  cases a with
  | none =>
    have h0 : l = [] := by
      cases hA with
      | nil _ _ _ => rfl
    subst h0
    obtain rfl : len = 0 := hA.len_eq.1.symm
    have hn := eql_nil Tryz.underlying29 none 0 cap
    simp only [Option.isNone_none] at hn
    clear hA hI
    go_enter Tryz.func123, Tryz.ntmps123
    go_wp2_with fail
    go_ret
    exact ⟨none, 0, rfl, .nil none 0 (by decide), HI.out, Kept.refl _ _ _⟩
  | some ad =>
  have HS := Lib.hid hs
  have HW := Lib.hid hW
  have hle := hA.len_le
  have HL := Lib.hid hA.len_eq.1
  have hlen2 : len ≤ 8000000 := by rw [← hA.len_eq.1]; exact hl2
  have hn := eql_nil Tryz.underlying29 (some ad) len cap
  simp only [Option.isNone_some] at hn
  have eg := enters_of Tryz.func124 (by kernel_rfl) rfl
  obtain ⟨i0, hi, hz0, hz1, hz2⟩ := info_parts tinfo9
  have HLO := Lib.hid hlow
  clear hA hs hW hI hlow hl2
  go_enter Tryz.func123, Tryz.ntmps123
  go_wp2_with (first
    | (refine wp_makeRow (o := ⟨some 12, _, _, _, _, _⟩) rfl (.tmp 11) 29 9 rfl i0 _ 1 Tryz.underlying29 hi hz0 hz1 len rfl (by rw [hz2]; omega) (by unfold maxLen; omega) ?_; intro w1 hown1 hgrow1))
  have J0 := Lib.hid (TuJ.start (lo := w0.heap.size) (T := 9) (K := 1) HI.out hown1 hgrow1)
  clear hown1 hgrow1
  go_loopw [5, 15] (fun u i wr => ∃ (k : Nat) (v : Value) (vss : List (List Value)), k ≤ len ∧ v = u ∧ i = .int .i64 k ∧ Hid (TuJ C w0.heap.size n W st 9 1 v k vss (l.take k) wr)) (fun _ i _ => len - (intOf i).toNat)
  case atStart => exact ⟨0, _, [], Nat.zero_le _, rfl, rfl, J0⟩
  case round =>
    obtain ⟨k, v, vss, hk, rfl, rfl, HJ⟩ := hrel
    by_cases hlt : k < len
    · obtain ⟨b, o, vs, ds, hab, hbl, hx, hv, hc⟩ := HA.out.elem hlt
      obtain rfl : ad = ⟨b, o, none⟩ := by cases hab; rfl
      obtain ⟨s, hds, hvs, hsz⟩ := hv.openT (HS.out _ (List.mem_of_getElem? hx))
      subst hvs
      have hdl : ds.length = 1 := by rw [hds]; rfl
      rw [hdl] at hc
      have B0 := Lib.hid (HJ.out.kept.ground HI.out HLO.out HW.out)
      have hbw : b < wr.heap.size := Nat.lt_of_lt_of_le hbl B0.out.size
      have c0 := (B0.out.cell (p := ⟨b, o + k * 1, none⟩) hbl).trans (hc 0 _ rfl)
      rw [Nat.mul_one] at c0
      have TK := Lib.hid (show l.take (k + 1) = l.take k ++ [ds] by rw [List.take_add_one, hx]; rfl)
      have DL := Lib.hid hdl
      have DV := Lib.hid (show AllAt wr [.string s] ds by rw [hds]; exact ⟨.str s hsz, trivial⟩)
      have HVN := Lib.hid (fun b (hb : v.ownBlock = some b) => (rowBlock HJ.out.row hb).2.1)
      have HWR := Lib.hid (show W.heap.size ≤ wr.heap.size from HJ.out.kept.size)
      clear hdl hv hc hx hab hds
      go_wp2_with fail
      refine (tnote_any g c1 c2 s _).mono ?_
      rintro e w3 ⟨rfl, b3⟩
      have J2 := Lib.hid (HJ.out.below b3)
      have J3 := Lib.hid (J2.out.below ((Below.refl w3.heap.size w3).alloc (Nat.le_refl _) (.cells #[.string s] 9)))
      have HB3 := Lib.hid (show wr.heap.size ≤ w3.heap.size from b3.size)
      have DD := Lib.hid (show AllAt (NewN C w0.heap.size wr.heap.size (w3.alloc (.cells #[.string s] 9))) [.string s] ds by
        have := DV.out
        match ds, DL.out, this with
        | [d], _, h => exact ⟨by obtain ⟨h1, _⟩ := h; cases h1 with | str _ hh => exact .str s hh, trivial⟩)
      clear b3
      go_wp2_with (first
        | (at_builtin; refine wpList_append_own_at _ rfl _ _ 29 rfl W.heap.size 9 i0 _ 1 16 Tryz.underlying29 hi hz0 hz1 hz2 rfl (by decide) _ _ _ rfl J3.out.row ⟨w3.heap.size, 0, none⟩ 1 1 [.string s] rfl rfl (cell_one_new _ _ _) (by simp [Value.oneCell']) (by unfold maxLen; omega) (by omega) (by have := HB3.out; have := HWR.out; simp; omega) ?_; intro v' w4 hown4 hgrow4 _ hat4))
      have J4 := Lib.hid (J3.out.appended (by have := HW.out.size; omega) rfl DL.out DD.out HWR.out HVN.out hgrow4 hat4 hown4)
      clear hown4 hgrow4 hat4
      go_roundw
      case rel => exact ⟨k + 1, v', vss ++ [[.string s]], by omega, rfl, by go_num, Lib.hid (by rw [TK.out]; exact J4.out)⟩
      case measure => simp [intOf]; omega
    · obtain rfl : k = len := by omega
      obtain ⟨a', cap', hv', hat⟩ := HJ.out.done
      have hil := HJ.out.i
      have hkp := Lib.hid HJ.out.kept
      have HT := Lib.hid (show l.take k = l by rw [← HL.out, List.take_length])
      rw [HT.out] at hv' hat
      have HAT := Lib.hid hat
      have HIL := Lib.hid hil
      clear hat hil HJ
      subst hv'
      go_wp2_with fail
      go_ret
      exact ⟨a', cap', rfl, HAT.out, HIL.out, hkp.out⟩
set_option maxRecDepth 100000 in
set_option maxHeartbeats 4000000 in
theorem tnotes_any {σ : Type} {g : Nat} {c1 c2 : Value} (C : Clo σ g c1 c2) (w0 : World) (hlow : w0.heap.size ≤ C.low) (a : Option Addr) (len cap : Nat) (l : List (List D)) (hA : At w0 (.slice a len cap) (.row l)) (hs : ∀ x ∈ l, ShT x) (hl2 : l.length ≤ 8000000)
    (n : Nat) (st : σ) (W : World) (hI : C.I n st W) (hW : Below w0.heap.size w0 W) :
    Calls Tryz.prog 87 #[.agg #[.func (.func g) #[] #[c1, c2]], .slice a len cap] W (TLPost C w0.heap.size n W l st) := by
  have A1 := C.al hI (.cells #[.func (.func g) #[] #[c1, c2]] 97)
  have HT := Lib.hid (turnT_any C w0 hlow a len cap l hA hs hl2 n st _ A1.2 (hW.alloc hW.size (.cells #[.func (.func g) #[] #[c1, c2]] 97)))
  have K1 := Lib.hid A1.1
  have CA := box_cells (heap_new W (.cells #[.func (.func g) #[] #[c1, c2]] 97))
  clear A1 hA hs hI hW
  go_enter Tryz.func87, Tryz.ntmps87
  go_wp2_with fail
  refine HT.out.mono ?_
  rintro e w3 ⟨a', cap', rfl, hat, i3, k3⟩
  have HAT := Lib.hid (hat.sub (newN_less (n' := W.heap.size) (by simp)))
  have HI3 := Lib.hid i3
  have HK := Lib.hid (K1.out.trans k3)
  clear hat i3 k3 CA
  go_wp2_with fail
  go_ret
  exact ⟨a', cap', rfl, HAT.out, HI3.out, HK.out⟩
end Go.Proofs.YtciijpahjjoppaaGreat
end
section
namespace Go.Proofs.YtciijpahjjoppaaGreat
open Go.RowKit Go.Shelf Go.Deep

theorem AllAt.set {w : World} : ∀ {vs : List Value} {ds : List D} (j : Nat) (v : Value) (d : D), AllAt w vs ds → At w v d → AllAt w (vs.set j v) (ds.set j d)
  | [], [], _, _, _, _, _ => trivial
  | _ :: _, _ :: _, 0, _, _, h, hv => ⟨hv, h.2⟩
  | _ :: _, _ :: _, j + 1, v, d, h, hv => ⟨h.1, AllAt.set j v d h.2 hv⟩
  | [], _ :: _, _, _, _, h, _ => h.elim
  | _ :: _, [], _, _, _, h, _ => h.elim
section
variable {σ : Type} {g : Nat} {c1 c2 : Value}
structure BxD (C : Clo σ g c1 c2) (lo m : Nat) (w : World) (st : σ) (T : TypeId) (cs : List Value) (ds : List D) (W : World) : Prop where
  j : BxJ C m w st T cs W
  d : AllAt (NewN C lo (w.heap.size + 3) W) cs ds
theorem BxD.start (C : Clo σ g c1 c2) {w0 : World} (hlow : w0.heap.size ≤ C.low) {k : Nat} {w : World} {st : σ} {T : TypeId} {cs : Array Value} {ds : List D} {zs : Array Value} (hz : zs.size = cs.size) (h : C.I k st w) (hW : Below w0.heap.size w0 w) (hd : AllAt w0 cs.toList ds) :
    BxD C w0.heap.size k w st T cs.toList ds (((w.alloc (.cells #[.func (.func g) #[] #[c1, c2]] 97)).alloc (.cells cs T)).alloc (.cells zs T)) := by
  have J := BxJ.start C hz h (T := T)
  exact ⟨J, hd.sub (newN_ground J.i hlow (J.kept.ground h hlow hW))⟩
theorem BxD.called {C : Clo σ g c1 c2} {lo m m' : Nat} {w : World} {st st' : σ} {T : TypeId} {cs : List Value} {ds : List D} {W W' : World} (h : BxD C lo m w st T cs ds W) (hk : Kept C.O C.hi W W') (hi : C.I m' st' W') : BxD C lo m' w st' T cs ds W' :=
  ⟨h.j.called hk hi, h.d.sub (newN_kept hk)⟩
theorem BxD.set {C : Clo σ g c1 c2} {lo m : Nat} {w : World} {st : σ} {T : TypeId} {cs : List Value} {ds : List D} {W : World} (h : BxD C lo m w st T cs ds W) (hlo : lo ≤ w.heap.size) (i : Nat) (v : Value) (d : D) (hv : At (NewN C lo (w.heap.size + 3) W) v d) :
    BxD C lo m w st T (cs.set i v) (ds.set i d) (W.setCell ⟨w.heap.size + 1, i, none⟩ v) := by
  have J := h.j.set i v
  have hO : ∀ b, b < W.heap.size → C.O (W.setCell ⟨w.heap.size + 1, i, none⟩ v) b → C.O W b := fun b _ e => by
    refine (C.keep h.j.i (by rw [setCell_size]; exact Nat.le_refl _) (fun b hb => setCell_other i v (by have := h.j.low; omega)) (fun b hb => setCell_other i v fun e2 => h.j.n1 (by rw [e2] at hb; exact hb))).2 b e
  have S : Sub (NewN C lo (w.heap.size + 3) W) (NewN C lo (w.heap.size + 3) (W.setCell ⟨w.heap.size + 1, i, none⟩ v)) :=
    newN_step (by rw [setCell_size]; exact Nat.le_refl _) hO fun b _ h1 _ => setCell_other i v fun e => h1 (by omega)
  exact ⟨J, AllAt.set i v d (h.d.sub S) (hv.sub S)⟩
theorem BxD.last {C : Clo σ g c1 c2} {lo m : Nat} {w : World} {st : σ} {T : TypeId} {cs : List Value} {ds : List D} {W : World} (h : BxD C lo m w st T cs ds W) (hlo : lo ≤ w.heap.size) :
    AllAt (NewN C lo w.heap.size (W.setCells (w.heap.size + 2) 0 cs)) cs ds := by
  have hO : ∀ b, b < W.heap.size → C.O (W.setCells (w.heap.size + 2) 0 cs) b → C.O W b := fun b _ e => by
    refine (C.keep h.j.i (by rw [setCells_size]; exact Nat.le_refl _) (fun b hb => setCells_other cs W _ 0 b (by have := h.j.low; omega)) (fun b hb => setCells_other cs W _ 0 b fun e2 => h.j.n2 (by rw [e2] at hb; exact hb))).2 b e
  have S : Sub (NewN C lo (w.heap.size + 3) W) (NewN C lo (w.heap.size + 3) (W.setCells (w.heap.size + 2) 0 cs)) :=
    newN_step (by rw [setCells_size]; exact Nat.le_refl _) hO fun b _ h1 _ => setCells_other cs W _ 0 b fun e => h1 (by omega)
  exact h.d.sub (S.trans (newN_less (by omega)))
end
theorem nm_small {σ : Type} {g : Nat} {c1 c2 : Value} (C : Clo σ g c1 c2) (hout : ∀ s x, x.size ≤ lim → (C.out s x).size ≤ lim) : ∀ (l : List ByteArray) (s : σ), (∀ x ∈ l, x.size ≤ lim) → ∀ y ∈ (C.pts s l).1, y.size ≤ lim
  | [], _, _, y, hy => by simp [Clo.pts] at hy
  | x :: l, s, hl, y, hy => by
    rw [Clo.pts, List.mem_cons] at hy
    rcases hy with rfl | hy
    · unfold Clo.pt
      split
      · exact hl x (by simp)
      · exact hout s x (hl x (by simp))
    · exact nm_small C hout l _ (fun z hz => hl z (by simp [hz])) y hy
theorem nm_le {σ : Type} {g : Nat} {c1 c2 : Value} (C : Clo σ g c1 c2) (hout : ∀ s x, x.size ≤ lim → (C.out s x).size ≤ lim) (s : σ) (x : ByteArray) (hx : x.size ≤ 8000000) : (C.nm s x).1.size ≤ maxLen := by
  have h1 := nm_small C hout (parts x) s (fun p hp => by have := parts_mem x p hp; unfold lim; omega)
  have h2 := join_len ((C.pts s (parts x)).1.map (·.data.toList)) lim (fun p hp => by
    obtain ⟨q, hq, rfl⟩ := List.mem_map.1 hp
    exact h1 q hq)
  have h3 := parts_len x
  have e : (C.nm s x).1.size = (Lib.join ((C.pts s (parts x)).1.map (·.data.toList)) [36]).length := by
    show (joinD (C.pts s (parts x)).1).size = _
    unfold joinD
    simp [ByteArray.size]
  rw [e]
  rw [List.length_map, C.pts_len] at h2
  have h4 : (parts x).length * (lim + 1) ≤ 8000001 * (lim + 1) := Nat.mul_le_mul_right _ (by omega)
  unfold lim at *
  unfold maxLen
  omega
theorem mRows_len : ∀ (l : List (List D)), (∀ x ∈ l, x ≠ []) → l.length ≤ mRows l
  | [], _ => Nat.zero_le _
  | x :: l, h => by
    have h1 := mRows_len l (fun y hy => h y (by simp [hy]))
    have h2 : 1 ≤ mRow x := by
      cases x with
      | nil => exact absurd rfl (h [] (by simp))
      | cons d r => cases d <;> simp [mRow, mD] <;> omega
    simp [mRows]
    omega
end Go.Proofs.YtciijpahjjoppaaGreat
end
section
namespace Go.Proofs.YtciijpahjjoppaaGreat
open Go.RowKit Go.Shelf Go.Deep

theorem run_storeOff {w : World} {T : TypeId} {k : Nat} (hsz : ∀ w, (sizeOf T).run Tryz.prog w = .ok k w) {vs zs : List Value} (hlen : vs.length = k) {b off : Nat} {T' : TypeId} (hz : off + k ≤ zs.length) (hb : w.heap[b]? = some (.cells ⟨zs⟩ T')) (h1 : ∀ v ∈ vs, v.oneCell' = true) :
    (Instr.storeAt T (.pointer (some ⟨b, off, none⟩)) (.agg ⟨vs⟩)).run Tryz.prog w = .ok () (w.setCells b off vs) := by
  have h := run_storeCells_cells (P := Tryz.prog) b off vs 0 w (fun j hj => by
    rw [box_cells hb, Array.getElem?_eq_getElem (by simp; omega)]
    rfl) (fun j hj => by
    unfold World.frozen?
    simp [hb]) h1
  unfold Instr.storeAt storeVar
  simp [Instr.sureAddr, hsz, hlen, Value.cells, Sem.run_bind]
  rw [h]
  rfl
theorem wp_storeOff {ops : Array Oper} {rest : List Oper} {o : Oper} {a : Act} {Q : Exit → Act → World → Prop} (hgd : o.guard = none) (x y : Operand) (T : TypeId) (ho : o.op = .store T x y) (k : Nat) (hsz : ∀ w, (sizeOf T).run Tryz.prog w = .ok k w)
    {w : World} (b off : Nat) (zs : List Value) (hz : off + k ≤ zs.length) (T' : TypeId) (hb : w.heap[b]? = some (.cells ⟨zs⟩ T')) (hx : a.eval x = .pointer (some ⟨b, off, none⟩)) (vs : List Value) (hy : a.eval y = .agg ⟨vs⟩) (hlen : vs.length = k) (h1 : ∀ v ∈ vs, v.oneCell' = true)
    (hk : wpList Tryz.prog ops Q rest (a.put o.dst undef) (w.setCells b off vs)) : wpList Tryz.prog ops Q (o :: rest) a w := by
  refine wpList_plain hgd fun K hK => ?_
  unfold Oper.wp execOp
  simp only [ho, hx, hy]
  rw [Sem.run_bind, run_storeOff hsz hlen hz hb h1]
  exact hK _ _ hk
theorem owp_storeOff {o : Oper} {a : Act} {Q : Exit → Act → World → Prop} {K : Act → World → Prop} (x y : Operand) (T : TypeId) (ho : o.op = .store T x y) (k : Nat) (hsz : ∀ w, (sizeOf T).run Tryz.prog w = .ok k w)
    {w : World} (b off : Nat) (zs : List Value) (hz : off + k ≤ zs.length) (T' : TypeId) (hb : w.heap[b]? = some (.cells ⟨zs⟩ T')) (hx : a.eval x = .pointer (some ⟨b, off, none⟩)) (vs : List Value) (hy : a.eval y = .agg ⟨vs⟩) (hlen : vs.length = k) (h1 : ∀ v ∈ vs, v.oneCell' = true)
    (hk : K (a.put o.dst undef) (w.setCells b off vs)) : Oper.wp Tryz.prog o a w K Q := by
  unfold Oper.wp execOp
  simp only [ho, hx, hy]
  rw [Sem.run_bind, run_storeOff hsz hlen hz hb h1]
  exact hk
def setMany {α : Type} : List α → Nat → List α → List α
  | l, _, [] => l
  | l, i, v :: r => setMany (l.set i v) (i + 1) r
section
variable {σ : Type} {g : Nat} {c1 c2 : Value}
theorem BxD.sub1 {C : Clo σ g c1 c2} {lo m : Nat} {w : World} {st : σ} {T : TypeId} {cs : List Value} {ds : List D} {W : World} (h : BxD C lo m w st T cs ds W) (hlo : lo ≤ w.heap.size) (i : Nat) (v : Value) : Sub (NewN C lo (w.heap.size + 3) W) (NewN C lo (w.heap.size + 3) (W.setCell ⟨w.heap.size + 1, i, none⟩ v)) := by
  have hO : ∀ b, b < W.heap.size → C.O (W.setCell ⟨w.heap.size + 1, i, none⟩ v) b → C.O W b := fun b _ e => by
    refine (C.keep h.j.i (by rw [setCell_size]; exact Nat.le_refl _) (fun b hb => setCell_other i v (by have := h.j.low; omega)) (fun b hb => setCell_other i v fun e2 => h.j.n1 (by rw [e2] at hb; exact hb))).2 b e
  exact newN_step (by rw [setCell_size]; exact Nat.le_refl _) hO fun b _ h1 _ => setCell_other i v fun e => h1 (by omega)
theorem BxD.sets {C : Clo σ g c1 c2} {lo m : Nat} {w : World} {st : σ} {T : TypeId} (hlo : lo ≤ w.heap.size) : ∀ {vs : List Value} {es : List D} {cs : List Value} {ds : List D} {W : World} (i : Nat), BxD C lo m w st T cs ds W → AllAt (NewN C lo (w.heap.size + 3) W) vs es →
    BxD C lo m w st T (setMany cs i vs) (setMany ds i es) (W.setCells (w.heap.size + 1) i vs)
  | [], [], _, _, _, _, h, _ => h
  | v :: _, e :: _, _, _, _, i, h, hv => BxD.sets hlo (i + 1) (h.set hlo i v e hv.1) (AllAt.sub hv.2 (h.sub1 hlo i v))
  | [], _ :: _, _, _, _, _, _, hv => hv.elim
  | _ :: _, [], _, _, _, _, _, hv => hv.elim
theorem BxJ.stored {C : Clo σ g c1 c2} {k : Nat} {w : World} {st : σ} {T : TypeId} {cs : List Value} {W : World} (h : BxJ C k w st T cs W) (vs : List Value) (hv : vs.length = cs.length) : BxJ C k w st T cs (W.setCells (w.heap.size + 2) 0 vs) ∧ (W.setCells (w.heap.size + 2) 0 vs).heap[w.heap.size + 2]? = some (.cells ⟨vs⟩ T) := by
  obtain ⟨zs, h1, h2⟩ := h.br
  have own : ∀ b, C.O W b → (W.setCells (w.heap.size + 2) 0 vs).heap[b]? = W.heap[b]? := fun b hb => setCells_other vs W _ 0 b fun e => h.n2 (by rw [e] at hb; exact hb)
  have old : ∀ b, b < w.heap.size → (W.setCells (w.heap.size + 2) 0 vs).heap[b]? = W.heap[b]? := fun b hb => setCells_other vs W _ 0 b (by omega)
  have hs := setCells_os vs W (w.heap.size + 2) 0
  obtain ⟨k2, o2⟩ := C.keep h.i (w' := W.setCells (w.heap.size + 2) 0 vs) (by rw [setCells_size]; exact Nat.le_refl _) (fun b hb => old b (by have := h.low; omega)) own
  have kk := (C.next h.kept h.i h.low hs.1 hs.2.1 hs.2.2 (by rw [setCells_size]; exact Nat.le_refl _) own old).1
  have hh := setCells_heap vs [] zs W _ (by simpa using h2) (hv.trans h1.symm)
  exact ⟨⟨k2, (setCells_other vs W _ 0 _ (by omega)).trans h.bt, (setCells_other vs W _ 0 _ (by omega)).trans h.bx, ⟨vs, hv, by simpa using hh⟩, fun e => h.n0 (o2 _ e), fun e => h.n1 (o2 _ e), fun e => h.n2 (o2 _ e), kk, h.low, by rw [setCells_size]; exact h.sz⟩, by simpa using hh⟩
end
end Go.Proofs.YtciijpahjjoppaaGreat
end
section
namespace Go.Proofs.YtciijpahjjoppaaGreat
open Go.RowKit Go.Shelf Go.Deep

def MkPost {σ : Type} {g : Nat} {c1 c2 : Value} (C : Clo σ g c1 c2) (lo n : Nat) (w : World) (m0 m1 : List (List D)) (st : σ) (e : Ending) (w' : World) : Prop :=
  ∃ a0 cap0 a1 cap1, e = .returned (.agg ⟨[.slice a0 m0.length cap0, .slice a1 m1.length cap1]⟩) ∧ At (NewN C lo w.heap.size w') (.slice a0 m0.length cap0) (.row m0) ∧ At (NewN C lo w.heap.size w') (.slice a1 m1.length cap1) (.row m1) ∧ C.I n st w' ∧ Kept C.O C.hi w w'
set_option maxRecDepth 100000 in
set_option maxHeartbeats 4000000 in
theorem tmarks_any {σ : Type} {g : Nat} {c1 c2 : Value} (C : Clo σ g c1 c2) (w0 : World) (hlow : w0.heap.size ≤ C.low) (m0 m1 : List (List D)) (m0a : Option Addr) (m0c : Nat) (m1a : Option Addr) (m1c : Nat) (h0 : At w0 (.slice m0a m0.length m0c) (.row m0)) (h1 : At w0 (.slice m1a m1.length m1c) (.row m1)) (s0 : ∀ x ∈ m0, ShT x) (s1 : ∀ x ∈ m1, ShT x) (hl0 : m0.length ≤ 8000000) (hl1 : m1.length ≤ 8000000)
    (n : Nat) (st : σ) (w : World) (hI : C.I n st w) (hW : Below w0.heap.size w0 w) :
    Calls Tryz.prog 125 #[.agg #[.func (.func g) #[] #[c1, c2]], .agg #[.slice m0a m0.length m0c, .slice m1a m1.length m1c]] w (MkPost C w0.heap.size n w m0 m1 st) := by
  have J0 := Lib.hid (BxJ.start C (T := 59) (cs := #[.slice m0a m0.length m0c, .slice m1a m1.length m1c]) (zs := #[.slice none 0 0, .slice none 0 0]) rfl hI)
  have G0 := Lib.hid (fun (W : World) (hJ : BxJ C n w st 59 [.slice m0a m0.length m0c, .slice m1a m1.length m1c] W) => (hJ.kept.ground hI hlow hW))
  have HM0 := Lib.hid (fun (W : World) (hJ : BxJ C n w st 59 [.slice m0a m0.length m0c, .slice m1a m1.length m1c] W) => (tnotes_any C w0 hlow m0a m0.length m0c m0 h0 s0 hl0 n st W hJ.i (G0.out W hJ)).mono fun e w' (h : TLPost C w0.heap.size n W m0 st e w') => (show TLPost C w0.heap.size n W m0 st e w' ∧ w.heap.size + 3 ≤ W.heap.size from ⟨h, hJ.sz⟩))
  have HM1 := Lib.hid (fun (W : World) (hJ : BxJ C n w st 59 [.slice m0a m0.length m0c, .slice m1a m1.length m1c] W) => (tnotes_any C w0 hlow m1a m1.length m1c m1 h1 s1 hl1 n st W hJ.i (G0.out W hJ)).mono fun e w' (h : TLPost C w0.heap.size n W m1 st e w') => (show TLPost C w0.heap.size n W m1 st e w' ∧ w.heap.size + 3 ≤ W.heap.size from ⟨h, hJ.sz⟩))
  have HLW := Lib.hid (show w0.heap.size ≤ w.heap.size from hW.size)
  clear h0 h1 s0 s1 hl0 hl1 hI hW hlow G0
  go_enter Tryz.func125, Tryz.ntmps125
  go_wp2_with fail
  refine wp_region_held (S := fun w' => BxJ C n w st 59 [.slice m0a m0.length m0c, .slice m1a m1.length m1c] w') (by kernel_rfl) ?_
  have hHeld := (show BxJ C n w st 59 [.slice m0a m0.length m0c, .slice m1a m1.length m1c] _ from J0.out.below (below_drew0 (Below.refl _ _)))
  change (fun w' => BxJ C n w st 59 [.slice m0a m0.length m0c, .slice m1a m1.length m1c] w') _ at hHeld
  refine wpAnyH_take (i := 0) (oi := ⟨some 5, .load 97 (.tmp 2), 97, "turn.go:44", #[], none⟩) (v := ?v0) rfl (by kernel_rfl) (by kernel_rfl) (by kernel_rfl) (fun _ _ _ h => h) (Or.inl ⟨by rfl, ?hy0⟩) hHeld ?rest0
  case hy0 => (intro W hSW; have cA := box_cells (show BxJ C n w st 59 [.slice m0a m0.length m0c, .slice m1a m1.length m1c] W from hSW).bt; have cB := box_cells (show BxJ C n w st 59 [.slice m0a m0.length m0c, .slice m1a m1.length m1c] W from hSW).bx; go_simp; try with_reducible rfl)
  try simp only [Act.put, List.setIfInBounds_toArray, List.set_cons_zero, List.set_cons_succ]
  refine wpAnyH_take (i := 1) (oi := ⟨some 6, .fieldAddr 59 (.tmp 3) 0, 0, "turn.go:44", #[], none⟩) (v := ?v1) rfl (by kernel_rfl) (by kernel_rfl) (by kernel_rfl) (fun _ _ _ h => h) (Or.inl ⟨by rfl, ?hy1⟩) hHeld ?rest1
  case hy1 => (intro W hSW; have cA := box_cells (show BxJ C n w st 59 [.slice m0a m0.length m0c, .slice m1a m1.length m1c] W from hSW).bt; have cB := box_cells (show BxJ C n w st 59 [.slice m0a m0.length m0c, .slice m1a m1.length m1c] W from hSW).bx; go_simp; try with_reducible rfl)
  try simp only [Act.put, List.setIfInBounds_toArray, List.set_cons_zero, List.set_cons_succ]
  refine wpAnyH_take (i := 2) (oi := ⟨some 7, .load 29 (.tmp 6), 29, "turn.go:44", #[⟨1, .data⟩], none⟩) (v := ?v2) rfl (by kernel_rfl) (by kernel_rfl) (by kernel_rfl) (fun _ _ _ h => h) (Or.inl ⟨by rfl, ?hy2⟩) hHeld ?rest2
  case hy2 => (intro W hSW; have cA := box_cells (show BxJ C n w st 59 [.slice m0a m0.length m0c, .slice m1a m1.length m1c] W from hSW).bt; have cB := box_cells (show BxJ C n w st 59 [.slice m0a m0.length m0c, .slice m1a m1.length m1c] W from hSW).bx; go_simp; try with_reducible rfl)
  try simp only [Act.put, List.setIfInBounds_toArray, List.set_cons_zero, List.set_cons_succ]
  refine wpAnyH_take (i := 4) (oi := ⟨some 9, .load 97 (.tmp 2), 97, "turn.go:44", #[], none⟩) (v := ?v4) rfl (by kernel_rfl) (by kernel_rfl) (by kernel_rfl) (fun _ _ _ h => h) (Or.inl ⟨by rfl, ?hy4⟩) hHeld ?rest4
  case hy4 => (intro W hSW; have cA := box_cells (show BxJ C n w st 59 [.slice m0a m0.length m0c, .slice m1a m1.length m1c] W from hSW).bt; have cB := box_cells (show BxJ C n w st 59 [.slice m0a m0.length m0c, .slice m1a m1.length m1c] W from hSW).bx; go_simp; try with_reducible rfl)
  try simp only [Act.put, List.setIfInBounds_toArray, List.set_cons_zero, List.set_cons_succ]
  refine wpAnyH_take (i := 5) (oi := ⟨some 10, .fieldAddr 59 (.tmp 3) 1, 0, "turn.go:44", #[], none⟩) (v := ?v5) rfl (by kernel_rfl) (by kernel_rfl) (by kernel_rfl) (fun _ _ _ h => h) (Or.inl ⟨by rfl, ?hy5⟩) hHeld ?rest5
  case hy5 => (intro W hSW; have cA := box_cells (show BxJ C n w st 59 [.slice m0a m0.length m0c, .slice m1a m1.length m1c] W from hSW).bt; have cB := box_cells (show BxJ C n w st 59 [.slice m0a m0.length m0c, .slice m1a m1.length m1c] W from hSW).bx; go_simp; try with_reducible rfl)
  try simp only [Act.put, List.setIfInBounds_toArray, List.set_cons_zero, List.set_cons_succ]
  refine wpAnyH_take (i := 6) (oi := ⟨some 11, .load 29 (.tmp 10), 29, "turn.go:44", #[⟨5, .data⟩], none⟩) (v := ?v6) rfl (by kernel_rfl) (by kernel_rfl) (by kernel_rfl) (fun _ _ _ h => h) (Or.inl ⟨by rfl, ?hy6⟩) hHeld ?rest6
  case hy6 => (intro W hSW; have cA := box_cells (show BxJ C n w st 59 [.slice m0a m0.length m0c, .slice m1a m1.length m1c] W from hSW).bt; have cB := box_cells (show BxJ C n w st 59 [.slice m0a m0.length m0c, .slice m1a m1.length m1c] W from hSW).bx; go_simp; try with_reducible rfl)
  try simp only [Act.put, List.setIfInBounds_toArray, List.set_cons_zero, List.set_cons_succ]
  refine wpAnyH_ready (rs := [3]) (by kernel_rfl) (by simp) ?_
  refine AllReadyH.cons (o := ⟨some 8, .call { callee := .value (.func 87), args := #[.tmp 5, .tmp 7], argTypes := #[97, 29] }, 29, "turn.go:44", #[⟨0, .data⟩, ⟨2, .data⟩], none⟩) rfl (fun K hK => ?_) AllReadyH.nil
  go_simp
  go_at_call 87
  refine (HM0.out _ (show BxJ C n w st 59 [.slice m0a m0.length m0c, .slice m1a m1.length m1c] _ from hHeld)).mono ?_
  rintro e w3 ⟨⟨a0, cap0, rfl, hat0, i3, k3⟩, hsz3⟩
  have hNew := (show BxJ C n w st 59 [.slice m0a m0.length m0c, .slice m1a m1.length m1c] _ from hHeld).called k3 i3
  clear hHeld
  have HA0 := Lib.hid (hat0.sub (newN_less hsz3))
  clear hat0 k3 i3
  have hHeld := hNew
  clear hNew
  refine hK.out _ _ hHeld (fun _ => ?_)
  clear hK K
  try simp only [Act.put, List.setIfInBounds_toArray, List.set_cons_zero, List.set_cons_succ]
  refine wpAnyH_ready (rs := [7]) (by kernel_rfl) (by simp) ?_
  refine AllReadyH.cons (o := ⟨some 12, .call { callee := .value (.func 87), args := #[.tmp 9, .tmp 11], argTypes := #[97, 29] }, 29, "turn.go:44", #[⟨4, .data⟩, ⟨6, .data⟩, ⟨3, .chain⟩], none⟩) rfl (fun K hK => ?_) AllReadyH.nil
  go_simp
  go_at_call 87
  refine (HM1.out _ (show BxJ C n w st 59 [.slice m0a m0.length m0c, .slice m1a m1.length m1c] _ from hHeld)).mono ?_
  rintro e w7 ⟨⟨a1, cap1, rfl, hat1, i7, k7⟩, hsz7⟩
  have hNew := (show BxJ C n w st 59 [.slice m0a m0.length m0c, .slice m1a m1.length m1c] _ from hHeld).called k7 i7
  have HB0 := Lib.hid (HA0.out.sub (newN_kept k7))
  have HB1 := Lib.hid (hat1.sub (newN_less hsz7))
  clear hHeld hat1 k7 i7 HA0
  have hHeld := hNew
  clear hNew
  refine hK.out _ _ hHeld (fun _ => ?_)
  clear hK K
  try simp only [Act.put, List.setIfInBounds_toArray, List.set_cons_zero, List.set_cons_succ]
  refine wpAnyH_take (i := 8) (oi := ⟨some 13, .build 59 #[(0, .tmp 8), (1, .tmp 12)], 59, "turn.go:44", #[⟨3, .data⟩, ⟨7, .data⟩], none⟩) (v := ?v8) rfl (by kernel_rfl) (by kernel_rfl) (by kernel_rfl) (fun _ _ _ h => h) (Or.inl ⟨by rfl, ?hy8⟩) hHeld ?rest8
  case hy8 => (intro W hSW; have cA := box_cells (show BxJ C n w st 59 [.slice m0a m0.length m0c, .slice m1a m1.length m1c] W from hSW).bt; have cB := box_cells (show BxJ C n w st 59 [.slice m0a m0.length m0c, .slice m1a m1.length m1c] W from hSW).bx; go_simp; try with_reducible rfl)
  try simp only [Act.put, List.setIfInBounds_toArray, List.set_cons_zero, List.set_cons_succ]
  refine wpAnyH_ready (rs := [9]) (by kernel_rfl) (by simp) ?_
  refine AllReadyH.cons (o := ⟨none, .store 59 (.tmp 4) (.tmp 13), 0, "turn.go:44", #[⟨8, .data⟩, ⟨7, .chain⟩, ⟨0, .phase⟩, ⟨1, .phase⟩, ⟨2, .phase⟩, ⟨3, .phase⟩, ⟨4, .phase⟩, ⟨5, .phase⟩, ⟨6, .phase⟩, ⟨7, .phase⟩, ⟨8, .phase⟩], none⟩) rfl (fun K hK => ?_) AllReadyH.nil
  rw [if_pos (by rfl)]
  have hN := (show BxJ C n w st 59 [.slice m0a m0.length m0c, .slice m1a m1.length m1c] w7 from hHeld)
  obtain ⟨zs, z1, z2⟩ := hN.br
  have hst := hN.stored [.slice a0 m0.length cap0, .slice a1 m1.length cap1] rfl
  refine owp_storeOff (.tmp 4) (.tmp 13) 59 rfl 2 Tryz.sizeOf59 (w.heap.size + 2) 0 zs (by rw [z1]; simp) 59 z2 rfl [.slice a0 m0.length cap0, .slice a1 m1.length cap1] rfl rfl (by intro v hv; simp at hv; rcases hv with rfl | rfl <;> rfl) ?_
  have hHeld2 := hst.1
  have HL := Lib.hid hst.2
  have HS := Lib.hid (show Sub (NewN C w0.heap.size (w.heap.size + 3) w7) (NewN C w0.heap.size w.heap.size (w7.setCells (w.heap.size + 2) 0 [.slice a0 m0.length cap0, .slice a1 m1.length cap1])) from by
    refine Sub.trans (newN_step (by rw [setCells_size]; exact Nat.le_refl _) (fun b hb e => ?_) fun b _ h1 _ => setCells_other _ w7 _ 0 b fun e => h1 (by have := HLW.out; omega)) (newN_less (Nat.le_add_right _ 3))
    exact (C.keep hN.i (by rw [setCells_size]; exact Nat.le_refl _) (fun b hb => setCells_other _ w7 _ 0 b (by have := hN.low; omega)) (fun b hb => setCells_other _ w7 _ 0 b fun e2 => hN.n2 (by rw [e2] at hb; exact hb))).2 b e)
  clear hst z1 z2 hN hHeld
  have hHeld := hHeld2
  refine hK.out _ _ hHeld (fun _ => ?_)
  clear hK K
  try simp only [Act.put]
  refine wpAnyH_done (by kernel_rfl) ?_ _
  have HJ := Lib.hid (show BxJ C n w st 59 [.slice m0a m0.length m0c, .slice m1a m1.length m1c] _ from hHeld)
  clear hHeld hHeld2
  go_wp2_with fail
  refine bodyPost_ret (v := .agg ⟨[.slice a0 m0.length cap0, .slice a1 m1.length cap1]⟩) ?_ rfl ?_
  · exact results_cell (i := 4) (b := w.heap.size + 2) Tryz.results125 Tryz.isAgg59 Tryz.sizeOf59 rfl rfl HL.out
  · exact ⟨a0, cap0, a1, cap1, rfl, HB0.out.sub HS.out, HB1.out.sub HS.out, HJ.out.i, HJ.out.kept⟩
end Go.Proofs.YtciijpahjjoppaaGreat
end
