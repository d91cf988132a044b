/-
  do, walked: an act at both sinks; they answer alike.
-/
import Derived.Test.YtinamdmefbmnnaaRef
import Derived.Test.YtinamdmefbmnnaaGreat
namespace Go.Proofs.Ytinamdmefbmnnaa
open Go.RowKit

/-- What stays: the world at the law's beginning, both sinks' blocks, the room that was asked for, the act. -/
structure Con where
  w0 : World
  q : Nat
  p : Nat
  most : Int
  kind : Int
  xa : Option Addr
  xl : Nat
  xc : Nat
  xs : List ByteArray
/-- Both sinks. -/
structure Pl (c : Con) (deep : Nat) (acc : List UInt8) (room : Nat) (full fx : Bool) (s : ByteArray) (w : World) : Prop where
  run : Run c.w0 w c.q acc room deep full
  ref : RefAt w c.p c.most deep fx s
  pn : ¬ Mine w c.q c.p
  p0 : c.w0.heap.size ≤ c.p
theorem Pl.did {c : Con} {deep : Nat} {acc : List UInt8} {room : Nat} {full fx : Bool} {s : ByteArray} {w w' : World} (h : Pl c deep acc room full fx s w) {deep' : Nat} {acc' : List UInt8} {room' : Nat} {full' : Bool}
    (hs : SinkAt w' c.q acc' room' deep' full') (hd : Did c.q w w') : Run c.w0 w' c.q acc' room' deep' full' ∧ RefAt w' c.p c.most deep fx s ∧ ¬ Mine w' c.q c.p :=
  ⟨h.run.did hs hd, (hd.block c.p h.ref.lt h.pn).trans h.ref, fun m => (hd.mine _ m).elim h.pn (fun x => by have := h.ref.lt; omega)⟩
theorem Pl.oth {c : Con} {deep : Nat} {acc : List UInt8} {room : Nat} {full fx : Bool} {s : ByteArray} {w w' : World} (h : Pl c deep acc room full fx s w) (e1 : w'.os = w.os) (e2 : w'.tape = w.tape) (e3 : w'.output = w.output) (e4 : w.heap.size ≤ w'.heap.size)
    (hk : ∀ k, k < w.heap.size → (Mine w c.q k ∨ k < c.w0.heap.size) → w'.heap[k]? = w.heap[k]?) {deep' : Nat} {fx' : Bool} {s' : ByteArray} (hr : RefAt w' c.p c.most deep' fx' s') :
    Run c.w0 w' c.q acc room deep full ∧ RefAt w' c.p c.most deep' fx' s' ∧ ¬ Mine w' c.q c.p ∧ (∀ k, Mine w' c.q k ↔ Mine w c.q k) := by
  have hm : ∀ k, Mine w' c.q k ↔ Mine w c.q k := fun k => Mine.congr (hk c.q h.run.sk.lt (.inl (.inl rfl)))
  have hb := h.run.bel
  exact ⟨⟨h.run.sk.kept fun k m => hk k (h.run.sk.mine_lt k m) (.inl m), ⟨e1.trans hb.os, e2.trans hb.tape, e3.trans hb.output, Nat.le_trans hb.size e4, fun k hl => (hk k (Nat.lt_of_lt_of_le hl hb.size) (.inr hl)).trans (hb.block k hl)⟩, fun k m => h.run.up k ((hm k).1 m)⟩, hr, fun m => h.pn ((hm _).1 m), hm⟩
/-- Both sinks, the act in its block, and two lists that are made on the way. -/
structure St (c : Con) (deep box : Nat) (acc : List UInt8) (room : Nat) (full fx : Bool) (s : ByteArray) (ra : Option (Value × List ByteArray)) (rn : Option Nat) (w : World) : Prop where
  pl : Pl c deep acc room full fx s w
  bx : w.heap[box]? = some (.cells #[.int .i64 c.kind, .slice c.xa c.xl c.xc] 33)
  bm : ¬ Mine w c.q box
  bp : box ≠ c.p
  rA : ∀ r, ra = some r → OwnS w r.1 r.2 ∧ ∀ k, r.1.ownBlock = some k → ¬ Mine w c.q k ∧ k ≠ c.p ∧ k ≠ box ∧ c.w0.heap.size ≤ k
  rN : ∀ n, rn = some n → w.heap[n]? = some (.cells #[.string ⟨#[10]⟩] 9) ∧ ¬ Mine w c.q n ∧ n ≠ c.p ∧ n ≠ box ∧ ∀ r, ra = some r → r.1.ownBlock ≠ some n
section
variable {c : Con} {deep box : Nat} {acc : List UInt8} {room : Nat} {full fx : Bool} {s : ByteArray} {ra : Option (Value × List ByteArray)} {rn : Option Nat} {w w' : World}
theorem St.to {acc' : List UInt8} {room' : Nat} {full' fx' : Bool} {s' : ByteArray} (h : St c deep box acc room full fx s ra rn w) (pl' : Pl c deep acc' room' full' fx' s' w') (hm : ∀ k, Mine w' c.q k → Mine w c.q k ∨ w.heap.size ≤ k)
    (hk : ∀ k, k < w.heap.size → ¬ Mine w c.q k → k ≠ c.p → w'.heap[k]? = w.heap[k]?) : St c deep box acc' room' full' fx' s' ra rn w' := by
  have nm : ∀ k, k < w.heap.size → ¬ Mine w c.q k → ¬ Mine w' c.q k := fun k h1 h2 h3 => (hm k h3).elim h2 (fun x => by omega)
  have hb := heap_lt h.bx
  refine ⟨pl', (hk box hb h.bm h.bp).trans h.bx, nm _ hb h.bm, h.bp, fun r e => ?_, fun n e => ?_⟩
  · obtain ⟨h1, h2⟩ := h.rA r e
    exact ⟨h1.kept fun k hk2 => hk k (h1.lt k hk2) (h2 k hk2).1 (h2 k hk2).2.1, fun k hk2 => ⟨nm k (h1.lt k hk2) (h2 k hk2).1, (h2 k hk2).2⟩⟩
  · obtain ⟨h1, h2, h3⟩ := h.rN n e
    have hl := heap_lt h1
    exact ⟨(hk n hl h2 h3.1).trans h1, nm n hl h2, h3⟩
theorem St.did {acc' : List UInt8} {room' : Nat} {full' : Bool} (h : St c deep box acc room full fx s ra rn w) (hs : SinkAt w' c.q acc' room' deep full') (hd : Did c.q w w') : St c deep box acc' room' full' fx s ra rn w' := by
  obtain ⟨h1, h2, h3⟩ := h.pl.did hs hd
  exact h.to ⟨h1, h2, h3, h.pl.p0⟩ hd.mine (fun k h1 h2 _ => hd.block k h1 h2)
theorem St.only {fx' : Bool} {s' : ByteArray} (h : St c deep box acc room full fx s ra rn w) (hr : RefAt w' c.p c.most deep fx' s') (ho : Only c.p w w') : St c deep box acc room full fx' s' ra rn w' := by
  obtain ⟨h1, h2, h3, h4⟩ := h.pl.oth ho.os ho.tape ho.output ho.size (fun k hk hm => ho.block k (fun e => hm.elim (fun x => h.pl.pn (e ▸ x)) (fun x => by have := h.pl.p0; omega)) hk) hr
  exact h.to ⟨h1, h2, h3, h.pl.p0⟩ (fun k m => .inl ((h4 k).1 m)) (fun k h1 _ h2 => ho.block k h2 h1)
theorem St.below (h : St c deep box acc room full fx s ra rn w) (hb : Below w.heap.size w w') : St c deep box acc room full fx s ra rn w' := by
  obtain ⟨h1, h2, h3, h4⟩ := h.pl.oth hb.os hb.tape hb.output hb.size (fun k hk _ => hb.block k hk) (show RefAt w' c.p c.most deep fx s from (hb.block c.p h.pl.ref.lt).trans h.pl.ref)
  exact h.to ⟨h1, h2, h3, h.pl.p0⟩ (fun k m => .inl ((h4 k).1 m)) (fun k h1 _ _ => hb.block k h1)
theorem St.drew (h : St c deep box acc room full fx s ra rn w) : St c deep box acc room full fx s ra rn w.drew := h.below ⟨rfl, rfl, rfl, Nat.le_refl _, fun _ _ => rfl⟩
theorem St.cell (h : St c deep box acc room full fx s ra rn w) : w.cell? ⟨box, 1, none⟩ = some (.slice c.xa c.xl c.xc) := by simp [World.cell?, h.bx]
theorem St.new (h : St c deep box acc room full fx s ra rn w) (hb : Below w.heap.size w w') (k : Nat) (hk : w.heap.size ≤ k) : ¬ Mine w' c.q k ∧ k ≠ c.p ∧ k ≠ box ∧ c.w0.heap.size ≤ k := by
  have h1 := h.pl.run.sk.mine_lt k
  have h2 := h.pl.ref.lt
  have h3 := heap_lt h.bx
  have h4 := h.pl.run.bel.size
  refine ⟨fun m => ?_, by omega, by omega, by omega⟩
  have := h1 ((Mine.congr (hb.block c.q h.pl.run.sk.lt)).1 m)
  omega
/-- A list is made, with all that is in it from w's end on. -/
theorem St.made {v : Value} {ss : List ByteArray} (h : St c deep box acc room full fx s ra rn w) (hb : Below w.heap.size w w') (ho : OwnS w' v ss) (hl : ∀ k, v.ownBlock = some k → w.heap.size ≤ k) : St c deep box acc room full fx s (some (v, ss)) rn w' := by
  have h1 := h.below hb
  refine ⟨h1.pl, h1.bx, h1.bm, h1.bp, fun r e => ?_, fun n e => ?_⟩
  · cases e
    exact ⟨ho, fun k hk => h.new hb k (hl k hk)⟩
  · obtain ⟨g1, g2, g3, g4, _⟩ := h1.rN n e
    refine ⟨g1, g2, g3, g4, fun r e2 e3 => ?_⟩
    cases e2
    have h5 := heap_lt (h.rN n e).1
    have h6 := hl n e3
    omega
theorem St.lit0 (h : St c deep box acc room full fx s ra rn w) : St c deep box acc room full fx s (some (.slice (some ⟨w.heap.size, 0, none⟩) 0 0, [])) rn (w.alloc (.cells #[] 9)) :=
  h.made ((Below.refl _ _).alloc (Nat.le_refl _) _) (OwnS.lit w [] (by decide)) (fun k hk => by simp [Value.ownBlock] at hk; omega)
theorem St.lit1 (h : St c deep box acc room full fx s ra rn w) : St c deep box acc room full fx s ra (some w.heap.size) (w.alloc (.cells #[.string ⟨#[10]⟩] 9)) := by
  have hb : Below w.heap.size w (w.alloc (.cells #[.string ⟨#[10]⟩] 9)) := (Below.refl _ _).alloc (Nat.le_refl _) _
  have h1 := h.below hb
  refine ⟨h1.pl, h1.bx, h1.bm, h1.bp, h1.rA, fun n e => ?_⟩
  cases e
  obtain ⟨n1, n2, n3, _⟩ := h.new hb w.heap.size (Nat.le_refl _)
  refine ⟨heap_new _ _, n1, n2, n3, fun r e2 e3 => ?_⟩
  have := (h.rA r e2).1.lt _ e3
  omega
/-- The list grows. -/
theorem St.app {v v' : Value} {ss tt : List ByteArray} (h : St c deep box acc room full fx s (some (v, ss)) rn w) (ho : OwnS w' v' tt) (hg : w.grownBy w' v.ownBlock) (hl : v'.ownBlock = v.ownBlock ∨ v'.ownBlock = some w.heap.size) : St c deep box acc room full fx s (some (v', tt)) rn w' := by
  obtain ⟨a1, a2⟩ := h.rA _ rfl
  have hk : ∀ k, k < w.heap.size → (Mine w c.q k ∨ k = c.p ∨ k = box ∨ k < c.w0.heap.size) → w'.heap[k]? = w.heap[k]? := fun k hk hm => hg.block k hk (fun e => by
    obtain ⟨b1, b2, b3, b4⟩ := a2 k e.symm
    rcases hm with m | m | m | m
    · exact b1 m
    · exact b2 m
    · exact b3 m
    · omega)
  have hq := h.pl.run.sk.lt
  have hp := h.pl.ref.lt
  have hx := heap_lt h.bx
  have hw := h.pl.run.bel.size
  obtain ⟨h1, h2, h3, h4⟩ := h.pl.oth hg.os hg.tape hg.output hg.size (fun k h1 h2 => hk k h1 (h2.elim .inl (fun x => .inr (.inr (.inr x))))) (show RefAt w' c.p c.most deep fx s from (hk c.p hp (.inr (.inl rfl))).trans h.pl.ref)
  refine ⟨⟨h1, h2, h3, h.pl.p0⟩, (hk box hx (.inr (.inr (.inl rfl)))).trans h.bx, fun m => h.bm ((h4 _).1 m), h.bp, fun r e => ?_, fun n e => ?_⟩
  · cases e
    refine ⟨ho, fun k hk2 => ?_⟩
    rcases hl with hl | hl
    · have := a2 k (by rw [← hl]; exact hk2)
      exact ⟨fun m => this.1 ((h4 _).1 m), this.2⟩
    · rw [hl] at hk2
      cases hk2
      refine ⟨fun m => ?_, by omega, by omega, hw⟩
      have := h.pl.run.sk.mine_lt _ ((h4 _).1 m)
      omega
  · obtain ⟨g1, g2, g3, g4, g5⟩ := h.rN n e
    have hn := heap_lt g1
    refine ⟨(hg.block n hn (fun e => g5 _ rfl e.symm)).trans g1, fun m => g2 ((h4 _).1 m), g3, g4, fun r e2 e3 => ?_⟩
    cases e2
    rcases hl with hl | hl
    · exact g5 _ rfl (by rw [← hl]; exact e3)
    · rw [hl] at e3
      cases e3
      omega
theorem St.nl (h : St c deep box acc room full fx s ra rn w) (n : Nat) (e : rn = some n) : IsStrs w (some ⟨n, 0, none⟩) 1 1 [⟨#[10]⟩] :=
  isStrs_row (ss := [⟨#[10]⟩]) (h.rN n e).1 (by decide) (by simp; decide)
theorem St.strs (h : St c deep box acc room full fx s ra rn w) (hx : IsStrs c.w0 c.xa c.xl c.xc c.xs) : IsStrs w c.xa c.xl c.xc c.xs := hx.below h.pl.run.bel
end
section
variable {c : Con} {deep box : Nat} {acc : List UInt8} {room : Nat} {full fx : Bool} {s : ByteArray} {ra : Option (Value × List ByteArray)} {rn : Option Nat} {w : World}
theorem St.parts (h : St c deep box acc room full fx s ra rn w) (hx : IsStrs c.w0 c.xa c.xl c.xc c.xs) : Parts w c.q c.xa c.xl c.xc c.xs := by
  refine ⟨h.strs hx, fun hn b o e hm => ?_⟩
  rcases hx.2.2.2.2 with h0 | ⟨b2, o2, e2, hb, _⟩
  · exact hn h0
  · rw [e] at e2
    cases e2
    have := h.pl.run.up b hm
    omega
theorem putSt (h : St c deep box acc room full fx s ra rn w) (hx : IsStrs c.w0 c.xa c.xl c.xc c.xs) (hl : acc.length + (flat c.xs).length ≤ 100000) (hr : room ≤ maxLen) (ok : Bool) (hok : ok = (!full && decide ((flat c.xs).length ≤ room))) :
    Calls Try.prog 15 #[.pointer (some ⟨c.q, 0, none⟩), .slice c.xa c.xl c.xc] w fun e w' => e = .returned (.bool ok) ∧ St c deep box (if ok then acc ++ flat c.xs else acc) (if ok then room - (flat c.xs).length else room) (!ok) fx s ra rn w' := by
  refine (put_any h.pl.run.sk (h.parts hx) (by omega) hr ok hok).mono ?_
  rintro e w' ⟨rfl, h1, h2⟩
  exact ⟨rfl, h.did h1 h2⟩
theorem beginSt (h : St c deep box acc room full fx s ra rn w) (hx : IsStrs c.w0 c.xa c.xl c.xc c.xs) (hn : c.xl ≤ 20) (hd : deep ≤ 100) (hl : acc.length + (flat c.xs).length ≤ 100000) (hr : room ≤ maxLen) (ok : Bool) (hok : ok = (!full && decide (2 * deep + (flat c.xs).length ≤ room))) :
    Calls Try.prog 18 #[.pointer (some ⟨c.q, 0, none⟩), .slice c.xa c.xl c.xc] w fun e w' => e = .returned (.bool ok) ∧ St c deep box (if ok then acc ++ (List.replicate (2 * deep) 32 ++ flat c.xs) else acc) (if ok then room - (2 * deep + (flat c.xs).length) else room) (!ok) fx s ra rn w' := by
  refine (begin_any h.pl.run.sk (h.strs hx) (by omega) (by omega) (by omega) hr ok hok).mono ?_
  rintro e w' ⟨rfl, h1, h2⟩
  exact ⟨rfl, h.did h1 h2⟩
theorem endSt (h : St c deep box acc room full fx s ra rn w) (hx : IsStrs c.w0 c.xa c.xl c.xc c.xs) (hn : c.xl ≤ 20) (hd : deep ≤ 100) (hl : acc.length + (flat c.xs).length ≤ 100000) (hr : room ≤ maxLen) (ok : Bool) (hok : ok = (!full && decide ((flat c.xs).length + 1 ≤ room))) :
    Calls Try.prog 19 #[.pointer (some ⟨c.q, 0, none⟩), .slice c.xa c.xl c.xc] w fun e w' => e = .returned (.bool ok) ∧ St c deep box (if ok then acc ++ (flat c.xs ++ [10]) else acc) (if ok then room - ((flat c.xs).length + 1) else room) (!ok) fx s ra rn w' := by
  refine (end_any h.pl.run.sk (h.strs hx) (by omega) (by omega) (by omega) hr ok hok).mono ?_
  rintro e w' ⟨rfl, h1, h2⟩
  exact ⟨rfl, h.did h1 h2⟩
theorem lineSt (h : St c deep box acc room full fx s ra rn w) (hx : IsStrs c.w0 c.xa c.xl c.xc c.xs) (hn : c.xl ≤ 20) (hd : deep ≤ 100) (hl : acc.length + (flat c.xs).length ≤ 100000) (hr : room ≤ maxLen) (ok : Bool) (hok : ok = (!full && decide (2 * deep + ((flat c.xs).length + 1) ≤ room))) :
    Calls Try.prog 17 #[.pointer (some ⟨c.q, 0, none⟩), .slice c.xa c.xl c.xc] w fun e w' => e = .returned (.bool ok) ∧ St c deep box (if ok then acc ++ (List.replicate (2 * deep) 32 ++ (flat c.xs ++ [10])) else acc) (if ok then room - (2 * deep + ((flat c.xs).length + 1)) else room) (!ok) fx s ra rn w' := by
  refine (line_any h.pl.run.sk (h.strs hx) (by omega) (by omega) (by omega) hr ok hok).mono ?_
  rintro e w' ⟨rfl, h1, h2⟩
  exact ⟨rfl, h.did h1 h2⟩
theorem rputSt (h : St c deep box acc room full fx s ra rn w) {a : Option Addr} {len cap : Nat} {ls : List ByteArray} (hs : IsStrs w a len cap ls) (hl : s.size + (flat ls).length ≤ 1000000) (M : Nat) (hM : (M : Int) = max c.most 0) (ok : Bool) (hok : ok = (!fx && decide (s.size + (flat ls).length ≤ M))) :
    Calls Try.prog 22 #[.pointer (some ⟨c.p, 0, none⟩), .slice a len cap] w fun e w' => e = .returned (.bool ok) ∧ ∃ t : ByteArray, St c deep box acc room full (!ok) t ra rn w' ∧ t.data.toList = if ok then s.data.toList ++ flat ls else s.data.toList := by
  refine (refPut_any h.pl.ref hs hl M hM ok hok).mono ?_
  rintro e w' ⟨rfl, ⟨t, h1, h2⟩, h3⟩
  exact ⟨rfl, t, h.only h1 h3, h2⟩
theorem rputOwn {v : Value} {ls : List ByteArray} (h : St c deep box acc room full fx s (some (v, ls)) rn w) (hls : ∀ x ∈ ls, x.size ≤ maxLen) (hl : s.size + (flat ls).length ≤ 1000000) (M : Nat) (hM : (M : Int) = max c.most 0) (ok : Bool) (hok : ok = (!fx && decide (s.size + (flat ls).length ≤ M))) :
    Calls Try.prog 22 #[.pointer (some ⟨c.p, 0, none⟩), v] w fun e w' => e = .returned (.bool ok) ∧ ∃ t : ByteArray, St c deep box acc room full (!ok) t (some (v, ls)) rn w' ∧ t.data.toList = if ok then s.data.toList ++ flat ls else s.data.toList := by
  have ho : OwnS w v ls := (h.rA _ rfl).1
  obtain ⟨a, cap, rfl, h1, _⟩ := ho.strs hls
  exact rputSt h h1 hl M hM ok hok
theorem marginSt (h : St c deep box acc room full fx s ra rn w) (hx : IsStrs c.w0 c.xa c.xl c.xc c.xs) (hd : deep ≤ 100) (hn : c.xl ≤ 20) :
    Calls Try.prog 23 #[.pointer (some ⟨c.p, 0, none⟩), .slice c.xa c.xl c.xc] w fun e w' => ∃ v, e = .returned v ∧ St c deep box acc room full fx s (some (v, List.replicate deep ⟨#[32, 32]⟩ ++ c.xs)) rn w' := by
  refine (margin_any h.pl.ref (h.strs hx) (by omega) (by omega)).mono ?_
  rintro e w' ⟨v, rfl, h1⟩
  exact ⟨v, rfl, h.made h1.bel h1.own h1.loc⟩
theorem flat_rep (n : Nat) : flat (List.replicate n ⟨#[32, 32]⟩) = List.replicate (2 * n) 32 := by
  induction n with
  | zero => rfl
  | succ n ih =>
    rw [List.replicate_succ, flat_cons, ih, show 2 * (n + 1) = 2 * n + 1 + 1 by omega, List.replicate_succ, List.replicate_succ]
    rfl
end
/-- Behind an act: both sinks as alike as ahead of it, no longer than n. -/
def Nx (c : Con) (M deep n : Nat) (w : World) : Prop :=
  ∃ deep' acc room full s, Pl c deep' acc room full full s w ∧ s.data.toList = acc ∧ room + acc.length = M ∧ deep' ≤ deep + 1 ∧ acc.length ≤ n
theorem nx_fin {c : Con} {deep box M : Nat} {acc t : List UInt8} {room len : Nat} {ok : Bool} {s s' : ByteArray} {ra : Option (Value × List ByteArray)} {rn : Option Nat} {w : World}
    (h : St c deep box (if ok then acc ++ t else acc) (if ok then room - len else room) (!ok) (!ok) s' ra rn w) (hl : t.length = len) (hs : s.data.toList = acc) (hs' : s'.data.toList = if ok then s.data.toList ++ t else s.data.toList) (hra : room + acc.length = M) (hok : ok = true → len ≤ room) : Nx c M deep (acc.length + len) w := by
  cases ok with
  | true =>
    have := hok rfl
    refine ⟨deep, acc ++ t, room - len, false, s', h.pl, ?_, ?_, by omega, ?_⟩
    · rw [hs', ← hs]; rfl
    · rw [List.length_append, hl]; omega
    · rw [List.length_append, hl]; exact Nat.le_refl _
  | false => exact ⟨deep, acc, room, true, s', h.pl, hs'.trans hs, hra, by omega, by omega⟩
/-- An act's box is laid. -/
theorem st_box {c : Con} {deep : Nat} {acc : List UInt8} {room : Nat} {full : Bool} {s : ByteArray} {w : World} (h : Pl c deep acc room full full s w) :
    St c deep w.heap.size acc room full full s none none (w.alloc (.cells #[.int .i64 c.kind, .slice c.xa c.xl c.xc] 33)) := by
  have hb : Below w.heap.size w (w.alloc (.cells #[.int .i64 c.kind, .slice c.xa c.xl c.xc] 33)) := (Below.refl _ _).alloc (Nat.le_refl _) _
  obtain ⟨h1, h2, h3, h4⟩ := h.oth hb.os hb.tape hb.output hb.size (fun k hk _ => hb.block k hk) (show RefAt _ c.p c.most deep full s from (hb.block c.p h.ref.lt).trans h.ref)
  have hp := h.ref.lt
  refine ⟨⟨h1, h2, h3, h.p0⟩, heap_new _ _, fun m => ?_, by omega, fun r e => by simp at e, fun n e => by simp at e⟩
  have := h.run.sk.mine_lt _ ((h4 _).1 m)
  omega
set_option maxHeartbeats 1600000 in
theorem do_put (c : Con) {deep : Nat} {acc : List UInt8} {room : Nat} {full : Bool} {s : ByteArray} {w : World} (M : Nat) (h : Pl c deep acc room full full s w) (hx : IsStrs c.w0 c.xa c.xl c.xc c.xs) (hs : s.data.toList = acc) (hra : room + acc.length = M) (hM : (M : Int) = max c.most 0) (hM2 : M ≤ maxLen)
    (hk0 : -9223372036854775808 ≤ c.kind) (hk1 : c.kind ≤ 9223372036854775807) (hl : acc.length + (flat c.xs).length ≤ 100000) (r : Int) (hr : c.kind % 7 = r) (hr2 : r = 0 ∨ r = 1) :
    Calls Try.prog 11 #[.pointer (some ⟨c.q, 0, none⟩), .pointer (some ⟨c.p, 0, none⟩), .agg #[.int .i64 c.kind, .slice c.xa c.xl c.xc]] w fun e w' => e = .returned (.bool true) ∧ Nx c M deep (acc.length + (flat c.xs).length) w' := by
  have ST0 := Lib.hid (st_box h)
  have hsz : s.size = acc.length := by rw [← len_size, hs]
  obtain ⟨ok, hok⟩ : ∃ ok : Bool, ok = (!full && decide ((flat c.xs).length ≤ room)) := ⟨_, rfl⟩
  have hok2 : ok = (!full && decide (s.size + (flat c.xs).length ≤ M)) := by
    rw [hok]
    congr 1
    rw [decide_eq_decide]
    omega
  have HR := Lib.hid hr
  have C1 : Hid (∀ W, St c deep w.heap.size acc room full full s none none W → Calls Try.prog 15 #[.pointer (some ⟨c.q, 0, none⟩), .slice c.xa c.xl c.xc] W fun e w' => e = .returned (.bool ok) ∧ St c deep w.heap.size (if ok then acc ++ flat c.xs else acc) (if ok then room - (flat c.xs).length else room) (!ok) full s none none w') :=
    Lib.hid (fun W hW => putSt hW hx hl (by omega) ok hok)
  have C2 : Hid (∀ W, St c deep w.heap.size (if ok then acc ++ flat c.xs else acc) (if ok then room - (flat c.xs).length else room) (!ok) full s none none W → Calls Try.prog 22 #[.pointer (some ⟨c.p, 0, none⟩), .slice c.xa c.xl c.xc] W fun e w' => e = .returned (.bool ok) ∧ Nx c M deep (acc.length + (flat c.xs).length) w' ∧ w'.cell? ⟨w.heap.size, 1, none⟩ = some (.slice c.xa c.xl c.xc)) :=
    Lib.hid (fun W hW => (rputSt hW (hW.strs hx) (by omega) M hM ok hok2).mono (by
      rintro e w' ⟨rfl, t, h1, h2⟩
      exact ⟨rfl, nx_fin h1 rfl hs h2 hra (fun e => by
        rw [e] at hok
        have := hok.symm
        simp at this
        exact this.2), h1.cell⟩))
  clear h hs hra hM hl hr hok hok2 hsz
  go_enter Try.func11, Try.ntmps11
  go_wp2_with fail
  refine (pick_any c.kind 7 _ hk0 hk1 (by decide) (by decide)).mono ?_
  rw [HR.out]
  rintro e w1 ⟨rfl, rfl⟩
  have hd2 : (r == 2) = false := by rcases hr2 with rfl | rfl <;> rfl
  have hd3 : (r == 3) = false := by rcases hr2 with rfl | rfl <;> rfl
  have hd4 : (r == 4) = false := by rcases hr2 with rfl | rfl <;> rfl
  have hd5 : (r == 5) = false := by rcases hr2 with rfl | rfl <;> rfl
  have hd6 : (r == 6) = false := by rcases hr2 with rfl | rfl <;> rfl
  clear hr2 hk0 hk1
  generalize hW1 : (w.alloc (.cells #[.int .i64 c.kind, .slice c.xa c.xl c.xc] 33)) = w1 at ST0 ⊢
  clear hW1
  go_wp2_with fail
  have hc := ST0.out.drew.cell
  go_region_held3 (fun w' => w'.cell? ⟨w.heap.size, 1, none⟩ = some (.slice c.xa c.xl c.xc)) (first | exact hc | exact st6.out.cell | assumption)
    (first
      | (go_at_call 15; with_reducible refine (C1.out _ ST0.out.drew).mono ?_; rintro e w6 ⟨rfl, s6⟩; have st6 := Lib.hid s6; clear s6)
      | (go_at_call 22; with_reducible refine (C2.out _ st6.out).mono ?_; rintro e w7 ⟨rfl, n7, c7⟩; have N7 := Lib.hid n7; clear n7))
  go_wp2_with fail
  go_ret
  exact ⟨by simp, N7.out⟩
end Go.Proofs.Ytinamdmefbmnnaa
