/-
  The document's reader of expressions: what its calls leave; a name without parts.
-/
import Derived.Test.YtpcldpnaljheoaaGreatDoorRsp
namespace Go.Proofs.YtpcldpnaljheoaaGreatDoor
open Go.RowKit Go.Deep Go.Sort

/-- What the document's reader leaves: an expression that lies from B on, or what is wrong. -/
def GPost (B : Nat) (x : XS) (w : World) (e : Ending) (w' : World) : Prop :=
  Below w.heap.size w w' ∧ ((x.2.f = 0 ∧ ∃ op n nm fd a len c, e = .returned (gotV op n nm fd a len c x.2.k ⟨0, 0, 0, 0⟩) ∧ ExAt (Mk (fun k => k < B) w') x.1 op n nm fd a len c) ∨ (x.2.f ≠ 0 ∧ e = .returned (gotN (faultD x.2))))
/-- A call of the document's reader that answers what the plain one answers. -/
def OkV (g : Nat) (ts : List Tok) (fn : Nat) (args : Nat → Array Value) (F : RS → XS) (n : Nat) : Prop :=
  ∀ (s : RS) (w : World), s.f = 0 → s.k ≤ ts.length → TkW g ts w → leftS ts s < n → Calls Tryz.prog fn (args s.k) w (GPost w.heap.size (F s) w)
abbrev tkV (g cap : Nat) (ts : List Tok) : Value := .slice (some ⟨g, 0, none⟩) ts.length cap
theorem refuse_tk {ts : List Tok} {s : RS} (h : s.f = 0) : refuseS ts s = ⟨s.k, codeT (tkAt ts s.k), (tkAt ts s.k).pos, (tkAt ts s.k).line, (tkAt ts s.k).col⟩ := by
  unfold refuseS failS
  rw [if_pos h, cur_tk h]
theorem fault_wr {ts : List Tok} {s : RS} (h : s.f = 0) : faultD (refuseS ts s) = wrD (tkAt ts s.k) := by rw [refuse_tk h]; rfl
/-- What is wrong with the token at a place, if it is no name. -/
def plD (t : Tok) : Dg := if t.kind = 1 then ⟨0, 0, 0, 0⟩ else wrD t
set_option maxRecDepth 100000 in
set_option maxHeartbeats 1000000 in
theorem rplain_any {g cap : Nat} {ts : List Tok} (k : Nat) {w : World} (h : TkW g ts w) :
    Calls Tryz.prog 171 #[.int .i64 0, tkV g cap ts, .int .i64 (k : Nat)] w fun e w' => e = .returned (dgV (plD (tkAt ts k))) ∧ Below w.heap.size w w' := by
  have Z := (Below.refl w.heap.size w).alloc (Nat.le_refl _) (.cells #[.int .i64 0, .int .i64 0, .int .i64 0, .int .i64 0] 30)
  have T0 := Lib.hid (h.below Z)
  have HT := Lib.hid (rtok_any (cap := cap) k (h.below Z))
  have K0 := Lib.hid (heap_new w (.cells #[.int .i64 0, .int .i64 0, .int .i64 0, .int .i64 0] 30))
  have ZB := Lib.hid Z
  have HWR := fun (W : World) (hW : TkW g ts W) => Lib.hid (rWrong_any (cap := cap) k hW)
  clear h Z
  generalize tkAt ts k = t at HT HWR ⊢
  go_enter Tryz.func171, Tryz.ntmps171
  go_wp2_with fail
  generalize w.alloc (.cells #[.int .i64 0, .int .i64 0, .int .i64 0, .int .i64 0] 30) = W at HT K0 ZB T0 ⊢
  refine HT.out.mono ?_
  rintro e w1 ⟨rfl, b1⟩
  have B1 := Lib.hid ((ZB.out.trans (b1.mono ZB.out.size)).alloc (Nat.le_trans ZB.out.size b1.size) (.cells #[.int .i64 (t.kind : Nat), .string t.text, .int .i64 (t.n : Nat), .bool t.same, .int .i64 (t.pos : Nat), .int .i64 (t.line : Nat), .int .i64 (t.col : Nat)] 50))
  have b1a := b1.alloc b1.size (.cells #[.int .i64 (t.kind : Nat), .string t.text, .int .i64 (t.n : Nat), .bool t.same, .int .i64 (t.pos : Nat), .int .i64 (t.line : Nat), .int .i64 (t.col : Nat)] 50)
  have T1 := Lib.hid (T0.out.below b1a)
  have K2 := Lib.hid ((b1a.block _ (heap_lt K0.out)).trans K0.out)
  clear HT b1 b1a K0
  unfold tokV tokCells
  have l2 := heap_lt K2.out
  by_cases hk : (t.kind : Int) = 1
  · have hk1 : t.kind = 1 := by omega
    have K3 := K2.out
    have B3 := B1.out
    rw [hk] at K3 B3
    have K3 := Lib.hid K3
    have B3 := Lib.hid B3
    have k2 := box_cells K3.out
    have kf : ∀ o, (w1.alloc (.cells #[.int .i64 1, .string t.text, .int .i64 (t.n : Nat), .bool t.same, .int .i64 (t.pos : Nat), .int .i64 (t.line : Nat), .int .i64 (t.col : Nat)] 50)).frozen? ⟨w.heap.size, o, none⟩ = false := fun o => by simp [World.frozen?, K3.out]
    rw [hk]
    clear hk K2 B1 T1 l2
    have l2 := heap_lt K3.out
    go_wp2_with fail
    refine bodyPost_ret (v := dgV (plD t)) (by simp [results, Tryz.results171, go_sem, k2, dgV, plD, hk1]) rfl ⟨rfl, ?_⟩
    repeat (refine Below.setCell ?_ (by dsimp only; omega) _)
    exact B3.out
  · have hk1 : ¬ t.kind = 1 := by omega
    have hb : ((t.kind : Int) != 1) = true := by simpa using hk
    go_wp2_with fail
    refine (HWR _ T1.out).out.mono ?_
    rintro e w2 ⟨rfl, b2⟩
    have B2 := Lib.hid (B1.out.trans (b2.mono B1.out.size))
    have K3 := Lib.hid ((b2.block _ l2).trans K2.out)
    have k2 := box_cells K3.out
    have kf : ∀ o, w2.frozen? ⟨w.heap.size, o, none⟩ = false := fun o => by simp [World.frozen?, K3.out]
    clear K2 B1 T1 l2 b2
    have l2 := heap_lt K3.out
    unfold dgV
    go_wp2_with fail
    refine bodyPost_ret (v := dgV (plD t)) (by simp [results, Tryz.results171, go_sem, k2, dgV, plD, hk1]) rfl ⟨rfl, ?_⟩
    repeat (refine Below.setCell ?_ (by dsimp only; omega) _)
    exact B2.out
end Go.Proofs.YtpcldpnaljheoaaGreatDoor
