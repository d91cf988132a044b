/-
  The document's reader of expressions, walked: Read.
-/
import Derived.Test.YtpcldpnaljheoaaGreatDoorRpa
import Derived.Test.YtpcldpnaljheoaaGreatDoorZz5
namespace Go.Proofs.YtpcldpnaljheoaaGreatDoor
open Go.RowKit Go.Deep Go.Sort

theorem field_knd (k n p l c : Int) (tx : ByteArray) (sm : Bool) (w : World) : (Instr.field 50 (.agg #[.int .i64 k, .string tx, .int .i64 n, .bool sm, .int .i64 p, .int .i64 l, .int .i64 c]) 0).run Tryz.prog w = .ok (.int .i64 k) w := by kernel_rfl
theorem fault_k (ts : List Tok) (k : Nat) : faultD (refuseS ts ⟨k, 0, 0, 0, 0⟩) = wrD (tkAt ts k) := fault_wr (s := ⟨k, 0, 0, 0, 0⟩) rfl
theorem endS_tk (s : ByteArray) : endS s = if (tkAt (tksOf s) (parX (tksOf s) 0).2.k).kind = 0 then ⟨(parX (tksOf s) 0).2.k, 0, 0, 0, 0⟩ else refuseS (tksOf s) ⟨(parX (tksOf s) 0).2.k, 0, 0, 0, 0⟩ := by
  unfold endS needEndS
  rw [show cur (tksOf s) ⟨(parX (tksOf s) 0).2.k, 0, 0, 0, 0⟩ = tkAt (tksOf s) (parX (tksOf s) 0).2.k from cur_st _ _]
/-- Two boxes of results. -/
structure RdB (w W : World) : Prop where
  bel : Below w.heap.size w W
  k1 : W.heap[w.heap.size]? = some (.cells #[.int .i64 0, .int .i64 0, .string ⟨#[]⟩, .string ⟨#[]⟩, .slice none 0 0] 25)
  k2 : W.heap[w.heap.size + 1]? = some (.cells #[.int .i64 0, .int .i64 0, .int .i64 0, .int .i64 0] 30)
theorem RdB.next {w W W' : World} (h : RdB w W) (b : Below W.heap.size W W') : RdB w W' :=
  ⟨h.bel.trans (b.mono h.bel.size), (b.block _ (heap_lt h.k1)).trans h.k1, (b.block _ (heap_lt h.k2)).trans h.k2⟩
theorem RdB.drew {w W : World} (h : RdB w W) : RdB w W.drew := ⟨below_drew0 h.bel, h.k1, h.k2⟩
theorem RdB.start (w : World) : RdB w ((w.alloc (.cells #[.int .i64 0, .int .i64 0, .string ⟨#[]⟩, .string ⟨#[]⟩, .slice none 0 0] 25)).alloc (.cells #[.int .i64 0, .int .i64 0, .int .i64 0, .int .i64 0] 30)) := by
  have Z1 := (Below.refl w.heap.size w).alloc (Nat.le_refl _) (.cells #[.int .i64 0, .int .i64 0, .string ⟨#[]⟩, .string ⟨#[]⟩, .slice none 0 0] 25)
  have Z2 := Z1.alloc Z1.size (.cells #[.int .i64 0, .int .i64 0, .int .i64 0, .int .i64 0] 30)
  have e1 : (w.alloc (.cells #[.int .i64 0, .int .i64 0, .string ⟨#[]⟩, .string ⟨#[]⟩, .slice none 0 0] 25)).heap.size = w.heap.size + 1 := by simp
  have N2 := (Below.refl _ (w.alloc (.cells #[.int .i64 0, .int .i64 0, .string ⟨#[]⟩, .string ⟨#[]⟩, .slice none 0 0] 25))).alloc (Nat.le_refl _) (.cells #[.int .i64 0, .int .i64 0, .int .i64 0, .int .i64 0] 30)
  have k2 := heap_new (w.alloc (.cells #[.int .i64 0, .int .i64 0, .string ⟨#[]⟩, .string ⟨#[]⟩, .slice none 0 0] 25)) (.cells #[.int .i64 0, .int .i64 0, .int .i64 0, .int .i64 0] 30)
  rw [e1] at k2 N2
  exact ⟨Z2, (N2.block _ (by omega)).trans (heap_new w _), k2⟩
/-- What the document's Read leaves, told by its parts. -/
def RdPost (RD : Dg) (X : List D) (w : World) (e : Ending) (w' : World) : Prop :=
  Below w.heap.size w w' ∧ (RD.c ≠ 0 ∧ e = .returned (.tuple #[exV 0 0 noB noB none 0 0, dgV RD]) ∨
    RD.c = 0 ∧ ∃ op n nm fd a len c, e = .returned (.tuple #[exV op n nm fd a len c, dgV ⟨0, 0, 0, 0⟩]) ∧ AllAt (Mk (fun b => b < w.heap.size) w') [.int .i64 op, .int .i64 n, .string nm, .string fd, .slice a len c] X ∧ ShE X)
def LxPost (LD : Dg) (ts : List Tok) (W : World) (e : Ending) (w1 : World) : Prop :=
  Below W.heap.size W w1 ∧ ((LD.c ≠ 0 ∧ ∃ v, e = .returned (.tuple #[v, dgV LD])) ∨ (LD.c = 0 ∧ ∃ g cap, e = .returned (.tuple #[.slice (some ⟨g, 0, none⟩) ts.length cap, dgV LD]) ∧ TkW g ts w1))
def RgPost (ts : List Tok) (PD : Dg) (X : XS) (w : World) (e : Ending) (w' : World) : Prop :=
  Below w.heap.size w w' ∧ (PD.c ≠ 0 ∧ e = .returned (gotN PD) ∨
    PD.c = 0 ∧ ∃ op n nm fd a len c, e = .returned (gotV op n nm fd a len c X.2.k ⟨0, 0, 0, 0⟩) ∧ AllAt (Mk (fun b => b < w.heap.size) w') [.int .i64 op, .int .i64 n, .string nm, .string fd, .slice a len c] X.1 ∧ ShE X.1 ∧ X.2.k ≤ ts.length)
set_option maxRecDepth 100000 in
set_option maxHeartbeats 4000000 in
theorem rRead_gen (s : ByteArray) (w : World) (LD : Dg) (ts : List Tok) (X : XS) (PD : Dg) (t : Tok) (D3 RD : Dg)
    (HA : ∀ W, Calls Tryz.prog 17 #[.int .i64 0, .string s] W (LxPost LD ts W))
    (HP : ∀ g cap W, TkW g ts W → Calls Tryz.prog 22 #[.int .i64 0, tkV g cap ts, .int .i64 0] W (RgPost ts PD X W))
    (HT : ∀ g cap W, TkW g ts W → Calls Tryz.prog 23 #[tkV g cap ts, .int .i64 (X.2.k : Nat)] W fun e w' => e = .returned (tokV t) ∧ Below W.heap.size W w')
    (HWR : ∀ g cap W, TkW g ts W → Calls Tryz.prog 24 #[tkV g cap ts, .int .i64 (X.2.k : Nat)] W fun e w' => e = .returned (dgV D3) ∧ Below W.heap.size W w')
    (hD3 : D3.c ≠ 0) (hRD : RD = if LD.c ≠ 0 then LD else if PD.c ≠ 0 then PD else if t.kind = 0 then ⟨0, 0, 0, 0⟩ else D3) :
    Calls Tryz.prog 11 #[.int .i64 0, .string s] w (RdPost RD X.1 w) := by
  have I0 := Lib.hid (RdB.start w)
  have hz0 : ((w.alloc (.cells #[.int .i64 0, .int .i64 0, .string ⟨#[]⟩, .string ⟨#[]⟩, .slice none 0 0] 25)).alloc (.cells #[.int .i64 0, .int .i64 0, .int .i64 0, .int .i64 0] 30)).heap.size = w.heap.size + 2 := by simp
  have HA := Lib.hid HA
  have HP := Lib.hid HP
  have HT := Lib.hid HT
  have HWR := Lib.hid HWR
  have HRD := Lib.hid hRD
  unfold RdPost
  clear hRD
  go_enter Tryz.func11, Tryz.ntmps11
  go_wp2_with fail
  generalize (w.alloc _).alloc _ = W0 at I0 hz0 ⊢
  refine (HA.out _).mono ?_
  rintro e w1 ⟨b1, ⟨hlc, v, rfl⟩ | ⟨hlc, g, cap, rfl, tk1⟩⟩
  · have n1 := (Below.refl w1.heap.size w1).alloc (Nat.le_refl _) (.cells #[.int .i64 (LD.c : Nat), .int .i64 (LD.p : Nat), .int .i64 (LD.l : Nat), .int .i64 (LD.k : Nat)] 30)
    have J1 := Lib.hid ((I0.out.next b1).next n1)
    have KD := Lib.hid (heap_new w1 (.cells #[.int .i64 (LD.c : Nat), .int .i64 (LD.p : Nat), .int .i64 (LD.l : Nat), .int .i64 (LD.k : Nat)] 30))
    have hw01 := b1.size
    have d3 : ((LD.c : Int) != 0) = true := by simp [hlc]
    have HE := Lib.hid (HRD.out.trans (if_pos hlc))
    clear n1 b1 I0 HA HP HT HWR HRD
    unfold dgV
    go_wp2_with fail
    generalize w1.alloc _ = W1 at J1 KD ⊢
    generalize w1.heap.size = zd at KD hw01 ⊢
    have cd := box_cells KD.out
    have ld := heap_lt KD.out
    have l1 := heap_lt J1.out.k1
    have l2 := heap_lt J1.out.k2
    have c1 := box_cells J1.out.k1
    have c2 := box_cells J1.out.k2
    have f1 : ∀ o, W1.frozen? ⟨w.heap.size, o, none⟩ = false := fun o => by simp [World.frozen?, J1.out.k1]
    have f2 : ∀ o, W1.frozen? ⟨w.heap.size + 1, o, none⟩ = false := fun o => by simp [World.frozen?, J1.out.k2]
    go_region
    go_wp2_with fail
    refine bodyPost_ret (v := .tuple #[exV 0 0 ⟨#[]⟩ ⟨#[]⟩ none 0 0, dgV LD]) (by simp [results, Tryz.results11, go_sem, c1, c2, dgV]) rfl ⟨?_, .inl ⟨by rw [HE.out]; exact hlc, by rw [HE.out]; rfl⟩⟩
    refine Below.drewR ?_
    repeat (refine Below.setCell ?_ (by dsimp only; omega) _)
    exact J1.out.bel
  · have n1 := (Below.refl w1.heap.size w1).alloc (Nat.le_refl _) (.cells #[.int .i64 (LD.c : Nat), .int .i64 (LD.p : Nat), .int .i64 (LD.l : Nat), .int .i64 (LD.k : Nat)] 30)
    have J1 := Lib.hid ((I0.out.next b1).next n1)
    have KD := Lib.hid (heap_new w1 (.cells #[.int .i64 (LD.c : Nat), .int .i64 (LD.p : Nat), .int .i64 (LD.l : Nat), .int .i64 (LD.k : Nat)] 30))
    have hw01 := b1.size
    have d3 : ((LD.c : Int) != 0) = false := by simp [hlc]
    have TK := Lib.hid (tk1.below n1)
    have HR1 := Lib.hid (HRD.out.trans (if_neg (fun h => h hlc)))
    have hlen := tk1.ok.len
    clear n1 tk1 HRD hlc I0 HA b1
    unfold dgV
    go_wp2_with fail
    generalize w1.alloc _ = W1 at J1 KD TK ⊢
    refine (HP.out _ _ _ TK.out).mono ?_
    rintro e w2 ⟨b2, ⟨hPc, rfl⟩ | ⟨hPc, op, n, nm, fd, a, len, c, rfl, hx, hsh, hXk⟩⟩
    · have HE := Lib.hid (HR1.out.trans (if_pos hPc))
      have n2 := (Below.refl w2.heap.size w2).alloc (Nat.le_refl _) (gotO 0 0 ⟨#[]⟩ ⟨#[]⟩ none 0 0 0 PD)
      have J2 := Lib.hid ((J1.out.next b2).next n2)
      have KG := Lib.hid (heap_new w2 (gotO 0 0 ⟨#[]⟩ ⟨#[]⟩ none 0 0 0 PD))
      have hb : ((PD.c : Int) != 0) = true := by simp [hPc]
      clear b2 n2 J1 KD TK HP HT HWR HR1
      unfold gotN gotV
      go_wp2_with fail
      generalize w2.alloc _ = W2 at J2 KG ⊢
      generalize w2.heap.size = zg at KG ⊢
      have cg := box_cells KG.out
      have lg := heap_lt KG.out
      have l1 := heap_lt J2.out.k1
      have l2 := heap_lt J2.out.k2
      have c1 := box_cells J2.out.k1
      have c2 := box_cells J2.out.k2
      have f1 : ∀ o, W2.frozen? ⟨w.heap.size, o, none⟩ = false := fun o => by simp [World.frozen?, J2.out.k1]
      have f2 : ∀ o, W2.frozen? ⟨w.heap.size + 1, o, none⟩ = false := fun o => by simp [World.frozen?, J2.out.k2]
      go_region
      go_wp2_with fail
      refine bodyPost_ret (v := .tuple #[exV 0 0 ⟨#[]⟩ ⟨#[]⟩ none 0 0, dgV PD]) (by simp [results, Tryz.results11, go_sem, c1, c2, dgV]) rfl ⟨?_, .inl ⟨by rw [HE.out]; exact hPc, by rw [HE.out]; rfl⟩⟩
      refine Below.drewR ?_
      repeat (refine Below.setCell ?_ (by dsimp only; omega) _)
      exact J2.out.bel
    · have HR2 := Lib.hid (HR1.out.trans (if_neg (fun h => h hPc)))
      have n2 := (Below.refl w2.heap.size w2).alloc (Nat.le_refl _) (gotO op n nm fd a len c X.2.k ⟨0, 0, 0, 0⟩)
      have J2 := Lib.hid ((J1.out.next b2).next n2)
      have KG := Lib.hid (heap_new w2 (gotO op n nm fd a len c X.2.k ⟨0, 0, 0, 0⟩))
      have TK2 := Lib.hid ((TK.out.below b2).below n2)
      have X2 := Lib.hid (hx.sub (mk_step (P := fun k => k < W1.heap.size) n2.size fun k hk _ => n2.block k hk))
      have hW1 := heap_lt J1.out.k2
      have hfk := field_knd (t.kind : Nat) (t.n : Nat) (t.pos : Nat) (t.line : Nat) (t.col : Nat) t.text t.same
      clear b2 n2 J1 KD TK HP HR1 hx
      unfold gotV
      go_wp2_with fail
      generalize hzg : w2.heap.size = zg at KG
      generalize w2.alloc _ = W2 at J2 KG TK2 X2 ⊢
      refine (HT.out _ _ _ TK2.out).mono ?_
      rintro e w3 ⟨rfl, b3⟩
      have J3 := Lib.hid (J2.out.next b3)
      have TK3 := Lib.hid (TK2.out.below b3)
      have KG3 := Lib.hid ((b3.block _ (heap_lt KG.out)).trans KG.out)
      have X3 := Lib.hid (X2.out.sub (mk_step (P := fun k => k < W1.heap.size) b3.size fun k hk _ => b3.block k hk))
      clear b3 J2 TK2 KG X2
      have cg := box_cells KG3.out
      have lg := heap_lt KG3.out
      unfold tokV tokCells
      by_cases hk0 : t.kind = 0
      · have e1 : ((t.kind : Int) != 0) = false := by simp [hk0]
        have HE := Lib.hid (HR2.out.trans (if_pos hk0))
        have l1 := heap_lt J3.out.k1
        have l2 := heap_lt J3.out.k2
        have f1 : ∀ o, w3.frozen? ⟨w.heap.size, o, none⟩ = false := fun o => by simp [World.frozen?, J3.out.k1]
        have f2 : ∀ o, w3.frozen? ⟨w.heap.size + 1, o, none⟩ = false := fun o => by simp [World.frozen?, J3.out.k2]
        have c1 := box_cells J3.out.k1
        have c2 := box_cells J3.out.k2
        clear HWR HT HR2 TK3 hk0
        go_wp2_with fail
        refine bodyPost_ret (v := .tuple #[exV op n nm fd a len c, dgV ⟨0, 0, 0, 0⟩]) (by simp [results, Tryz.results11, go_sem, c1, c2, dgV]) rfl ⟨?_, .inr ⟨by rw [HE.out], op, n, nm, fd, a, len, c, rfl, ?_, hsh⟩⟩
        · repeat (refine Below.setCell ?_ (by dsimp only; omega) _)
          exact J3.out.bel
        · refine AllAt.sub ?_ (mk_weak _ (P := fun b => b < W1.heap.size) (fun j (hj : j < w.heap.size) => by omega))
          have hb0 : w.heap.size < W1.heap.size := by omega
          have hb1 : w.heap.size + 1 < W1.heap.size := by omega
          exact (((((((((X3.out.sub (mk_set (P := fun b => b < W1.heap.size) hb0 _ _)).sub (mk_set (P := fun b => b < W1.heap.size) hb0 _ _)).sub (mk_set (P := fun b => b < W1.heap.size) hb0 _ _)).sub (mk_set (P := fun b => b < W1.heap.size) hb0 _ _)).sub (mk_set (P := fun b => b < W1.heap.size) hb0 _ _)).sub (mk_set (P := fun b => b < W1.heap.size) hb1 _ _)).sub (mk_set (P := fun b => b < W1.heap.size) hb1 _ _)).sub (mk_set (P := fun b => b < W1.heap.size) hb1 _ _)).sub (mk_set (P := fun b => b < W1.heap.size) hb1 _ _))
      · have e1 : ((t.kind : Int) != 0) = true := by simp [hk0]
        have HE := Lib.hid (HR2.out.trans (if_neg hk0))
        clear HT HR2 X3 hk0
        go_wp2_with fail
        refine (HWR.out _ _ _ TK3.out).mono ?_
        rintro e w4 ⟨rfl, b4⟩
        have J4 := Lib.hid (J3.out.next b4)
        have l1 := heap_lt J4.out.k1
        have l2 := heap_lt J4.out.k2
        have f1 : ∀ o, w4.frozen? ⟨w.heap.size, o, none⟩ = false := fun o => by simp [World.frozen?, J4.out.k1]
        have f2 : ∀ o, w4.frozen? ⟨w.heap.size + 1, o, none⟩ = false := fun o => by simp [World.frozen?, J4.out.k2]
        have c1 := box_cells J4.out.k1
        have c2 := box_cells J4.out.k2
        clear b4 J3 TK3 KG3 cg lg
        unfold dgV
        go_wp2_with fail
        refine bodyPost_ret (v := .tuple #[exV 0 0 ⟨#[]⟩ ⟨#[]⟩ none 0 0, dgV D3]) (by simp [results, Tryz.results11, go_sem, c1, c2, dgV]) rfl ⟨?_, .inl ⟨by rw [HE.out]; exact hD3, by rw [HE.out]; rfl⟩⟩
        repeat (refine Below.setCell ?_ (by dsimp only; omega) _)
        exact J4.out.bel
end Go.Proofs.YtpcldpnaljheoaaGreatDoor
