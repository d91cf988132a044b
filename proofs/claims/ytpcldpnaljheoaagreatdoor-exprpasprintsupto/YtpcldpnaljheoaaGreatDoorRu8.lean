/-
  The document's reader of expressions, walked: what is wrong; the signs of a level; a sign's words.
-/
import Derived.Test.YtpcldpnaljheoaaGreatDoorRt8
import Derived.Test.YtpcldpnaljheoaaGreatDoorZz3
import Derived.Test.YtpcldpnaljheoaaGreatDoorZz4
namespace Go.Proofs.YtpcldpnaljheoaaGreatDoor
open Go.RowKit Go.Deep Go.Sort

/-- What is wrong with the token at a place. -/
def wrD (t : Tok) : Dg := ⟨codeT t, t.pos, t.line, t.col⟩
set_option maxRecDepth 100000 in
set_option maxHeartbeats 1000000 in
theorem rWrong_any {g cap : Nat} {ts : List Tok} (k : Nat) {w : World} (h : TkW g ts w) :
    Calls Tryz.prog 24 #[.slice (some ⟨g, 0, none⟩) ts.length cap, .int .i64 (k : Nat)] w fun e w' => e = .returned (dgV (wrD (tkAt ts k))) ∧ Below w.heap.size w w' := by
  have Z := (Below.refl w.heap.size w).alloc (Nat.le_refl _) (.cells #[.int .i64 0, .int .i64 0, .int .i64 0, .int .i64 0] 30)
  have HT := Lib.hid (rtok_any (cap := cap) k (h.below Z))
  have K0 := Lib.hid (heap_new w (.cells #[.int .i64 0, .int .i64 0, .int .i64 0, .int .i64 0] 30))
  have ZB := Lib.hid Z
  clear h Z
  generalize tkAt ts k = t at HT ⊢
  generalize ts.length = n at *
  go_enter Tryz.func24, Tryz.ntmps24
  go_wp2_with fail
  generalize w.alloc (.cells #[.int .i64 0, .int .i64 0, .int .i64 0, .int .i64 0] 30) = W at HT K0 ZB ⊢
  refine HT.out.mono ?_
  rintro e w1 ⟨rfl, b1⟩
  have B1 := Lib.hid ((ZB.out.trans (b1.mono ZB.out.size)).alloc (Nat.le_trans ZB.out.size b1.size) (.cells #[.int .i64 (t.kind : Nat), .string t.text, .int .i64 (t.n : Nat), .bool t.same, .int .i64 (t.pos : Nat), .int .i64 (t.line : Nat), .int .i64 (t.col : Nat)] 50))
  have K1 := Lib.hid (heap_new w1 (.cells #[.int .i64 (t.kind : Nat), .string t.text, .int .i64 (t.n : Nat), .bool t.same, .int .i64 (t.pos : Nat), .int .i64 (t.line : Nat), .int .i64 (t.col : Nat)] 50))
  have K2 := Lib.hid ((((Below.refl w1.heap.size w1).alloc (Nat.le_refl _) (.cells #[.int .i64 (t.kind : Nat), .string t.text, .int .i64 (t.n : Nat), .bool t.same, .int .i64 (t.pos : Nat), .int .i64 (t.line : Nat), .int .i64 (t.col : Nat)] 50)).block _ (Nat.lt_of_lt_of_le (heap_lt K0.out) b1.size)).trans ((b1.block _ (heap_lt K0.out)).trans K0.out))
  clear HT b1 K0
  unfold tokV tokCells
  have k2 := box_cells K2.out
  have kf : ∀ o, (w1.alloc (.cells #[.int .i64 (t.kind : Nat), .string t.text, .int .i64 (t.n : Nat), .bool t.same, .int .i64 (t.pos : Nat), .int .i64 (t.line : Nat), .int .i64 (t.col : Nat)] 50)).frozen? ⟨w.heap.size, o, none⟩ = false := fun o => by simp [World.frozen?, K2.out]
  have l2 := heap_lt K2.out
  cases h6 : ((t.kind : Int) == 6) with
  | true =>
    have h6i : (t.kind : Int) = 6 := by simpa using h6
    have h6' : t.kind = 6 := by omega
    have B1' := Lib.hid (h6i ▸ B1.out)
    have k2' := h6i ▸ k2
    have kf' := h6i ▸ kf
    have l2' := h6i ▸ l2
    clear h6i k2 kf l2 K1 K2 B1
    go_wp2_with fail
    refine bodyPost_ret (v := dgV (wrD t)) (by simp [results, Tryz.results24, go_sem, k2', dgV, wrD, codeT, h6']) rfl ⟨rfl, ?_⟩
    repeat (refine Below.setCell ?_ (by dsimp only; omega) _)
    exact B1'.out
  | false =>
    have h6' : ¬ t.kind = 6 := fun e => by rw [e] at h6; exact absurd h6 (by decide)
    go_wp2_with fail
    refine bodyPost_ret (v := dgV (wrD t)) (by simp [results, Tryz.results24, go_sem, k2, dgV, wrD, codeT, h6']) rfl ⟨rfl, ?_⟩
    repeat (refine Below.setCell ?_ (by dsimp only; omega) _)
    exact B1.out
/-- What the document's reader got: an expression's five cells, the place behind it, what is wrong. -/
def gotV (op n : Int) (nm fd : ByteArray) (a : Option Addr) (len c : Nat) (i : Nat) (d : Dg) : Value :=
  .agg #[.int .i64 op, .int .i64 n, .string nm, .string fd, .slice a len c, .int .i64 (i : Nat), .int .i64 (d.c : Nat), .int .i64 (d.p : Nat), .int .i64 (d.l : Nat), .int .i64 (d.k : Nat)]
abbrev gotN (d : Dg) : Value := gotV 0 0 ⟨#[]⟩ ⟨#[]⟩ none 0 0 0 d
abbrev got0 : Obj := .cells #[.int .i64 0, .int .i64 0, .string ⟨#[]⟩, .string ⟨#[]⟩, .slice none 0 0, .int .i64 0, .int .i64 0, .int .i64 0, .int .i64 0, .int .i64 0] 56
set_option maxRecDepth 100000 in
set_option maxHeartbeats 1000000 in
theorem rwrong_any {g cap : Nat} {ts : List Tok} (k : Nat) {w : World} (h : TkW g ts w) :
    Calls Tryz.prog 136 #[.slice (some ⟨g, 0, none⟩) ts.length cap, .int .i64 (k : Nat)] w fun e w' => e = .returned (gotN (wrD (tkAt ts k))) ∧ Below w.heap.size w w' := by
  have Z := (Below.refl w.heap.size w).alloc (Nat.le_refl _) got0
  have HT := Lib.hid (rWrong_any (cap := cap) k (h.below Z))
  have K0 := Lib.hid (heap_new w got0)
  have ZB := Lib.hid Z
  clear h Z
  generalize wrD (tkAt ts k) = d at HT ⊢
  generalize ts.length = n at *
  go_enter Tryz.func136, Tryz.ntmps136
  go_wp2_with fail
  generalize w.alloc _ = W at HT K0 ZB ⊢
  refine HT.out.mono ?_
  rintro e w1 ⟨rfl, b1⟩
  have B1 := Lib.hid (ZB.out.trans (b1.mono ZB.out.size))
  have K1 := Lib.hid ((b1.block _ (heap_lt K0.out)).trans K0.out)
  have k1 := box_cells K1.out
  have kf : ∀ o, w1.frozen? ⟨w.heap.size, o, none⟩ = false := fun o => by simp [World.frozen?, K1.out]
  clear HT b1 K0
  unfold dgV at *
  go_wp2_with fail
  refine bodyPost_ret (v := gotN d) (by simp [results, Tryz.results136, go_sem, k1, gotV]) rfl ⟨rfl, ?_⟩
  repeat (refine Below.setCell ?_ (by dsimp only; omega) _)
  exact B1.out
set_option maxHeartbeats 1000000 in
theorem rlast_any (w : World) : Calls Tryz.prog 59 #[.int .i64 0] w fun e w' => e = .returned (.int .i64 4) ∧ w' = w := by
  go_enter Tryz.func59, Tryz.ntmps59
  go_wp2_with fail
  go_ret
  exact ⟨rfl, rfl⟩
/-- The signs of a level and their operations. -/
def rowS : Nat → List ByteArray
  | 1 => [⟨#[61]⟩, ⟨#[60, 62]⟩, ⟨#[60, 61]⟩, ⟨#[62, 61]⟩, ⟨#[60]⟩, ⟨#[62]⟩]
  | 2 => [⟨#[43]⟩, ⟨#[45]⟩, ⟨#[111, 114, 32, 101, 108, 115, 101]⟩, ⟨#[111, 114]⟩]
  | _ => [⟨#[42]⟩, ⟨#[100, 105, 118]⟩, ⟨#[109, 111, 100]⟩, ⟨#[97, 110, 100, 32, 116, 104, 101, 110]⟩, ⟨#[97, 110, 100]⟩]
def rowO : Nat → List Nat
  | 1 => [19, 20, 22, 24, 21, 23]
  | 2 => [15, 16, 18, 17]
  | _ => [10, 11, 12, 14, 13]
def rowW (lv : Nat) (w : World) : World := (w.alloc (.cells ((rowS lv).map Value.string).toArray 9)).alloc (.cells ((rowO lv).map fun o => Value.int .i64 (o : Nat)).toArray 3)
set_option maxHeartbeats 4000000 in
theorem rrow_any (lv : Nat) (h1 : 1 ≤ lv) (h3 : lv ≤ 3) (w : World) : Calls Tryz.prog 60 #[.int .i64 0, .int .i64 (lv : Nat)] w fun e w' => e = .returned (.tuple #[.slice (some ⟨w.heap.size, 0, none⟩) (rowS lv).length (rowS lv).length, .slice (some ⟨w.heap.size + 1, 0, none⟩) (rowS lv).length (rowS lv).length]) ∧ w' = rowW lv w := by
  match lv, h1, h3 with
  | 1, _, _ =>
    go_enter Tryz.func60, Tryz.ntmps60
    go_wp2_with fail
    exact bodyPost_ret (v := .tuple #[.slice (some ⟨w.heap.size, 0, none⟩) 6 6, .slice (some ⟨w.heap.size + 1, 0, none⟩) 6 6]) (by simp [results, Tryz.results60, go_sem]) rfl ⟨rfl, rfl⟩
  | 2, _, _ =>
    go_enter Tryz.func60, Tryz.ntmps60
    go_wp2_with fail
    exact bodyPost_ret (v := .tuple #[.slice (some ⟨w.heap.size, 0, none⟩) 4 4, .slice (some ⟨w.heap.size + 1, 0, none⟩) 4 4]) (by simp [results, Tryz.results60, go_sem]) rfl ⟨rfl, rfl⟩
  | 3, _, _ =>
    go_enter Tryz.func60, Tryz.ntmps60
    go_wp2_with fail
    exact bodyPost_ret (v := .tuple #[.slice (some ⟨w.heap.size, 0, none⟩) 5 5, .slice (some ⟨w.heap.size + 1, 0, none⟩) 5 5]) (by simp [results, Tryz.results60, go_sem]) rfl ⟨rfl, rfl⟩
set_option maxHeartbeats 2000000 in
/-- A sign of one word. -/
theorem rwords_one (s : ByteArray) (hs : s.size ≤ 100) (hb : ∀ k, k < s.size → X.bt s k ≠ 32) (w : World) :
    Calls Tryz.prog 138 #[.string s] w fun e w' => e = .returned (.slice (some ⟨w.heap.size, 0, none⟩) 1 1) ∧ w' = w.alloc (.cells #[.string s] 9) := by
  have HB := Lib.hid hb
  clear hb
  go_enter Tryz.func138, Tryz.ntmps138
  go_wp2_with fail
  go_loop [3] (fun i => ∃ k : Nat, k ≤ s.size ∧ i = .int .i64 (k : Nat)) (fun i => s.size - (intOf i).toNat)
  case atStart => exact ⟨0, Nat.zero_le _, rfl⟩
  case round =>
    obtain ⟨k, hk, rfl⟩ := hrel
    by_cases hlt : k < s.size
    · have hbe := X.bt_eq s k hlt
      have hne := HB.out k hlt
      have hn2 : (((X.bt s k).toNat : Int) == 32) = false := by
        simp only [beq_eq_false_iff_ne, ne_eq]
        intro e
        apply hne
        have : (X.bt s k).toNat = 32 := by omega
        exact UInt8.toNat_inj.1 this
      clear hne
      go_wp2_with fail
      go_round
      case rel => exact ⟨k + 1, by omega, by go_num⟩
      case measure => simp [intOf]; omega
    · go_wp2_with fail
      go_ret
      exact ⟨rfl, rfl⟩
set_option maxHeartbeats 2000000 in
/-- A sign of two words. -/
theorem rwords_two (s : ByteArray) (q : Nat) (hq : q < s.size) (hs : s.size ≤ 100) (hb : ∀ k, k < q → X.bt s k ≠ 32) (hx : X.bt s q = 32) (w : World) :
    Calls Tryz.prog 138 #[.string s] w fun e w' => e = .returned (.slice (some ⟨w.heap.size, 0, none⟩) 2 2) ∧ w'.heap = (w.alloc (.cells #[.string (s.extract 0 q), .string (s.extract (q + 1) s.size)] 9)).heap ∧ Below w.heap.size w w' := by
  have HB := Lib.hid hb
  have HX := Lib.hid hx
  clear hb hx
  go_enter Tryz.func138, Tryz.ntmps138
  go_wp2_with fail
  go_loop [3] (fun i => ∃ k : Nat, k ≤ q ∧ i = .int .i64 (k : Nat)) (fun i => s.size - (intOf i).toNat)
  case atStart => exact ⟨0, Nat.zero_le _, rfl⟩
  case round =>
    obtain ⟨k, hk, rfl⟩ := hrel
    have hlt : k < s.size := by omega
    have hbe := X.bt_eq s k hlt
    by_cases hkq : k < q
    · have hne := HB.out k hkq
      have hn2 : (((X.bt s k).toNat : Int) == 32) = false := by
        simp only [beq_eq_false_iff_ne, ne_eq]
        intro e
        apply hne
        have : (X.bt s k).toNat = 32 := by omega
        exact UInt8.toNat_inj.1 this
      clear hne
      go_wp2_with fail
      go_round
      case rel => exact ⟨k + 1, by omega, by go_num⟩
      case measure => simp [intOf]; omega
    · obtain rfl : k = q := by omega
      rw [HX.out] at hbe
      have a1 : (0 : Int) ≤ (k : Int) := by omega
      have a2 : (k : Int) + 1 ≤ (s.size : Int) := by omega
      have hw : IntKind.i64.wrap ((k : Int) + 1) = ((k + 1 : Nat) : Int) := by rw [IntWalk.i64_in _ (by omega)]; omega
      go_wp2_with fail
      go_region
      go_wp2_with fail
      go_ret
      refine ⟨rfl, rfl, ?_⟩
      exact Below.drewR ((Below.refl _ _).alloc (Nat.le_refl _) _)
end Go.Proofs.YtpcldpnaljheoaaGreatDoor
