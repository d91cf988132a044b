/-
  SinkPlays, walked.
-/
import Derived.Test.YtinamdmefbmnnaaDo3
namespace Go.Proofs.Ytinamdmefbmnnaa
open Go.RowKit

/-- Both sinks, alike. -/
structure Bo (w0 : World) (q p : Nat) (most : Int) (M deep room : Nat) (full : Bool) (s : ByteArray) (w : World) : Prop where
  pl : Pl ⟨w0, q, p, most, 0, none, 0, 0, []⟩ deep s.data.toList room full full s w
  sum : room + s.size = M
theorem Bo.drew {w0 : World} {q p : Nat} {most : Int} {M deep room : Nat} {full : Bool} {s : ByteArray} {w : World} (h : Bo w0 q p most M deep room full s w) : Bo w0 q p most M deep room full s w.drew := by
  have hb : Below w.heap.size w w.drew := ⟨rfl, rfl, rfl, Nat.le_refl _, fun _ _ => rfl⟩
  obtain ⟨h1, h2, h3, _⟩ := h.pl.oth hb.os hb.tape hb.output hb.size (fun k hk _ => hb.block k hk) (show RefAt w.drew _ _ deep full s from h.pl.ref)
  exact ⟨⟨h1, h2, h3, h.pl.p0⟩, h.sum⟩
theorem Bo.str {w0 : World} {q p : Nat} {most : Int} {M deep room : Nat} {full : Bool} {s : ByteArray} {w : World} (h : Bo w0 q p most M deep room full s w) :
    Calls Try.prog 12 #[.pointer (some ⟨q, 0, none⟩)] w fun e w' => e = .returned (.string s) ∧ w' = w := by
  refine (string_any h.pl.run.sk).mono ?_
  rw [show (⟨s.data.toList.toArray⟩ : ByteArray) = s from by simp]
  exact fun e w' h => h
theorem Bo.ln {w0 : World} {q p : Nat} {most : Int} {M deep room : Nat} {full : Bool} {s : ByteArray} {w : World} (h : Bo w0 q p most M deep room full s w) :
    Calls Try.prog 13 #[.pointer (some ⟨q, 0, none⟩)] w fun e w' => e = .returned (.int .i64 (s.size : Nat)) ∧ w' = w := by
  refine (len_any h.pl.run.sk).mono ?_
  rw [len_size]
  exact fun e w' h => h
theorem Bo.fl {w0 : World} {q p : Nat} {most : Int} {M deep room : Nat} {full : Bool} {s : ByteArray} {w : World} (h : Bo w0 q p most M deep room full s w) :
    Calls Try.prog 14 #[.pointer (some ⟨q, 0, none⟩)] w fun e w' => e = .returned (.bool full) ∧ w' = w := full_any h.pl.run.sk
theorem Bo.new (w : World) (most : Int) (M : Nat) : Bo w w.heap.size (w.heap.size + 1) most M 0 M false ⟨#[]⟩ ((w.alloc (.cells #[.slice none 0 0, .int .i64 (M : Nat), .int .i64 0, .bool false] 46)).alloc (.cells #[.int .i64 most, .int .i64 0, .bool false, .string ⟨#[]⟩] 29)) := by
  have h1 := Run.new w M
  have e : (w.alloc (.cells #[.slice none 0 0, .int .i64 (M : Nat), .int .i64 0, .bool false] 46)).heap.size = w.heap.size + 1 := by simp
  refine ⟨⟨h1.alloc _, ?_, ?_, Nat.le_succ _⟩, rfl⟩
  · have := heap_new (w.alloc (.cells #[.slice none 0 0, .int .i64 (M : Nat), .int .i64 0, .bool false] 46)) (.cells #[.int .i64 most, .int .i64 0, .bool false, .string ⟨#[]⟩] 29)
    rw [e] at this
    exact this
  · intro m
    have k4 := (Mine.congr (heap_old _ _ _ h1.sk.lt)).1 m
    rw [mine_new] at k4
    exact absurd k4 (Nat.succ_ne_self _)
theorem Bo.act {w0 : World} {q p : Nat} {most : Int} {M deep room : Nat} {full : Bool} {s : ByteArray} {w : World} (h : Bo w0 q p most M deep room full s w) (hM : (M : Int) = max most 0) (hM2 : M ≤ maxLen) (x : ActV) (hx : IsStrs w0 x.a x.len x.cap x.ss)
    (hk0 : -9223372036854775808 ≤ x.kind) (hk1 : x.kind ≤ 9223372036854775807) (hn : x.len ≤ 20) (hd : deep ≤ 100) (hl : s.size + (flat x.ss).length ≤ 100000) :
    Calls Try.prog 11 #[.pointer (some ⟨q, 0, none⟩), .pointer (some ⟨p, 0, none⟩), .agg #[.int .i64 x.kind, .slice x.a x.len x.cap]] w fun e w' => e = .returned (.bool true) ∧ ∃ deep' room' full' s', Bo w0 q p most M deep' room' full' s' w' ∧ deep' ≤ deep + 1 ∧ s'.size ≤ s.size + (2 * deep + ((flat x.ss).length + 1)) := by
  have h1 : Pl ⟨w0, q, p, most, x.kind, x.a, x.len, x.cap, x.ss⟩ deep s.data.toList room full full s w := ⟨h.pl.run, h.pl.ref, h.pl.pn, h.pl.p0⟩
  refine (do_any ⟨w0, q, p, most, x.kind, x.a, x.len, x.cap, x.ss⟩ M h1 hx rfl (by rw [len_size]; exact h.sum) hM hM2 hk0 hk1 hn hd (by rw [len_size]; exact hl)).mono ?_
  rintro e w' ⟨rfl, d, a, r, f, s', g1, g2, g3, g4, g5⟩
  subst g2
  rw [len_size] at g3 g5
  rw [len_size] at g5
  exact ⟨rfl, d, r, f, s', ⟨⟨g1.run, g1.ref, g1.pn, g1.p0⟩, g3⟩, g4, g5⟩
set_option maxRecDepth 100000 in
set_option maxHeartbeats 6000000 in
theorem sinkPlays_walk (n : Int) (a : Option Addr) (len cap : Nat) (xs : List ActV) (w : World) (hS : IsActs w a len cap xs) (hn0 : -9223372036854775808 ≤ n) (hn1 : n ≤ 9223372036854775807) :
    Calls Try.prog 3 #[.int .i64 n, .slice a len cap] w fun e w' => e = .returned (.bool true) ∧ Below w.heap.size w w' := by
  have HS := Lib.hid hS
  have hcap : len ≤ maxLen := by have := hS.2.1; have := hS.2.2.1; omega
  unfold maxLen at hcap
  clear hS
  obtain ⟨M, hM⟩ : ∃ M : Nat, (M : Int) = max n 0 := ⟨(max n 0).toNat, by omega⟩
  have HM := Lib.hid hM
  have hMm : M ≤ 9223372036854775807 := by omega
  clear hM hn0 hn1
  go_enter Try.func3, Try.ntmps3
  go_wp2_with fail
  refine (great_any a len cap xs w HS.out).mono ?_
  rintro e w1 ⟨⟨g, rfl, hg⟩, rfl⟩
  have HG := Lib.hid hg
  clear hg
  cases g with
  | true =>
    go_wp2_with fail
    refine (awake_any _).mono ?_
    rintro e w2 ⟨rfl, b2⟩
    have B2 := Lib.hid b2
    clear b2
    go_wp2_with fail
    go_ret
    exact ⟨rfl, B2.out⟩
  | false =>
    have F := Lib.hid (HG.out rfl)
    clear HG
    go_wp2_with fail
    refine (new_any n M HM.out _).mono ?_
    rintro e w' ⟨rfl, rfl⟩
    have R0 := Lib.hid (Bo.new w1 n M)
    go_wp2_with fail
    generalize ((w1.alloc (.cells #[.slice none 0 0, .int .i64 ((M : Nat) : Int), .int .i64 0, .bool false] 46)).alloc (.cells #[.int .i64 n, .int .i64 0, .bool false, .string ⟨#[]⟩] 29)) = w2 at R0 ⊢
    go_loopw [7] (fun i wr => ∃ (k deep room : Nat) (full : Bool) (s : ByteArray), i = .int .i64 k ∧ k ≤ len ∧ k ≤ 60 ∧ Bo w1 w1.heap.size (w1.heap.size + 1) n M deep room full s wr ∧ deep ≤ k ∧ s.size ≤ tot (xs.take k) + 121 * k) (fun i _ => 60 - (intOf i).toNat)
    case atStart => exact ⟨0, 0, M, false, ⟨#[]⟩, rfl, Nat.zero_le _, Nat.zero_le _, R0.out, Nat.le_refl _, Nat.zero_le _⟩
    case round =>
      obtain ⟨k, deep, room, full, s, rfl, hk, hk6, hB, hdk, hsk⟩ := hrel
      have B := Lib.hid hB
      clear hB
      by_cases hlt : k < len ∧ k < 60
      · obtain ⟨h1, h2⟩ := hlt
        obtain ⟨x, hx⟩ : ∃ x, xs[k]? = some x := ⟨xs[k]'(by rw [HS.out.1]; exact h1), List.getElem?_eq_getElem _⟩
        rcases HS.out.2.2.2 with h0 | ⟨b, o, rfl, hbl, hcell⟩
        · omega
        · obtain ⟨hc0, hc1, hk0, hk1, hst⟩ := hcell k x hx
          have HC : Hid (∀ W : World, Below w1.heap.size w1 W → W.cell? ⟨b, o + k * 2, none⟩ = some (.int .i64 x.kind) ∧ W.cell? ⟨b, o + k * 2 + 1, none⟩ = some (.slice x.a x.len x.cap)) :=
            Lib.hid (fun W hW => ⟨(hW.cell (p := ⟨b, o + k * 2, none⟩) hbl).trans hc0, (hW.cell (p := ⟨b, o + k * 2 + 1, none⟩) hbl).trans hc1⟩)
          have ht := tot_take hx
          have ht6 := tot_le xs (k + 1) (by omega)
          have hts := F.out.sum
          have hT1 : tot (xs.take k) + (flat x.ss).length ≤ 20000 := by omega
          have TT := Lib.hid ht
          have hfew := F.out.few k x h2 hx
          have C1 := Lib.hid (show ∀ W, Bo w1 w1.heap.size (w1.heap.size + 1) n M deep room full s W → Calls Try.prog 11 #[.pointer (some ⟨w1.heap.size, 0, none⟩), .pointer (some ⟨w1.heap.size + 1, 0, none⟩), .agg #[.int .i64 x.kind, .slice x.a x.len x.cap]] W fun e w' => e = .returned (.bool true) ∧ ∃ deep' room' full' s', Bo w1 w1.heap.size (w1.heap.size + 1) n M deep' room' full' s' w' ∧ deep' ≤ deep + 1 ∧ s'.size ≤ s.size + (2 * deep + ((flat x.ss).length + 1)) from
            fun W hW => hW.act HM.out (by unfold maxLen; omega) x hst hk0 hk1 hfew (by omega) (by omega))
          clear hcell hc0 hc1 hx hst ht ht6 hts hk0 hk1 hfew
          have d1 : decide ((k : Int) < (len : Int)) = true := by simp; omega
          have d2 : decide ((k : Int) < 60) = true := by simp; omega
          have hcc := HC.out _ B.out.drew.pl.run.bel
          have hcw := HC.out _ B.out.pl.run.bel
          go_wp2_with fail
          clear d1 d2 R0 F HS hcap hbl HM
          refine wp_region_any (by kernel_rfl) ?_
          change wpAny _ _ _ _ _ _ _ (World.drew _)
          refine wpAny_take (i := 0) (oi := { dst := some 26, op := Op.move (Operand.tmp 5), type := 25, pos := "law.go:70", after := #[], guard := none }) (v := ?v0) rfl (by kernel_rfl) (by kernel_rfl) (by kernel_rfl) (fun _ _ _ h => h) (Or.inl ⟨by rfl, ?hy0⟩) ?rest0
          case hy0 => (intro W; go_simp; try with_reducible rfl)
          try simp only [Act.put, List.setIfInBounds_toArray, List.set_cons_zero, List.set_cons_succ]
          refine wpAny_take (i := 1) (oi := { dst := some 27, op := Op.move (Operand.tmp 6), type := 27, pos := "law.go:70", after := #[], guard := none }) (v := ?v1) rfl (by kernel_rfl) (by kernel_rfl) (by kernel_rfl) (fun _ _ _ h => h) (Or.inl ⟨by rfl, ?hy1⟩) ?rest1
          case hy1 => (intro W; go_simp; try with_reducible rfl)
          try simp only [Act.put, List.setIfInBounds_toArray, List.set_cons_zero, List.set_cons_succ]
          refine wpAny_take (i := 2) (oi := { dst := some 28, op := Op.move (Operand.tmp 1), type := 22, pos := "law.go:70", after := #[], guard := none }) (v := ?v2) rfl (by kernel_rfl) (by kernel_rfl) (by kernel_rfl) (fun _ _ _ h => h) (Or.inl ⟨by rfl, ?hy2⟩) ?rest2
          case hy2 => (intro W; go_simp; try with_reducible rfl)
          try simp only [Act.put, List.setIfInBounds_toArray, List.set_cons_zero, List.set_cons_succ]
          refine wpAny_take (i := 3) (oi := { dst := some 29, op := Op.move (Operand.tmp 7), type := 3, pos := "law.go:70", after := #[], guard := none }) (v := ?v3) rfl (by kernel_rfl) (by kernel_rfl) (by kernel_rfl) (fun _ _ _ h => h) (Or.inl ⟨by rfl, ?hy3⟩) ?rest3
          case hy3 => (intro W; go_simp; try with_reducible rfl)
          try simp only [Act.put, List.setIfInBounds_toArray, List.set_cons_zero, List.set_cons_succ]
          refine wpAny_take (i := 4) (oi := { dst := some 30, op := Op.indexAddr 22 (Operand.tmp 28) (Operand.tmp 29), type := 0, pos := "law.go:70", after := #[{ on := 2, ground := Ground.data }, { on := 3, ground := Ground.data }], guard := none }) (v := ?v4) rfl (by kernel_rfl) (by kernel_rfl) (by kernel_rfl) (fun _ _ _ h => h) (Or.inl ⟨by rfl, ?hy4⟩) ?rest4
          case hy4 => (intro W; go_simp; try with_reducible rfl)
          try simp only [Act.put, List.setIfInBounds_toArray, List.set_cons_zero, List.set_cons_succ]
          refine wpAny_ready (rs := [5]) (by kernel_rfl) (by simp) ?_
          refine AllReady.cons (o := { dst := some 31, op := Op.load 33 (Operand.tmp 30), type := 33, pos := "law.go:70", after := #[{ on := 4, ground := Ground.data }], guard := none }) rfl (fun K hK => ?_) AllReady.nil
          go_simp
          refine hK _ _ ?_
          clear hK K
          try simp only [Act.put, List.setIfInBounds_toArray, List.set_cons_zero, List.set_cons_succ]
          refine wpAny_ready (rs := [6]) (by kernel_rfl) (by simp) ?_
          refine AllReady.cons (o := { dst := some 32, op := Op.call { callee := Callee.value (Operand.func 11), args := #[Operand.tmp 26, Operand.tmp 27, Operand.tmp 31], argTypes := #[25, 27, 33] }, type := 4, pos := "law.go:70", after := #[{ on := 0, ground := Ground.data }, { on := 1, ground := Ground.data }, { on := 5, ground := Ground.data }], guard := none }) rfl (fun K hK => ?_) AllReady.nil
          go_simp
          go_at_call 11
          refine (C1.out _ B.out.drew).mono ?_
          rintro e w6 ⟨rfl, d', r', f', s', n6, hd6, hs6⟩
          have B6 := Lib.hid n6
          have hx2 := n6.pl.ref.c2
          have hx3 := n6.pl.ref.c3
          clear n6 hcc hcw
          try dsimp only
          refine hK _ _ ?_
          clear hK K
          try simp only [Act.put, List.setIfInBounds_toArray, List.set_cons_zero, List.set_cons_succ]
          have hHeld : (fun W : World => W.cell? ⟨w1.heap.size + 1, 3, none⟩ = some (.string s') ∧ W.cell? ⟨w1.heap.size + 1, 2, none⟩ = some (.bool f')) w6 := ⟨hx3, hx2⟩
          refine wpAny_of_held (S := fun W : World => W.cell? ⟨w1.heap.size + 1, 3, none⟩ = some (.string s') ∧ W.cell? ⟨w1.heap.size + 1, 2, none⟩ = some (.bool f')) _ _ _ _ ?_
          refine wpAnyH_take (i := 7) (oi := { dst := some 33, op := Op.unOp UnOp.not 4 (Operand.tmp 32), type := 4, pos := "law.go:70", after := #[{ on := 6, ground := Ground.data }], guard := none }) (v := ?v7) rfl (by kernel_rfl) (by kernel_rfl) (by kernel_rfl) (fun _ _ _ h => h) (Or.inl ⟨by rfl, ?hy7⟩) hHeld ?rest7
          case hy7 => (intro W hSW; (try dsimp only at hSW); go_simp; try with_reducible rfl)
          try simp only [Act.put, List.setIfInBounds_toArray, List.set_cons_zero, List.set_cons_succ]
          refine wpAnyH_take (i := 8) (oi := { dst := some 34, op := Op.move (Operand.tmp 33), type := 4, pos := "law.go:70", after := #[{ on := 7, ground := Ground.data }, { on := 6, ground := Ground.chain }], guard := none }) (v := ?v8) rfl (by kernel_rfl) (by kernel_rfl) (by kernel_rfl) (fun _ _ _ h => h) (Or.inl ⟨by rfl, ?hy8⟩) hHeld ?rest8
          case hy8 => (intro W hSW; (try dsimp only at hSW); go_simp; try with_reducible rfl)
          try simp only [Act.put, List.setIfInBounds_toArray, List.set_cons_zero, List.set_cons_succ]
          refine wpAnyH_take (i := 9) (oi := { dst := some 35, op := Op.move (Operand.tmp 5), type := 25, pos := "law.go:70", after := #[{ on := 8, ground := Ground.guard }], guard := some (8, false) }) (v := ?v9) rfl (by kernel_rfl) (by kernel_rfl) (by kernel_rfl) (fun _ _ _ h => h) (Or.inl ⟨by rfl, ?hy9⟩) hHeld ?rest9
          case hy9 => (intro W hSW; (try dsimp only at hSW); go_simp; try with_reducible rfl)
          try simp only [Act.put, List.setIfInBounds_toArray, List.set_cons_zero, List.set_cons_succ]
          refine wpAnyH_take (i := 11) (oi := { dst := some 37, op := Op.move (Operand.tmp 6), type := 27, pos := "law.go:70", after := #[{ on := 8, ground := Ground.guard }], guard := some (8, false) }) (v := ?v11) rfl (by kernel_rfl) (by kernel_rfl) (by kernel_rfl) (fun _ _ _ h => h) (Or.inl ⟨by rfl, ?hy11⟩) hHeld ?rest11
          case hy11 => (intro W hSW; (try dsimp only at hSW); go_simp; try with_reducible rfl)
          try simp only [Act.put, List.setIfInBounds_toArray, List.set_cons_zero, List.set_cons_succ]
          refine wpAnyH_take (i := 12) (oi := { dst := some 38, op := Op.nilCheck (Operand.tmp 37), type := 0, pos := "law.go:70", after := #[{ on := 11, ground := Ground.data }, { on := 8, ground := Ground.guard }], guard := some (8, false) }) (v := ?v12) rfl (by kernel_rfl) (by kernel_rfl) (by kernel_rfl) (fun _ _ _ h => h) (Or.inl ⟨by rfl, ?hy12⟩) hHeld ?rest12
          case hy12 => (intro W hSW; (try dsimp only at hSW); go_simp; try with_reducible rfl)
          try simp only [Act.put, List.setIfInBounds_toArray, List.set_cons_zero, List.set_cons_succ]
          refine wpAnyH_take (i := 13) (oi := { dst := some 39, op := Op.fieldAddr 29 (Operand.tmp 38) 3, type := 0, pos := "law.go:70", after := #[{ on := 12, ground := Ground.data }, { on := 8, ground := Ground.guard }], guard := some (8, false) }) (v := ?v13) rfl (by kernel_rfl) (by kernel_rfl) (by kernel_rfl) (fun _ _ _ h => h) (Or.inl ⟨by rfl, ?hy13⟩) hHeld ?rest13
          case hy13 => (intro W hSW; (try dsimp only at hSW); go_simp; try with_reducible rfl)
          try simp only [Act.put, List.setIfInBounds_toArray, List.set_cons_zero, List.set_cons_succ]
          refine wpAnyH_take (i := 14) (oi := { dst := some 40, op := Op.load 9 (Operand.tmp 39), type := 9, pos := "law.go:70", after := #[{ on := 13, ground := Ground.data }, { on := 8, ground := Ground.guard }], guard := some (8, false) }) (v := ?v14) rfl (by kernel_rfl) (by kernel_rfl) (by kernel_rfl) (fun _ _ _ h => h) (Or.inl ⟨by rfl, ?hy14⟩) hHeld ?rest14
          case hy14 => (intro W hSW; (try dsimp only at hSW); go_simp; try with_reducible rfl)
          try simp only [Act.put, List.setIfInBounds_toArray, List.set_cons_zero, List.set_cons_succ]
          refine wpAnyH_ready (rs := [10]) (by kernel_rfl) (by simp) ?_
          refine AllReadyH.cons (o := { dst := some 36, op := Op.call { callee := Callee.value (Operand.func 12), args := #[Operand.tmp 35], argTypes := #[25] }, type := 9, pos := "law.go:70", after := #[{ on := 9, ground := Ground.data }, { on := 8, ground := Ground.chain }, { on := 8, ground := Ground.guard }], guard := some (8, false) }) rfl (fun K hK => ?_) AllReadyH.nil
          go_simp
          go_at_call 12
          refine B6.out.str.mono ?_
          rintro e w7 ⟨rfl, rfl⟩
          try dsimp only
          refine hK.out _ _ hHeld (fun _ => ?_)
          clear hK K
          try simp only [Act.put, List.setIfInBounds_toArray, List.set_cons_zero, List.set_cons_succ]
          refine wpAnyH_take (i := 15) (oi := { dst := some 41, op := Op.binOp BinOp.neq 9 (Operand.tmp 36) (Operand.tmp 40) 9, type := 4, pos := "law.go:70", after := #[{ on := 10, ground := Ground.data }, { on := 14, ground := Ground.data }, { on := 8, ground := Ground.guard }], guard := some (8, false) }) (v := ?v15) rfl (by kernel_rfl) (by kernel_rfl) (by kernel_rfl) (fun _ _ _ h => h) (Or.inl ⟨by rfl, ?hy15⟩) hHeld ?rest15
          case hy15 => (intro W hSW; (try dsimp only at hSW); go_simp; try with_reducible rfl)
          try simp only [Act.put, List.setIfInBounds_toArray, List.set_cons_zero, List.set_cons_succ]
          refine wpAnyH_take (i := 16) (oi := { dst := some 42, op := Op.pick (Operand.tmp 34) (Operand.const (Value.bool true)) (Operand.tmp 41), type := 4, pos := "law.go:70", after := #[{ on := 8, ground := Ground.data }, { on := 15, ground := Ground.data }], guard := none }) (v := ?v16) rfl (by kernel_rfl) (by kernel_rfl) (by kernel_rfl) (fun _ _ _ h => h) (Or.inl ⟨by rfl, ?hy16⟩) hHeld ?rest16
          case hy16 => (intro W hSW; (try dsimp only at hSW); go_simp; try with_reducible rfl)
          try simp only [Act.put, List.setIfInBounds_toArray, List.set_cons_zero, List.set_cons_succ]
          refine wpAnyH_take (i := 17) (oi := { dst := some 43, op := Op.move (Operand.tmp 42), type := 4, pos := "law.go:70", after := #[{ on := 16, ground := Ground.data }, { on := 10, ground := Ground.chain }], guard := none }) (v := ?v17) rfl (by kernel_rfl) (by kernel_rfl) (by kernel_rfl) (fun _ _ _ h => h) (Or.inl ⟨by rfl, ?hy17⟩) hHeld ?rest17
          case hy17 => (intro W hSW; (try dsimp only at hSW); go_simp; try with_reducible rfl)
          try simp only [Act.put, List.setIfInBounds_toArray, List.set_cons_zero, List.set_cons_succ]
          refine wpAnyH_take (i := 18) (oi := { dst := some 44, op := Op.move (Operand.tmp 5), type := 25, pos := "law.go:70", after := #[{ on := 17, ground := Ground.guard }], guard := some (17, false) }) (v := ?v18) rfl (by kernel_rfl) (by kernel_rfl) (by kernel_rfl) (fun _ _ _ h => h) (Or.inl ⟨by rfl, ?hy18⟩) hHeld ?rest18
          case hy18 => (intro W hSW; (try dsimp only at hSW); go_simp; try with_reducible rfl)
          try simp only [Act.put, List.setIfInBounds_toArray, List.set_cons_zero, List.set_cons_succ]
          refine wpAnyH_take (i := 20) (oi := { dst := some 46, op := Op.move (Operand.tmp 6), type := 27, pos := "law.go:70", after := #[{ on := 17, ground := Ground.guard }], guard := some (17, false) }) (v := ?v20) rfl (by kernel_rfl) (by kernel_rfl) (by kernel_rfl) (fun _ _ _ h => h) (Or.inl ⟨by rfl, ?hy20⟩) hHeld ?rest20
          case hy20 => (intro W hSW; (try dsimp only at hSW); go_simp; try with_reducible rfl)
          try simp only [Act.put, List.setIfInBounds_toArray, List.set_cons_zero, List.set_cons_succ]
          refine wpAnyH_take (i := 21) (oi := { dst := some 47, op := Op.nilCheck (Operand.tmp 46), type := 0, pos := "law.go:70", after := #[{ on := 20, ground := Ground.data }, { on := 17, ground := Ground.guard }], guard := some (17, false) }) (v := ?v21) rfl (by kernel_rfl) (by kernel_rfl) (by kernel_rfl) (fun _ _ _ h => h) (Or.inl ⟨by rfl, ?hy21⟩) hHeld ?rest21
          case hy21 => (intro W hSW; (try dsimp only at hSW); go_simp; try with_reducible rfl)
          try simp only [Act.put, List.setIfInBounds_toArray, List.set_cons_zero, List.set_cons_succ]
          refine wpAnyH_take (i := 22) (oi := { dst := some 48, op := Op.fieldAddr 29 (Operand.tmp 47) 3, type := 0, pos := "law.go:70", after := #[{ on := 21, ground := Ground.data }, { on := 17, ground := Ground.guard }], guard := some (17, false) }) (v := ?v22) rfl (by kernel_rfl) (by kernel_rfl) (by kernel_rfl) (fun _ _ _ h => h) (Or.inl ⟨by rfl, ?hy22⟩) hHeld ?rest22
          case hy22 => (intro W hSW; (try dsimp only at hSW); go_simp; try with_reducible rfl)
          try simp only [Act.put, List.setIfInBounds_toArray, List.set_cons_zero, List.set_cons_succ]
          refine wpAnyH_take (i := 23) (oi := { dst := some 49, op := Op.load 9 (Operand.tmp 48), type := 9, pos := "law.go:70", after := #[{ on := 22, ground := Ground.data }, { on := 17, ground := Ground.guard }], guard := some (17, false) }) (v := ?v23) rfl (by kernel_rfl) (by kernel_rfl) (by kernel_rfl) (fun _ _ _ h => h) (Or.inl ⟨by rfl, ?hy23⟩) hHeld ?rest23
          case hy23 => (intro W hSW; (try dsimp only at hSW); go_simp; try with_reducible rfl)
          try simp only [Act.put, List.setIfInBounds_toArray, List.set_cons_zero, List.set_cons_succ]
          refine wpAnyH_take (i := 24) (oi := { dst := some 50, op := Op.call { callee := Callee.builtin Builtin.len, args := #[Operand.tmp 49], argTypes := #[9] }, type := 3, pos := "law.go:70", after := #[{ on := 23, ground := Ground.data }, { on := 17, ground := Ground.guard }], guard := some (17, false) }) (v := ?v24) rfl (by kernel_rfl) (by kernel_rfl) (by kernel_rfl) (fun _ _ _ h => h) (Or.inl ⟨by rfl, ?hy24⟩) hHeld ?rest24
          case hy24 => (intro W hSW; (try dsimp only at hSW); go_simp; try with_reducible rfl)
          try simp only [Act.put, List.setIfInBounds_toArray, List.set_cons_zero, List.set_cons_succ]
          refine wpAnyH_ready (rs := [19]) (by kernel_rfl) (by simp) ?_
          refine AllReadyH.cons (o := { dst := some 45, op := Op.call { callee := Callee.value (Operand.func 13), args := #[Operand.tmp 44], argTypes := #[25] }, type := 3, pos := "law.go:70", after := #[{ on := 18, ground := Ground.data }, { on := 17, ground := Ground.chain }, { on := 17, ground := Ground.guard }], guard := some (17, false) }) rfl (fun K hK => ?_) AllReadyH.nil
          go_simp
          go_at_call 13
          refine B6.out.ln.mono ?_
          rintro e w8 ⟨rfl, rfl⟩
          try dsimp only
          refine hK.out _ _ hHeld (fun _ => ?_)
          clear hK K
          try simp only [Act.put, List.setIfInBounds_toArray, List.set_cons_zero, List.set_cons_succ]
          refine wpAnyH_take (i := 25) (oi := { dst := some 51, op := Op.binOp BinOp.neq 3 (Operand.tmp 45) (Operand.tmp 50) 3, type := 4, pos := "law.go:70", after := #[{ on := 19, ground := Ground.data }, { on := 24, ground := Ground.data }, { on := 17, ground := Ground.guard }], guard := some (17, false) }) (v := ?v25) rfl (by kernel_rfl) (by kernel_rfl) (by kernel_rfl) (fun _ _ _ h => h) (Or.inl ⟨by rfl, ?hy25⟩) hHeld ?rest25
          case hy25 => (intro W hSW; (try dsimp only at hSW); go_simp; try with_reducible rfl)
          try simp only [Act.put, List.setIfInBounds_toArray, List.set_cons_zero, List.set_cons_succ]
          refine wpAnyH_take (i := 26) (oi := { dst := some 52, op := Op.pick (Operand.tmp 43) (Operand.const (Value.bool true)) (Operand.tmp 51), type := 4, pos := "law.go:70", after := #[{ on := 17, ground := Ground.data }, { on := 25, ground := Ground.data }], guard := none }) (v := ?v26) rfl (by kernel_rfl) (by kernel_rfl) (by kernel_rfl) (fun _ _ _ h => h) (Or.inl ⟨by rfl, ?hy26⟩) hHeld ?rest26
          case hy26 => (intro W hSW; (try dsimp only at hSW); go_simp; try with_reducible rfl)
          try simp only [Act.put, List.setIfInBounds_toArray, List.set_cons_zero, List.set_cons_succ]
          refine wpAnyH_take (i := 27) (oi := { dst := some 53, op := Op.move (Operand.tmp 52), type := 4, pos := "law.go:70", after := #[{ on := 26, ground := Ground.data }, { on := 19, ground := Ground.chain }], guard := none }) (v := ?v27) rfl (by kernel_rfl) (by kernel_rfl) (by kernel_rfl) (fun _ _ _ h => h) (Or.inl ⟨by rfl, ?hy27⟩) hHeld ?rest27
          case hy27 => (intro W hSW; (try dsimp only at hSW); go_simp; try with_reducible rfl)
          try simp only [Act.put, List.setIfInBounds_toArray, List.set_cons_zero, List.set_cons_succ]
          refine wpAnyH_take (i := 28) (oi := { dst := some 54, op := Op.move (Operand.tmp 5), type := 25, pos := "law.go:70", after := #[{ on := 27, ground := Ground.guard }], guard := some (27, false) }) (v := ?v28) rfl (by kernel_rfl) (by kernel_rfl) (by kernel_rfl) (fun _ _ _ h => h) (Or.inl ⟨by rfl, ?hy28⟩) hHeld ?rest28
          case hy28 => (intro W hSW; (try dsimp only at hSW); go_simp; try with_reducible rfl)
          try simp only [Act.put, List.setIfInBounds_toArray, List.set_cons_zero, List.set_cons_succ]
          refine wpAnyH_take (i := 30) (oi := { dst := some 56, op := Op.move (Operand.tmp 6), type := 27, pos := "law.go:70", after := #[{ on := 27, ground := Ground.guard }], guard := some (27, false) }) (v := ?v30) rfl (by kernel_rfl) (by kernel_rfl) (by kernel_rfl) (fun _ _ _ h => h) (Or.inl ⟨by rfl, ?hy30⟩) hHeld ?rest30
          case hy30 => (intro W hSW; (try dsimp only at hSW); go_simp; try with_reducible rfl)
          try simp only [Act.put, List.setIfInBounds_toArray, List.set_cons_zero, List.set_cons_succ]
          refine wpAnyH_take (i := 31) (oi := { dst := some 57, op := Op.nilCheck (Operand.tmp 56), type := 0, pos := "law.go:70", after := #[{ on := 30, ground := Ground.data }, { on := 27, ground := Ground.guard }], guard := some (27, false) }) (v := ?v31) rfl (by kernel_rfl) (by kernel_rfl) (by kernel_rfl) (fun _ _ _ h => h) (Or.inl ⟨by rfl, ?hy31⟩) hHeld ?rest31
          case hy31 => (intro W hSW; (try dsimp only at hSW); go_simp; try with_reducible rfl)
          try simp only [Act.put, List.setIfInBounds_toArray, List.set_cons_zero, List.set_cons_succ]
          refine wpAnyH_take (i := 32) (oi := { dst := some 58, op := Op.fieldAddr 29 (Operand.tmp 57) 2, type := 0, pos := "law.go:70", after := #[{ on := 31, ground := Ground.data }, { on := 27, ground := Ground.guard }], guard := some (27, false) }) (v := ?v32) rfl (by kernel_rfl) (by kernel_rfl) (by kernel_rfl) (fun _ _ _ h => h) (Or.inl ⟨by rfl, ?hy32⟩) hHeld ?rest32
          case hy32 => (intro W hSW; (try dsimp only at hSW); go_simp; try with_reducible rfl)
          try simp only [Act.put, List.setIfInBounds_toArray, List.set_cons_zero, List.set_cons_succ]
          refine wpAnyH_take (i := 33) (oi := { dst := some 59, op := Op.load 4 (Operand.tmp 58), type := 4, pos := "law.go:70", after := #[{ on := 32, ground := Ground.data }, { on := 27, ground := Ground.guard }], guard := some (27, false) }) (v := ?v33) rfl (by kernel_rfl) (by kernel_rfl) (by kernel_rfl) (fun _ _ _ h => h) (Or.inl ⟨by rfl, ?hy33⟩) hHeld ?rest33
          case hy33 => (intro W hSW; (try dsimp only at hSW); go_simp; try with_reducible rfl)
          try simp only [Act.put, List.setIfInBounds_toArray, List.set_cons_zero, List.set_cons_succ]
          refine wpAnyH_ready (rs := [29]) (by kernel_rfl) (by simp) ?_
          refine AllReadyH.cons (o := { dst := some 55, op := Op.call { callee := Callee.value (Operand.func 14), args := #[Operand.tmp 54], argTypes := #[25] }, type := 4, pos := "law.go:70", after := #[{ on := 28, ground := Ground.data }, { on := 27, ground := Ground.chain }, { on := 27, ground := Ground.guard }], guard := some (27, false) }) rfl (fun K hK => ?_) AllReadyH.nil
          go_simp
          go_at_call 14
          refine B6.out.fl.mono ?_
          rintro e w9 ⟨rfl, rfl⟩
          try dsimp only
          refine hK.out _ _ hHeld (fun _ => ?_)
          clear hK K
          try simp only [Act.put, List.setIfInBounds_toArray, List.set_cons_zero, List.set_cons_succ]
          refine wpAnyH_take (i := 34) (oi := { dst := some 60, op := Op.binOp BinOp.neq 4 (Operand.tmp 55) (Operand.tmp 59) 4, type := 4, pos := "law.go:70", after := #[{ on := 29, ground := Ground.data }, { on := 33, ground := Ground.data }, { on := 27, ground := Ground.guard }], guard := some (27, false) }) (v := ?v34) rfl (by kernel_rfl) (by kernel_rfl) (by kernel_rfl) (fun _ _ _ h => h) (Or.inl ⟨by rfl, ?hy34⟩) hHeld ?rest34
          case hy34 => (intro W hSW; (try dsimp only at hSW); go_simp; try with_reducible rfl)
          try simp only [Act.put, List.setIfInBounds_toArray, List.set_cons_zero, List.set_cons_succ]
          refine wpAnyH_take (i := 35) (oi := { dst := some 61, op := Op.pick (Operand.tmp 53) (Operand.const (Value.bool true)) (Operand.tmp 60), type := 4, pos := "law.go:70", after := #[{ on := 27, ground := Ground.data }, { on := 34, ground := Ground.data }], guard := none }) (v := ?v35) rfl (by kernel_rfl) (by kernel_rfl) (by kernel_rfl) (fun _ _ _ h => h) (Or.inl ⟨by rfl, ?hy35⟩) hHeld ?rest35
          case hy35 => (intro W hSW; (try dsimp only at hSW); go_simp; try with_reducible rfl)
          try simp only [Act.put, List.setIfInBounds_toArray, List.set_cons_zero, List.set_cons_succ]
          refine wpAnyH_done (by kernel_rfl) ?_ _
          go_wp2_with fail
          go_roundw
          case rel => exact ⟨k + 1, d', r', f', s', by go_num, by omega, by omega, B6.out, by omega, by rw [TT.out]; omega⟩
          case measure => simp [intOf]; omega
      · by_cases hkl : k < len
        · have d1 : decide ((k : Int) < (len : Int)) = true := by simp; omega
          have d2 : decide ((k : Int) < 60) = false := by simp; omega
          go_wp2_with fail
          refine (awake_any _).mono ?_
          rintro e w10 ⟨rfl, b10⟩
          have B10 := Lib.hid (B.out.pl.run.bel.trans (b10.mono B.out.pl.run.bel.size))
          clear b10
          go_wp2_with fail
          go_ret
          exact ⟨rfl, B10.out⟩
        · have d1 : decide ((k : Int) < (len : Int)) = false := by simp; omega
          go_wp2_with fail
          refine (awake_any _).mono ?_
          rintro e w10 ⟨rfl, b10⟩
          have B10 := Lib.hid (B.out.pl.run.bel.trans (b10.mono B.out.pl.run.bel.size))
          clear b10
          go_wp2_with fail
          go_ret
          exact ⟨rfl, B10.out⟩
end Go.Proofs.Ytinamdmefbmnnaa
