/-
  The document's reader of expressions, walked: the sign of a level that stands at a place.
-/
import Derived.Test.YtpcldpnaljheoaaGreatDoorRu8
namespace Go.Proofs.YtpcldpnaljheoaaGreatDoor
open Go.RowKit Go.Deep Go.Sort

def twoW (x : ByteArray) : Option (ByteArray × ByteArray) :=
  if x = ⟨#[111, 114, 32, 101, 108, 115, 101]⟩ then some (orB, elseB) else if x = ⟨#[97, 110, 100, 32, 116, 104, 101, 110]⟩ then some (andB, thenB) else none
def sgW (x : ByteArray) : List ByteArray := match twoW x with
  | some (a, b) => [a, b]
  | none => [x]
def hitR (ts : List Tok) (k : Nat) (x : ByteArray) : Bool := match twoW x with
  | some (a, b) => isW (tkAt ts k) [a] && isW (tkAt ts (k + 1)) [b]
  | none => isW (tkAt ts k) [x]
def signR (ts : List Tok) (k : Nat) : List (ByteArray × Nat) → Nat × Nat
  | [] => (0, 0)
  | (x, o) :: r => if hitR ts k x = true then (o, (sgW x).length) else signR ts k r
/-- A sign of one word or of two. -/
def OkW (x : ByteArray) : Prop := x.size ≤ 100 ∧ ((twoW x = none ∧ ∀ k, k < x.size → X.bt x k ≠ 32) ∨ ∃ q a b, twoW x = some (a, b) ∧ q < x.size ∧ (∀ k, k < q → X.bt x k ≠ 32) ∧ X.bt x q = 32 ∧ x.extract 0 q = a ∧ x.extract (q + 1) x.size = b)
theorem okW_all : ∀ x ∈ rowS 1 ++ rowS 2 ++ rowS 3, OkW x := by
  intro x hx
  simp only [rowS, List.cons_append, List.nil_append, List.mem_cons, List.mem_nil_iff, or_false] at hx
  rcases hx with rfl | rfl | rfl | rfl | rfl | rfl | rfl | rfl | rfl | rfl | rfl | rfl | rfl | rfl | rfl
  all_goals first
    | exact ⟨by decide, .inl ⟨by decide, by decide⟩⟩
    | exact ⟨by decide, .inr ⟨2, orB, elseB, by decide, by decide, by decide, by decide, by decide, by decide⟩⟩
    | exact ⟨by decide, .inr ⟨3, andB, thenB, by decide, by decide, by decide, by decide, by decide, by decide⟩⟩
theorem okW_row {lv : Nat} (h1 : 1 ≤ lv) (h3 : lv ≤ 3) {x : ByteArray} (h : x ∈ rowS lv) : OkW x := by
  apply okW_all
  rcases (by omega : lv = 1 ∨ lv = 2 ∨ lv = 3) with rfl | rfl | rfl
  · simp [h]
  · simp [h]
  · simp [h]
theorem rwords_any {x : ByteArray} (hx : OkW x) (w : World) :
    Calls Tryz.prog 138 #[.string x] w fun e w' => e = .returned (.slice (some ⟨w.heap.size, 0, none⟩) (sgW x).length (sgW x).length) ∧ w'.heap = (w.alloc (.cells ((sgW x).map Value.string).toArray 9)).heap ∧ Below w.heap.size w w' := by
  obtain ⟨hs, h⟩ := hx
  rcases h with ⟨h1, h2⟩ | ⟨q, a, b, h1, h2, h3, h4, h5, h6⟩
  · refine (rwords_one x hs h2 w).mono ?_
    rintro e w' ⟨rfl, rfl⟩
    unfold sgW
    rw [h1]
    exact ⟨rfl, rfl, (Below.refl _ _).alloc (Nat.le_refl _) _⟩
  · refine (rwords_two x q h2 hs h3 h4 w).mono ?_
    rintro e w' ⟨rfl, h7, h8⟩
    unfold sgW
    rw [h1]
    rw [h5, h6] at h7
    exact ⟨rfl, h7, h8⟩
theorem rowLen (lv : Nat) : (rowO lv).length = (rowS lv).length := by
  unfold rowO rowS
  split <;> rfl
theorem rowLe (lv : Nat) : (rowS lv).length ≤ 6 := by
  unfold rowS
  split <;> decide
theorem rowOle (lv : Nat) : ∀ o ∈ rowO lv, o ≤ 24 := by
  unfold rowO
  split <;> decide
theorem rowW_below (lv : Nat) (w : World) : Below w.heap.size w (rowW lv w) := ((Below.refl _ _).alloc (Nat.le_refl _) _).alloc (by simp) _
theorem rowW_size (lv : Nat) (w : World) : (rowW lv w).heap.size = w.heap.size + 2 := by simp [rowW]
theorem rowW_s {lv : Nat} (w : World) {j : Nat} {x : ByteArray} (h : (rowS lv)[j]? = some x) : (rowW lv w).cell? ⟨w.heap.size, j, none⟩ = some (.string x) := by
  have h0 : (rowW lv w).heap[w.heap.size]? = some (.cells ((rowS lv).map Value.string).toArray 9) :=
    (((Below.refl (w.heap.size + 1) (w.alloc (.cells ((rowS lv).map Value.string).toArray 9))).alloc (by simp) (.cells ((rowO lv).map fun o => Value.int .i64 (o : Nat)).toArray 3)).block w.heap.size (by omega)).trans (heap_new w _)
  rw [box_cells h0]
  simp [h]
theorem rowW_o {lv : Nat} (w : World) {j o : Nat} (h : (rowO lv)[j]? = some o) : (rowW lv w).cell? ⟨w.heap.size + 1, j, none⟩ = some (.int .i64 (o : Nat)) := by
  have h0 := heap_new (w.alloc (.cells ((rowS lv).map Value.string).toArray 9)) (.cells ((rowO lv).map fun o => Value.int .i64 (o : Nat)).toArray 3)
  rw [show (w.alloc (.cells ((rowS lv).map Value.string).toArray 9)).heap.size = w.heap.size + 1 by simp] at h0
  show ((w.alloc (.cells ((rowS lv).map Value.string).toArray 9)).alloc (.cells ((rowO lv).map fun o => Value.int .i64 (o : Nat)).toArray 3)).cell? ⟨w.heap.size + 1, j, none⟩ = _
  rw [box_cells h0]
  simp [h]
theorem zip_drop {lv j : Nat} {x : ByteArray} {o : Nat} (h : (rowS lv)[j]? = some x) (h' : (rowO lv)[j]? = some o) : ((rowS lv).zip (rowO lv)).drop j = (x, o) :: ((rowS lv).zip (rowO lv)).drop (j + 1) := by
  have hz : ((rowS lv).zip (rowO lv))[j]? = some (x, o) := by rw [List.getElem?_zip_eq_some]; exact ⟨h, h'⟩
  obtain ⟨hl, he⟩ := List.getElem?_eq_some_iff.1 hz
  rw [← he]
  exact List.drop_eq_getElem_cons hl
set_option maxRecDepth 100000 in
set_option maxHeartbeats 4000000 in
theorem rsign_any {g cap : Nat} {ts : List Tok} (lv : Nat) (hl1 : 1 ≤ lv) (hl3 : lv ≤ 3) (k : Nat) (hk : k ≤ 70000) {w : World} (h : TkW g ts w) :
    Calls Tryz.prog 88 #[.int .i64 0, .int .i64 (lv : Nat), .slice (some ⟨g, 0, none⟩) ts.length cap, .int .i64 (k : Nat)] w fun e w' => e = .returned (.tuple #[.int .i64 ((signR ts k ((rowS lv).zip (rowO lv))).1 : Nat), .int .i64 ((signR ts k ((rowS lv).zip (rowO lv))).2 : Nat)]) ∧ Below w.heap.size w w' := by
  generalize hr : signR ts k ((rowS lv).zip (rowO lv)) = R
  have HR := Lib.hid hr
  have HW := Lib.hid (rrow_any lv hl1 hl3 w)
  have T0 := Lib.hid (h.below (rowW_below lv w))
  have B0 := Lib.hid (rowW_below lv w)
  have hn6 := rowLe lv
  have hw1 : IntKind.i64.wrap ((k : Int) + 1) = ((k + 1 : Nat) : Int) := by rw [IntWalk.i64_in _ (by omega)]; omega
  clear hr h
  generalize hn : (rowS lv).length = n at *
  go_enter Tryz.func88, Tryz.ntmps88
  go_wp2_with fail
  refine HW.out.mono ?_
  rintro e w0 ⟨rfl, rfl⟩
  clear HW
  go_wp2_with fail
  go_loopw [12] (fun v wr => ∃ j : Nat, v = .int .i64 (j : Nat) ∧ j ≤ n ∧ Below (rowW lv w).heap.size (rowW lv w) wr ∧ signR ts k (((rowS lv).zip (rowO lv)).drop j) = R) (fun v _ => n - (intOf v).toNat)
  case atStart => exact ⟨0, rfl, Nat.zero_le _, Below.refl _ _, HR.out⟩
  case round =>
    obtain ⟨j, rfl, hj, hB, hS⟩ := hrel
    have BB := Lib.hid hB
    have HS := Lib.hid hS
    have BW := Lib.hid (B0.out.trans (hB.mono B0.out.size))
    have TT := Lib.hid (T0.out.below hB)
    have hsz := rowW_size lv w
    have hsz2 := hB.size
    by_cases hlt : j < n
    · obtain ⟨x, hx⟩ : ∃ x, (rowS lv)[j]? = some x := ⟨_, List.getElem?_eq_getElem (by omega)⟩
      obtain ⟨o, ho⟩ : ∃ o, (rowO lv)[j]? = some o := ⟨_, List.getElem?_eq_getElem (by rw [rowLen]; omega)⟩
      have cx := (cell_eq (o := j) (hB.block w.heap.size (by omega))).trans (rowW_s w hx)
      have CO := Lib.hid ((cell_eq (o := j) (hB.block (w.heap.size + 1) (by omega))).trans (rowW_o w ho))
      have OK := okW_row hl1 hl3 (List.mem_of_getElem? hx)
      have HWD := Lib.hid (rwords_any OK wr)
      rw [zip_drop hx ho] at HS
      have hwj : IntKind.i64.wrap ((j : Int) + 1) = ((j + 1 : Nat) : Int) := by rw [IntWalk.i64_in _ (by omega)]; omega
      have a1 : (0 : Int) ≤ (j : Int) := by omega
      have a2 : (j : Int) < (n : Int) := by omega
      have d1 : decide ((j : Int) < (n : Int)) = true := by simp; omega
      clear hS hB hx ho OK
      unfold sgW at HWD
      cases ht : twoW x with
      | none =>
        rw [ht] at HWD
        have HS1 := Lib.hid (show (if isW (tkAt ts k) [x] = true then (o, 1) else signR ts k (((rowS lv).zip (rowO lv)).drop (j + 1))) = R by
          rw [← HS.out]; conv => rhs; unfold signR hitR sgW
          rw [ht]; rfl)
        clear HS ht
        go_wp2_with fail
        refine HWD.out.mono ?_
        rintro e w1 ⟨rfl, hh, b1⟩
        have K1 : w1.heap[wr.heap.size]? = some (.cells #[.string x] 9) := by rw [hh]; exact heap_new wr _
        have k1 := box_cells K1
        have TI := Lib.hid (ris_any (cap := cap) k x (TT.out.below b1))
        have B1 := Lib.hid (BB.out.trans (b1.mono BB.out.size))
        have W1 := Lib.hid (BW.out.trans (b1.mono BW.out.size))
        have KK := Lib.hid K1
        have co := (cell_eq (o := j) (b1.block (w.heap.size + 1) (by omega))).trans CO.out
        have lk1 := heap_lt K1
        clear HWD hh b1 K1
        cases hb : isW (tkAt ts k) [x] with
        | true =>
          obtain rfl : R = (o, 1) := by rw [← HS1.out, if_pos hb]
          rw [hb] at TI
          clear HS1 hb
          go_wp2_with fail
          refine TI.out.mono ?_
          rintro e w2 ⟨rfl, b2⟩
          have W2 := Lib.hid (W1.out.trans (b2.mono W1.out.size))
          have co2 := (cell_eq (o := j) (b2.block (w.heap.size + 1) (by omega))).trans co
          clear TI b2
          go_wp2_with fail
          exact bodyPost_ret (v := .tuple #[.int .i64 (o : Nat), .int .i64 1]) (by simp [results, Tryz.results88, go_sem]) rfl ⟨rfl, W2.out⟩
        | false =>
          have HS2 := Lib.hid (show signR ts k (((rowS lv).zip (rowO lv)).drop (j + 1)) = R by rw [← HS1.out, if_neg (by rw [hb]; decide)])
          rw [hb] at TI
          clear HS1 hb
          go_wp2_with fail
          refine TI.out.mono ?_
          rintro e w2 ⟨rfl, b2⟩
          have B2 := Lib.hid (B1.out.trans (b2.mono B1.out.size))
          clear TI b2
          go_wp2_with fail
          go_roundw
          case rel => exact ⟨j + 1, by go_num, by omega, B2.out, HS2.out⟩
          case measure => simp [intOf]; omega
      | some ab =>
        obtain ⟨a, b⟩ := ab
        rw [ht] at HWD
        have HS1 := Lib.hid (show (if (isW (tkAt ts k) [a] && isW (tkAt ts (k + 1)) [b]) = true then (o, 2) else signR ts k (((rowS lv).zip (rowO lv)).drop (j + 1))) = R by
          rw [← HS.out]; conv => rhs; unfold signR hitR sgW
          rw [ht]; rfl)
        clear HS ht
        go_wp2_with fail
        refine HWD.out.mono ?_
        rintro e w1 ⟨rfl, hh, b1⟩
        have K1 : w1.heap[wr.heap.size]? = some (.cells #[.string a, .string b] 9) := by rw [hh]; exact heap_new wr _
        have k1 := box_cells K1
        have TI := Lib.hid (ris_any (cap := cap) k a (TT.out.below b1))
        have T1 := Lib.hid (TT.out.below b1)
        have B1 := Lib.hid (BB.out.trans (b1.mono BB.out.size))
        have W1 := Lib.hid (BW.out.trans (b1.mono BW.out.size))
        have KK := Lib.hid K1
        have co := (cell_eq (o := j) (b1.block (w.heap.size + 1) (by omega))).trans CO.out
        have lk1 := heap_lt K1
        clear HWD hh b1 K1
        cases hb : isW (tkAt ts k) [a] with
        | false =>
          have HS2 := Lib.hid (show signR ts k (((rowS lv).zip (rowO lv)).drop (j + 1)) = R by rw [← HS1.out, hb, Bool.false_and, if_neg (by decide)])
          rw [hb] at TI
          clear HS1 hb
          go_wp2_with fail
          refine TI.out.mono ?_
          rintro e w2 ⟨rfl, b2⟩
          have B2 := Lib.hid (B1.out.trans (b2.mono B1.out.size))
          clear TI b2
          go_wp2_with fail
          go_roundw
          case rel => exact ⟨j + 1, by go_num, by omega, B2.out, HS2.out⟩
          case measure => simp [intOf]; omega
        | true =>
          rw [hb] at TI HS1
          clear hb
          go_wp2_with fail
          refine TI.out.mono ?_
          rintro e w2 ⟨rfl, b2⟩
          have TJ := Lib.hid (ris_any (cap := cap) (k + 1) b (T1.out.below b2))
          have B2 := Lib.hid (B1.out.trans (b2.mono B1.out.size))
          have W2 := Lib.hid (W1.out.trans (b2.mono W1.out.size))
          have k2 := box_cells ((b2.block _ lk1).trans KK.out)
          have co2 := (cell_eq (o := j) (b2.block (w.heap.size + 1) (by omega))).trans co
          have hz2 := b2.size
          clear TI b2 k1 co
          cases hc : isW (tkAt ts (k + 1)) [b] with
          | true =>
            obtain rfl : R = (o, 2) := by rw [← HS1.out, hc]; rfl
            rw [hc] at TJ
            clear HS1 hc
            go_wp2_with fail
            refine TJ.out.mono ?_
            rintro e w3 ⟨rfl, b3⟩
            have W3 := Lib.hid (W2.out.trans (b3.mono W2.out.size))
            have co3 := (cell_eq (o := j) (b3.block (w.heap.size + 1) (by omega))).trans co2
            clear TJ b3
            go_wp2_with fail
            exact bodyPost_ret (v := .tuple #[.int .i64 (o : Nat), .int .i64 2]) (by simp [results, Tryz.results88, go_sem]) rfl ⟨rfl, W3.out⟩
          | false =>
            have HS2 := Lib.hid (show signR ts k (((rowS lv).zip (rowO lv)).drop (j + 1)) = R by rw [← HS1.out, hc]; rfl)
            rw [hc] at TJ
            clear HS1 hc
            go_wp2_with fail
            refine TJ.out.mono ?_
            rintro e w3 ⟨rfl, b3⟩
            have B3 := Lib.hid (B2.out.trans (b3.mono B2.out.size))
            clear TJ b3
            go_wp2_with fail
            go_roundw
            case rel => exact ⟨j + 1, by go_num, by omega, B3.out, HS2.out⟩
            case measure => simp [intOf]; omega
    · obtain rfl : j = n := by omega
      have hnil : ((rowS lv).zip (rowO lv)).drop j = [] := List.drop_eq_nil_of_le (by rw [List.length_zip, rowLen]; omega)
      obtain rfl : R = (0, 0) := by rw [← HS.out, hnil]; rfl
      have d1 : decide ((j : Int) < (j : Int)) = false := by simp
      go_wp2_with fail
      exact bodyPost_ret (v := .tuple #[.int .i64 0, .int .i64 0]) (by simp [results, Tryz.results88, go_sem]) rfl ⟨rfl, BW.out⟩
end Go.Proofs.YtpcldpnaljheoaaGreatDoor
