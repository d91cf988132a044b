/-
  How deep and how long an expression is: the program's measure and the document's agree on what is read.
-/
import Derived.Test.YtpcldpnaljheoaaGreatDoorRdp
import Derived.Test.YtpcldpnaljheoaaGreatDoorZz3
import Derived.Test.YtpcldpnaljheoaaGreatDoorZz4
namespace Go.Proofs.YtpcldpnaljheoaaGreatDoor
open Go.RowKit Go.Deep Go.Sort

/-- An expression as it is read: no 'up'; but for calls it has two operands at most. -/
inductive Tm : List D → Prop where
  | mk (op n : Int) (nm fd : ByteArray) (l : List (List D)) : op ≠ 25 → (op = 7 ∨ l.length ≤ 2) → (∀ x ∈ l, Tm x) → Tm [.int op, .int n, .str nm, .str fd, .row l]
  | row (l : List (List D)) : (∀ x ∈ l, Tm x) → Tm [.row l]
theorem Tm.els {l : List (List D)} (h : Tm [.row l]) : ∀ x ∈ l, Tm x := by
  cases h with
  | row _ h => exact h
theorem tm_0 (op n : Int) (nm fd : ByteArray) (h : op ≠ 25) : Tm (mkE op n nm fd []) := .mk _ _ _ _ _ h (.inr (by simp)) (by simp)
theorem tm_1 (op n : Int) (nm fd : ByteArray) (h : op ≠ 25) {e : List D} (he : Tm e) : Tm (mkE op n nm fd [e]) := .mk _ _ _ _ _ h (.inr (by simp)) (by simpa using he)
theorem tm_2 (op n : Int) (nm fd : ByteArray) (h : op ≠ 25) {a b : List D} (ha : Tm a) (hb : Tm b) : Tm (mkE op n nm fd [a, b]) :=
  .mk _ _ _ _ _ h (.inr (by simp)) fun x hx => by
    rcases List.mem_cons.1 hx with rfl | hx
    · exact ha
    · rw [List.mem_singleton.1 hx]; exact hb
theorem opFrom_lt : ∀ (l : List ByteArray) (k : Nat) (t : ByteArray), opFrom l k t = 0 ∨ opFrom l k t < k + l.length
  | [], k, t => .inl rfl
  | x :: r, k, t => by
    unfold opFrom
    split
    · right; simp only [List.length_cons]; omega
    · rcases opFrom_lt r (k + 1) t with h | h
      · exact .inl h
      · right; simp only [List.length_cons]; omega
theorem opS_ne {l : List ByteArray} {S : List Bt} {o : Nat} (h : OpS l S o) : (o : Int) ≠ 25 := by
  cases h with
  | one t o _ e =>
    have : signsP.length = 15 := rfl
    have h2 : o = 0 ∨ o < 10 + signsP.length := by rw [e]; exact opFrom_lt signsP 10 t.text
    omega
  | orElse t u _ _ _ => decide
  | andThen t u _ _ _ => decide
theorem der_tm {k : Nat} {T : List Bt} {e : List D} (h : Der k T e) : Tm e := by
  induction h with
  | int t h => exact tm_0 _ _ _ _ (by decide)
  | chr t h => exact tm_0 _ _ _ _ (by decide)
  | fls t h => exact tm_0 _ _ _ _ (by decide)
  | tru t h => exact tm_0 _ _ _ _ (by decide)
  | no t T e h _ ih => exact tm_1 _ _ _ _ (by decide) ih
  | par t u T e h _ _ ih => exact ih
  | var t h => exact tm_0 _ _ _ _ (by decide)
  | idx t u v T e _ _ _ _ ih => exact tm_1 _ _ _ _ (by decide) ih
  | fld t u v _ _ _ => exact tm_0 _ _ _ _ (by decide)
  | call0 t u v _ _ _ => exact tm_0 _ _ _ _ (by decide)
  | call t u T l _ _ _ ih => exact .mk _ _ _ _ _ (by decide) (.inl rfl) ih.els
  | last u T e _ _ ih => exact .row _ (by simpa using ih)
  | more u T T' e l _ _ _ ih ih' =>
    refine .row _ fun x hx => ?_
    rcases List.mem_cons.1 hx with rfl | hx
    · exact ih
    · exact ih'.els x hx
  | up3 T e _ ih => exact ih
  | up2 T e _ ih => exact ih
  | up1 T e _ ih => exact ih
  | mul T S T' o a b _ hS _ ih ih' => exact tm_2 _ _ _ _ (opS_ne hS) ih ih'
  | neg t T e h _ ih => exact tm_1 _ _ _ _ (by decide) ih
  | add T S T' o a b _ hS _ ih ih' => exact tm_2 _ _ _ _ (opS_ne hS) ih ih'
  | cmp T S T' o a b _ hS _ ih ih' => exact tm_2 _ _ _ _ (opS_ne hS) ih ih'

def mxL (f : List D → Nat) : List (List D) → Nat
  | [] => 0
  | x :: l => max (f x) (mxL f l)
theorem mxL_app (f : List D → Nat) : ∀ (a b : List (List D)), mxL f (a ++ b) = max (mxL f a) (mxL f b)
  | [], b => by simp [mxL]
  | x :: a, b => by
    rw [List.cons_append]
    simp only [mxL, mxL_app f a b]
    omega
theorem cntd_up {x : List D} (h : ShE x) : cntd x = !isUp x := by
  cases h with
  | mk op n nm fd l _ =>
    show decide (op ≠ 25) = !(op == 25)
    by_cases h : op = 25
    · simp [h]
    · simp [h]
theorem fold_mx (f : List D → Nat) : ∀ (l : List (List D)) (a : Nat), (∀ x ∈ l, ShE x) → l.foldl (depF f) a = max a (mxL f (l.filter cntd))
  | [], a, _ => by simp [mxL]
  | x :: r, a, h => by
    rw [List.foldl_cons, fold_mx f r _ fun z hz => h z (List.mem_cons_of_mem _ hz)]
    have hc := cntd_up (h x (List.mem_cons_self ..))
    unfold depF
    cases hu : isUp x with
    | true =>
      rw [if_pos rfl, List.filter_cons_of_neg (by rw [hc, hu]; decide)]
    | false =>
      rw [if_neg (by decide), List.filter_cons_of_pos (by rw [hc, hu]; rfl)]
      simp only [mxL]
      omega
theorem dep_kids {M : Nat} {x : List D} (h : ShE x) : dep (M + 1) x = mxL (dep M) ((kidsX x).filter cntd) + 1 := by
  cases h with
  | mk op n nm fd l hl =>
    show l.foldl (depF (dep M)) 0 + 1 = mxL (dep M) (l.filter cntd) + 1
    rw [fold_mx (dep M) l 0 hl]
    omega
theorem mx_next (M : Nat) : ∀ (row : List (List D)), (∀ z ∈ row, ShE z) → row ≠ [] → mxL (dep (M + 1)) row = 1 + mxL (dep M) (nextRow row)
  | [], _, h => absurd rfl h
  | x :: r, h, _ => by
    have hx := dep_kids (M := M) (h x (List.mem_cons_self ..))
    have hn : nextRow (x :: r) = (kidsX x).filter cntd ++ nextRow r := by unfold nextRow; rw [List.flatMap_cons]
    rw [hn, mxL_app]
    show max (dep (M + 1) x) (mxL (dep (M + 1)) r) = _
    rw [hx]
    by_cases hr : r = []
    · subst hr
      simp [mxL, nextRow]
      omega
    · rw [mx_next M r (fun z hz => h z (List.mem_cons_of_mem _ hz)) hr]
      omega
theorem nRows_0 {row : List (List D)} (h : nRows row ≤ 0) : row = [] := by
  cases row with
  | nil => rfl
  | cons x r => simp only [nRows] at h; omega
theorem measP_dep : ∀ (m M : Nat) (row : List (List D)) (d lo : Nat), (∀ z ∈ row, ShE z) → nRows row ≤ m → m ≤ M → (measP m row d lo).1 = d + mxL (dep M) row
  | 0, M, row, d, lo, _, hn, _ => by
    rw [nRows_0 hn]
    simp [measP, mxL]
  | m + 1, M, row, d, lo, hs, hn, hM => by
    unfold measP
    by_cases hr : row = []
    · rw [if_pos hr, hr]
      simp [mxL]
    · obtain ⟨M, rfl⟩ : ∃ M', M = M' + 1 := ⟨M - 1, by omega⟩
      have h1 := nRows_next row hs
      have h2 : 1 ≤ row.length := List.length_pos_iff.2 hr
      rw [if_neg hr, measP_dep m M (nextRow row) (d + 1) _ (shE_next hs) (by omega) (by omega), mx_next M row hs hr]
      omega

theorem gRows_app2 : ∀ (a b : List (List D)), gRows (a ++ b) = max (gRows a) (gRows b)
  | [], b => by simp [gRows]
  | x :: a, b => by
    rw [List.cons_append]
    simp only [gRows, gRows_app2 a b]
    omega
theorem tm_cnt {x : List D} (h : Tm x) (hs : ShE x) : cntd x = true := by
  cases hs with
  | mk op n nm fd l _ =>
    cases h with
    | mk _ _ _ _ _ h _ _ => show decide (op ≠ 25) = true; exact decide_eq_true h
theorem tm_kids {x : List D} (h : Tm x) (hs : ShE x) : (∀ z ∈ kidsX x, Tm z) ∧ (kidsX x).filter cntd = kidsX x ∧ (opX x = 7 ∨ (kidsX x).length ≤ 2) ∧ gRow x = max (kidsX x).length (gRows (kidsX x)) := by
  cases hs with
  | mk op n nm fd l hl =>
    cases h with
    | mk _ _ _ _ _ h1 h2 h3 =>
      refine ⟨h3, List.filter_eq_self.2 fun z hz => tm_cnt (h3 z hz) (hl z hz), h2, gRow_E op n nm fd l⟩
theorem tm_next {row : List (List D)} (ht : ∀ z ∈ row, Tm z) (hs : ∀ z ∈ row, ShE z) : ∀ z ∈ nextRow row, Tm z := fun z hz => by
  obtain ⟨x, hx, hz⟩ := List.mem_flatMap.1 hz
  exact (tm_kids (ht x hx) (hs x hx)).1 z (List.mem_filter.1 hz).1
theorem long_next : ∀ (row : List (List D)) (lo : Nat), (∀ z ∈ row, Tm z) → (∀ z ∈ row, ShE z) → ((512 < longFrom lo row ∨ 512 < gRows (nextRow row)) ↔ (512 < lo ∨ 512 < gRows row))
  | [], lo, _, _ => by simp [longFrom, nextRow, gRows]
  | x :: r, lo, ht, hs => by
    obtain ⟨_, h2, h3, h4⟩ := tm_kids (ht x (List.mem_cons_self ..)) (hs x (List.mem_cons_self ..))
    have ih := long_next r (lng1 lo x) (fun z hz => ht z (List.mem_cons_of_mem _ hz)) fun z hz => hs z (List.mem_cons_of_mem _ hz)
    have hn : nextRow (x :: r) = kidsX x ++ nextRow r := by
      unfold nextRow
      rw [List.flatMap_cons, h2]
    have hl : longFrom lo (x :: r) = longFrom (lng1 lo x) r := rfl
    have hg : gRows (x :: r) = max (gRow x) (gRows r) := by simp only [gRows]
    have h5 : 512 < lng1 lo x ↔ (512 < lo ∨ 512 < (kidsX x).length) := by
      unfold lng1
      split
      · omega
      · rename_i h7
        have := h3.resolve_left h7
        omega
    rw [hl, hn, gRows_app2, hg, h4]
    omega
theorem measP_long : ∀ (m : Nat) (row : List (List D)) (d lo : Nat), (∀ z ∈ row, Tm z) → (∀ z ∈ row, ShE z) → nRows row ≤ m → (512 < (measP m row d lo).2 ↔ (512 < lo ∨ 512 < gRows row))
  | 0, row, d, lo, _, _, hn => by
    rw [nRows_0 hn]
    simp [measP, gRows]
  | m + 1, row, d, lo, ht, hs, hn => by
    unfold measP
    by_cases hr : row = []
    · rw [if_pos hr, hr]
      simp [gRows]
    · have h1 := nRows_next row hs
      have h2 : 1 ≤ row.length := List.length_pos_iff.2 hr
      rw [if_neg hr, measP_long m (nextRow row) (d + 1) _ (tm_next ht hs) (shE_next hs) (by omega)]
      exact long_next row lo ht hs
/-- The document's limits. -/
def limR (e : List D) (p l k : Nat) : Dg := if 512 < gRow e then ⟨3, p, l, k⟩ else if 48 < dep 1048576 e then ⟨4, p, l, k⟩ else ⟨0, 0, 0, 0⟩
theorem limD_R {e : List D} (ht : Tm e) (hs : ShE e) (hn : nRow e + 1 ≤ 800000) (p l k : Nat) : limD e p l k = limR e p l k := by
  have hs1 : ∀ z ∈ [e], ShE z := fun z hz => by rw [List.mem_singleton.1 hz]; exact hs
  have ht1 : ∀ z ∈ [e], Tm z := fun z hz => by rw [List.mem_singleton.1 hz]; exact ht
  have hr : nRows [e] ≤ 900000 := by simp only [nRows]; omega
  have h1 := measP_dep 900000 1048576 [e] 0 0 hs1 hr (by omega)
  have h2 := measP_long 900000 [e] 0 0 ht1 hs1 hr
  have h3 : mxL (dep 1048576) [e] = dep 1048576 e := by simp only [mxL]; omega
  have h4 : gRows [e] = gRow e := by simp only [gRows]; omega
  rw [h3] at h1
  rw [h4] at h2
  unfold limD limR
  generalize measP 900000 [e] 0 0 = R at h1 h2 ⊢
  generalize dep 1048576 e = dd at h1 ⊢
  generalize gRow e = gg at h2 ⊢
  have h5 : (48 < R.1) ↔ (48 < dd) := by omega
  have h6 : (512 < R.2) ↔ (512 < gg) := by omega
  simp only [h5, h6]
end Go.Proofs.YtpcldpnaljheoaaGreatDoor
