/-
  The document's reader of expressions, walked: the knot: an expression from any place on.
-/
import Derived.Test.YtpcldpnaljheoaaGreatDoorRnc
import Derived.Test.YtpcldpnaljheoaaGreatDoorRfd
import Derived.Test.YtpcldpnaljheoaaGreatDoorRn8
import Derived.Test.YtpcldpnaljheoaaGreatDoorRj8
import Derived.Test.YtpcldpnaljheoaaGreatDoorRx8
import Derived.Test.YtpcldpnaljheoaaGreatDoorRq8
import Derived.Test.YtpcldpnaljheoaaGreatDoorRy8
namespace Go.Proofs.YtpcldpnaljheoaaGreatDoor
open Go.RowKit Go.Deep Go.Sort

theorem isT_of {ts : List Tok} {s : RS} {x : ByteArray} {l : List ByteArray} (h : isT ts s [x] = true) (hx : x ∈ l) : isT ts s l = true ∧ (cur ts s).text = x := by
  unfold isT at h ⊢
  rw [isW_kB, Bool.and_eq_true, isIn_iff] at h
  have ht := List.mem_singleton.1 h.2
  refine ⟨?_, ht⟩
  rw [isW_kB, Bool.and_eq_true, isIn_iff]
  exact ⟨h.1, ht ▸ hx⟩
theorem isT_3 {ts : List Tok} {s : RS} {a b c : ByteArray} (h1 : isT ts s [a] = false) (h2 : isT ts s [b] = false) (h3 : isT ts s [c] = false) : isT ts s [a, b, c] = false := by
  cases h : isT ts s [a, b, c] with
  | false => rfl
  | true =>
    exfalso
    unfold isT at h h1 h2 h3
    rw [isW_kB, Bool.and_eq_true, isIn_iff] at h
    obtain ⟨hk, hm⟩ := h
    have no : ∀ x, isW (cur ts s) [x] = false → (cur ts s).text ≠ x := fun x hx e => by
      rw [isW_kB, hk, Bool.true_and] at hx
      have : isIn (cur ts s).text [x] = true := (isIn_iff _ _).2 (by rw [e]; exact List.mem_singleton.2 rfl)
      rw [this] at hx
      cases hx
    rcases List.mem_cons.1 hm with e | hm
    · exact no _ h1 e
    · rcases List.mem_cons.1 hm with e | hm
      · exact no _ h2 e
      · exact no _ h3 (List.mem_singleton.1 hm)
section
variable {g cap : Nat} {ts : List Tok} {G : RS → XS} {n : Nat}
theorem rterm_ok (hF : OkV g ts 86 (facA g cap ts) G n) (hG : GoodF ts 4 n G) : OkV g ts 48 (lvA g cap ts 3) (termP ts G) n := by
  intro s w hf hk h hn
  exact rlev_term (rlev_fac hF) (fun s hf hn hr => ⟨(hG s hn hf hr).1, (hG s hn hf hr).2.1⟩) hf hk h hn
theorem rsimple_ok (hF : OkV g ts 86 (facA g cap ts) G n) (hG : GoodF ts 4 n G) (hS : Stay G) : OkV g ts 48 (lvA g cap ts 2) (simpleP ts G) n := by
  intro s w hf hk h hn
  have hT := rterm_ok (cap := cap) hF hG
  have hTk : ∀ s, s.f = 0 → leftS ts s < n → (termP ts G s).2.f = 0 → s.k < (termP ts G s).2.k ∧ (termP ts G s).2.k ≤ ts.length := fun s hf hn hr => ⟨(good_term hG hS s hn hf hr).1, (good_term hG hS s hn hf hr).2.1⟩
  unfold simpleP firstP
  cases hi : isT ts s [⟨#[45]⟩] with
  | true => rw [if_pos rfl]; exact rlev_minus hT hTk hf h hn hi
  | false => rw [if_neg (by decide)]; exact rlev_simple hT hTk hf hk h hn hi
theorem rexpr_ok (hF : OkV g ts 86 (facA g cap ts) G n) (hG : GoodF ts 4 n G) (hS : Stay G) : OkV g ts 48 (lvA g cap ts 1) (exprP ts G) n := by
  intro s w hf hk h hn
  exact rlev_expr (rsimple_ok hF hG hS) (fun s hf hn hr => ⟨(good_simple hG hS s hn hf hr).1, (good_simple hG hS s hn hf hr).2.1⟩) hf hk h hn
theorem rnamed_ok (hE : OkV g ts 48 (lvA g cap ts 1) (exprP ts G) n) (hEk : ∀ s, s.f = 0 → leftS ts s < n → (exprP ts G s).2.f = 0 → s.k < (exprP ts G s).2.k ∧ (exprP ts G s).2.k ≤ ts.length) {s : RS} (hf : s.f = 0) (hn : leftS ts s < n + 1) :
    ∀ W, TkW g ts W → Calls Tryz.prog 137 (facA g cap ts s.k) W (GPost W.heap.size (if (cur ts s).kind = 1 then namedP ts G s else (e0, refuseS ts s)) W) := by
  intro w h
  by_cases hk : (cur ts s).kind = 1
  · rw [if_pos hk]
    have e1 : needN ts s = ((cur ts s).text, stepS s) := if_pos hk
    unfold namedP
    rw [e1]
    dsimp only
    cases h40 : isT ts (stepS s) [⟨#[40]⟩] with
    | true =>
      obtain ⟨hb, ht⟩ := isT_of (l := brL) h40 (by simp [brL])
      rw [takeT_yes hb, ht, operandsP_eq]
      dsimp only
      rw [if_pos rfl]
      exact rnm_call hE hEk hf h hn hk h40
    | false =>
      cases h91 : isT ts (stepS s) [⟨#[91]⟩] with
      | true =>
        obtain ⟨hb, ht⟩ := isT_of (l := brL) h91 (by simp [brL])
        rw [takeT_yes hb, ht]
        dsimp only
        rw [if_neg (by decide), if_pos rfl]
        exact rnm_index hE (fun s hf hn hr => (hEk s hf hn hr).2) hf h hn hk h40 h91
      | false =>
        cases h46 : isT ts (stepS s) [⟨#[46]⟩] with
        | true =>
          obtain ⟨hb, ht⟩ := isT_of (l := brL) h46 (by simp [brL])
          rw [takeT_yes hb, ht]
          dsimp only
          rw [if_neg (by decide), if_neg (by decide), if_pos rfl]
          by_cases hk2 : (cur ts (stepS (stepS s))).kind = 1
          · have e2 : needN ts (stepS (stepS s)) = ((cur ts (stepS (stepS s))).text, stepS (stepS (stepS s))) := if_pos hk2
            rw [e2]
            exact rnm_field hf h hk h40 h91 h46 hk2
          · have e2 : needN ts (stepS (stepS s)) = (⟨#[]⟩, refuseS ts (stepS (stepS s))) := if_neg hk2
            rw [e2]
            exact rnm_field_no hf h hk h40 h91 h46 hk2 _
        | false =>
          rw [takeT_no (show isT ts (stepS s) brL = false from isT_3 h40 h91 h46)]
          dsimp only
          rw [if_neg (by decide), if_neg (by decide), if_neg (by decide)]
          exact rnm_var hf h hk h40 h91 h46
  · rw [if_neg hk]
    exact rnm_wrong hf h hk
end
theorem rfac_ok {g cap : Nat} {ts : List Tok} : ∀ n, OkV g ts 86 (facA g cap ts) (fac ts n) n
  | 0 => fun s w _ _ _ hn => absurd hn (Nat.not_lt_zero _)
  | n + 1 => by
    intro s w hf hk h hn
    have hF := rfac_ok (g := g) (cap := cap) (ts := ts) n
    have hE := rexpr_ok hF (good_fac ts n) (stay_fac ts n)
    have hEk : ∀ s, s.f = 0 → leftS ts s < n → (exprP ts (fac ts n) s).2.f = 0 → s.k < (exprP ts (fac ts n) s).2.k ∧ (exprP ts (fac ts n) s).2.k ≤ ts.length := fun s hf hn hr => ⟨(good_expr (good_fac ts n) (stay_fac ts n) s hn hf hr).1, (good_expr (good_fac ts n) (stay_fac ts n) s hn hf hr).2.1⟩
    show Calls Tryz.prog _ _ w (GPost w.heap.size (factorP ts (fac ts n) s) w)
    unfold factorP
    cases hi : isT ts s [notB] with
    | true => rw [if_pos rfl]; exact rfac_not hF hf h hn hi
    | false =>
      rw [if_neg (by decide)]
      cases hj : isT ts s [⟨#[40]⟩] with
      | true => rw [if_pos rfl]; exact rfac_par hE (fun s hf hn hr => (hEk s hf hn hr).2) hf h hn hi hj
      | false =>
        rw [if_neg (by decide)]
        exact rfac_more (N := namedP ts (fac ts n)) (rnamed_ok hE hEk hf hn) hf h hi hj
/-- The document's reader of an expression, from any place on. -/
theorem rexpr_any {g cap : Nat} {ts : List Tok} {s : RS} {w : World} (hf : s.f = 0) (hk : s.k ≤ ts.length) (h : TkW g ts w) :
    Calls Tryz.prog 48 (lvA g cap ts 1 s.k) w (GPost w.heap.size (exprP ts (fac ts (ts.length + 1)) s) w) :=
  rexpr_ok (rfac_ok (ts.length + 1)) (good_fac ts _) (stay_fac ts _) s w hf hk h (by unfold leftS; split <;> omega)
end Go.Proofs.YtpcldpnaljheoaaGreatDoor
