/-
  The document's signs and the program's are the same ones.
-/
import Derived.Test.YtpcldpnaljheoaaGreatDoorRs8
import Derived.Test.YtpcldpnaljheoaaGreatDoorZz3
import Derived.Test.YtpcldpnaljheoaaGreatDoorZz4
namespace Go.Proofs.YtpcldpnaljheoaaGreatDoor
open Go.RowKit Go.Deep

def lvL : Nat → List ByteArray
  | 1 => cmpL
  | 2 => addL
  | _ => mulL
def advS (s : RS) (n : Nat) : RS := ⟨s.k + n, s.f, s.fp, s.fl, s.fc⟩
theorem advS_0 (s : RS) : advS s 0 = s := rfl
theorem cur_tk {ts : List Tok} {s : RS} (h : s.f = 0) : cur ts s = tkAt ts s.k := if_pos h
def kB (t : Tok) : Bool := t.kind == 2 || t.kind == 5
theorem isW_kB (t : Tok) (l : List ByteArray) : isW t l = (kB t && isIn t.text l) := rfl
theorem isW_no {t : Tok} (h : kB t = false) (l : List ByteArray) : isW t l = false := by rw [isW_kB, h]; rfl
theorem isW_one {t : Tok} (h : kB t = true) (x : ByteArray) : isW t [x] = decide (t.text = x) := by
  rw [isW_kB, h, Bool.true_and, Bool.eq_iff_iff, isIn_iff]
  simp
theorem signR_none {ts : List Tok} {k : Nat} : ∀ (r : List (ByteArray × Nat)), (∀ x ∈ r, hitR ts k x.1 = false) → signR ts k r = (0, 0)
  | [], _ => rfl
  | (x, o) :: r, h => by
    unfold signR
    rw [if_neg (by rw [h (x, o) (by simp)]; decide)]
    exact signR_none r fun y hy => h y (by simp [hy])
theorem opP_none {ts : List Tok} {s : RS} {l : List ByteArray} (h : isT ts s l = false) : opP ts s l = (0, s) := by
  unfold opP
  rw [takeT_no h]
  rw [if_neg (fun e => absurd (show (⟨#[]⟩ : ByteArray) = orB from e.1) (by decide)), if_neg (fun e => absurd (show (⟨#[]⟩ : ByteArray) = andB from e.1) (by decide))]
  rfl
theorem hit_no {ts : List Tok} {k : Nat} (h : kB (tkAt ts k) = false) (x : ByteArray) : hitR ts k x = false := by
  unfold hitR
  split
  · rw [isW_no h]; rfl
  · exact isW_no h _
def firstW (x : ByteArray) : ByteArray := match twoW x with
  | some (a, _) => a
  | none => x
theorem firstW_in {lv : Nat} (h1 : 1 ≤ lv) (h3 : lv ≤ 3) : ∀ x ∈ rowS lv, firstW x ∈ lvL lv := by
  intro x hx
  rcases (by omega : lv = 1 ∨ lv = 2 ∨ lv = 3) with rfl | rfl | rfl
  · simp only [rowS, List.mem_cons, List.mem_nil_iff, or_false] at hx
    rcases hx with rfl | rfl | rfl | rfl | rfl | rfl <;> (first | exact .head _ | exact .tail _ (.head _) | exact .tail _ (.tail _ (.head _)) | exact .tail _ (.tail _ (.tail _ (.head _))) | exact .tail _ (.tail _ (.tail _ (.tail _ (.head _)))) | exact .tail _ (.tail _ (.tail _ (.tail _ (.tail _ (.head _))))))
  · simp only [rowS, List.mem_cons, List.mem_nil_iff, or_false] at hx
    rcases hx with rfl | rfl | rfl | rfl <;> (first | exact .head _ | exact .tail _ (.head _) | exact .tail _ (.tail _ (.head _)) | exact .tail _ (.tail _ (.tail _ (.head _))) | exact .tail _ (.tail _ (.tail _ (.tail _ (.head _)))) | exact .tail _ (.tail _ (.tail _ (.tail _ (.tail _ (.head _))))))
  · simp only [rowS, List.mem_cons, List.mem_nil_iff, or_false] at hx
    rcases hx with rfl | rfl | rfl | rfl | rfl <;> (first | exact .head _ | exact .tail _ (.head _) | exact .tail _ (.tail _ (.head _)) | exact .tail _ (.tail _ (.tail _ (.head _))) | exact .tail _ (.tail _ (.tail _ (.tail _ (.head _)))) | exact .tail _ (.tail _ (.tail _ (.tail _ (.tail _ (.head _))))))
theorem hit_first {ts : List Tok} {k : Nat} {x : ByteArray} (h : hitR ts k x = true) : isW (tkAt ts k) [firstW x] = true := by
  unfold hitR at h
  unfold firstW
  split at h
  · rename_i a b e
    rw [e]
    exact (Bool.and_eq_true _ _ ▸ h).1
  · rename_i e
    rw [e]
    exact h
theorem isW_more {t : Tok} {x : ByteArray} {l : List ByteArray} (hx : x ∈ l) (h : isW t [x] = true) : isW t l = true := by
  rw [isW_kB, Bool.and_eq_true] at h ⊢
  refine ⟨h.1, ?_⟩
  rw [isIn_iff] at *
  rw [List.mem_singleton.1 h.2]
  exact hx
def hitQ (c : ByteArray) (bf : ByteArray → Bool) (x : ByteArray) : Bool := match twoW x with
  | some (a, b) => decide (c = a) && bf b
  | none => decide (c = x)
def sgQ (c : ByteArray) (bf : ByteArray → Bool) : List (ByteArray × Nat) → Nat × Nat
  | [] => (0, 0)
  | (x, o) :: r => if hitQ c bf x = true then (o, (sgW x).length) else sgQ c bf r
theorem hitR_Q {ts : List Tok} {k : Nat} {c : ByteArray} (hw : ∀ x, isW (tkAt ts k) [x] = decide (c = x)) (x : ByteArray) : hitR ts k x = hitQ c (fun b => isW (tkAt ts (k + 1)) [b]) x := by
  unfold hitR hitQ
  cases twoW x with
  | none => exact hw x
  | some ab =>
    obtain ⟨a, b⟩ := ab
    show (isW (tkAt ts k) [a] && isW (tkAt ts (k + 1)) [b]) = _
    rw [hw]
theorem signR_Q {ts : List Tok} {k : Nat} {c : ByteArray} (hw : ∀ x, isW (tkAt ts k) [x] = decide (c = x)) : ∀ (r : List (ByteArray × Nat)), signR ts k r = sgQ c (fun b => isW (tkAt ts (k + 1)) [b]) r
  | [] => rfl
  | (x, o) :: r => by
    unfold signR sgQ
    rw [signR_Q hw r, hitR_Q hw x]
def opQ (c : ByteArray) (bf : ByteArray → Bool) : Nat × Nat := if c = orB ∧ bf elseB = true then (18, 2) else if c = andB ∧ bf thenB = true then (14, 2) else (opNo signsP c, 1)
theorem q_all (bf : ByteArray → Bool) {lv : Nat} (h1 : 1 ≤ lv) (h3 : lv ≤ 3) : ∀ c ∈ lvL lv, sgQ c bf ((rowS lv).zip (rowO lv)) = opQ c bf := by
  intro c hc
  cases hb1 : bf elseB with
  | _ =>
  cases hb2 : bf thenB with
  | _ =>
  rcases (by omega : lv = 1 ∨ lv = 2 ∨ lv = 3) with rfl | rfl | rfl
  · simp only [lvL, cmpL, List.mem_cons, List.mem_nil_iff, or_false] at hc
    rcases hc with rfl | rfl | rfl | rfl | rfl | rfl <;> rfl
  · simp only [lvL, addL, List.mem_cons, List.mem_nil_iff, or_false] at hc
    rcases hc with rfl | rfl | rfl
    · rfl
    · rfl
    · unfold opQ; rw [hb1]; simp [sgQ, hitQ, rowS, rowO, twoW, hb1, orB, sgW]; try rfl
  · simp only [lvL, mulL, List.mem_cons, List.mem_nil_iff, or_false] at hc
    rcases hc with rfl | rfl | rfl | rfl
    · rfl
    · rfl
    · rfl
    · unfold opQ; rw [hb2]; simp [sgQ, hitQ, rowS, rowO, twoW, hb2, andB, orB, sgW]; try rfl
theorem sign_opP {ts : List Tok} {s : RS} (hf : s.f = 0) {lv : Nat} (h1 : 1 ≤ lv) (h3 : lv ≤ 3) :
    opP ts s (lvL lv) = ((signR ts s.k ((rowS lv).zip (rowO lv))).1, advS s (signR ts s.k ((rowS lv).zip (rowO lv))).2) := by
  have hc := cur_tk (ts := ts) hf
  have hc2 : cur ts (stepS s) = tkAt ts (s.k + 1) := cur_tk (s := stepS s) hf
  cases hx : isT ts s (lvL lv) with
  | false =>
    rw [opP_none hx, signR_none _ fun x hm => ?_]
    · rfl
    · cases hh : hitR ts s.k x.1 with
      | false => rfl
      | true =>
        have := isW_more (firstW_in h1 h3 x.1 (List.of_mem_zip hm).1) (hit_first hh)
        unfold isT at hx
        rw [hc] at hx
        exact absurd this (by rw [hx]; decide)
  | true =>
    have hk : kB (tkAt ts s.k) = true := by
      unfold isT at hx
      rw [hc, isW_kB, Bool.and_eq_true] at hx
      exact hx.1
    have hm : (tkAt ts s.k).text ∈ lvL lv := by
      unfold isT at hx
      rw [hc, isW_kB, Bool.and_eq_true, isIn_iff] at hx
      exact hx.2
    have he : ∀ x, isT ts (stepS s) [x] = isW (tkAt ts (s.k + 1)) [x] := fun x => by unfold isT; rw [hc2]
    rw [signR_Q (isW_one hk), q_all _ h1 h3 _ hm]
    unfold opP opQ
    rw [takeT_yes hx, hc]
    dsimp only
    rw [he, he]
    split
    · rfl
    · split
      · rfl
      · rfl
end Go.Proofs.YtpcldpnaljheoaaGreatDoor
