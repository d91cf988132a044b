/-
  What the reference's form answers, plainly: it is what checker.expr answers.
-/
import Derived.Test.YtpcldpnaljheoaaGreatDoorMdf
namespace Go.Proofs.YtpcldpnaljheoaaGreatDoor
open Go.RowKit Go.Deep Go.Maps

def fok7 (op : Int) : Bool := fok op || (op == 7)
def nB (op n : Int) : Bool := decide (0 ≤ n) && decide (n ≤ fmost op)
def naB (d op : Int) (nm : ByteArray) : Bool := if op == 7 then okR d nm else nameW d (fname op) nm
def fiB (d op : Int) (fd : ByteArray) : Bool := nameW d (ffield op) fd
def wantE (op : Int) (len : Nat) : Int := if op == 7 then (len : Int) else fops op
/-- What form answers of an expression whose parts are these. -/
def refE (d op n : Int) (nm fd : ByteArray) (l : List (List D)) (f : List D → Bool) : Bool :=
  decide (l.length ≤ 512) && (fok7 op && (nB op n && (naB d op nm && (fiB d op fd && ((((l.length : Nat) : Int) == wantE op l.length) && opsOK d op f false l)))))
theorem zero_of (n : Int) : (decide (0 ≤ n) && decide (n ≤ 0)) = (n == 0) := by
  rw [Bool.eq_iff_iff]; simp; omega
theorem refE_eq (d op n : Int) (hd : d = 0 ∨ d = 1) (nm fd : ByteArray) (l : List (List D)) (f : List D → Bool) (hf : ∀ x, isUp x = true → f x = false) :
    refE d op n nm fd l f = if op == 7 then callE d n nm fd l f else formE d op n nm fd l f := by
  cases ho : op == 7 with
  | true =>
    have h7 : op = 7 := by simpa using ho
    subst h7
    have e1 : fok7 7 = true := rfl
    have e2 : nB 7 n = (n == 0) := zero_of n
    have e3 : naB d 7 nm = okR d nm := rfl
    have e4 : fiB d 7 fd = fd.toList.isEmpty := rfl
    have e5 : wantE 7 l.length = (l.length : Int) := rfl
    unfold refE callE
    rw [e1, e2, e3, e4, e5, if_pos rfl]
    have hops : (decide (l.length ≤ 512) && opsOK d 7 f false l) = (decide (l.length ≤ 512) && (okAll (l.take (firstU d l)) f && okAll (l.drop (firstU d l)) (upD d))) := by
      rcases hd with rfl | rfl
      · rw [opsOK_else 0 7 f hf (Or.inl rfl)]
        have e : firstU 0 l = l.length := rfl
        rw [e, List.take_length, List.drop_length]
        cases hl : decide (l.length ≤ 512) with
        | false => rfl
        | true =>
          have h1 : okAll l f = l.all f := by unfold okAll; rw [hl]; rfl
          rw [h1]
          simp [okAll]
      · rw [opsOK_call]
        have e : firstU 1 l = l.findIdx isUp := rfl
        rw [e]
        cases hl : decide (l.length ≤ 512) with
        | false => rfl
        | true =>
          have hl' : l.length ≤ 512 := of_decide_eq_true hl
          have h1 : okAll (l.take (l.findIdx isUp)) f = (l.take (l.findIdx isUp)).all f := by
            unfold okAll
            rw [decide_eq_true (by rw [List.length_take]; omega)]; rfl
          have h2 : okAll (l.drop (l.findIdx isUp)) (upD 1) = (l.drop (l.findIdx isUp)).all (upD 1) := by
            unfold okAll
            rw [decide_eq_true (by rw [List.length_drop]; omega)]; rfl
          rw [h1, h2]
    have hb : (((l.length : Nat) : Int) == ((l.length : Nat) : Int)) = true := by simp
    rw [hb]
    generalize (n == 0) = b1
    generalize okR d nm = b2
    generalize fd.toList.isEmpty = b3
    generalize opsOK d 7 f false l = b4 at *
    generalize (okAll (l.take (firstU d l)) f && okAll (l.drop (firstU d l)) (upD d)) = b5 at *
    generalize decide (l.length ≤ 512) = b6 at *
    revert hops
    cases b1 <;> cases b2 <;> cases b3 <;> cases b4 <;> cases b5 <;> cases b6 <;> simp
  | false =>
    have e1 : fok7 op = fok op := by unfold fok7; rw [ho]; simp
    have e3 : naB d op nm = nameW d (fname op) nm := by unfold naB; rw [ho]; rfl
    have e5 : wantE op l.length = fops op := by unfold wantE; rw [ho]; rfl
    unfold refE formE
    rw [e1, e3, e5, opsOK_else d op f hf (Or.inr ho)]
    unfold nB fiB okAll
    simp only [Bool.false_eq_true, if_false]
    generalize fok op = b1
    generalize decide (0 ≤ n) = b2
    generalize decide (n ≤ fmost op) = b3
    generalize nameW d (fname op) nm = b4
    generalize nameW d (ffield op) fd = b5
    generalize (((l.length : Nat) : Int) == fops op) = b6
    generalize l.all f = b7
    generalize decide (l.length ≤ 512) = b8
    cases b1 <;> cases b2 <;> cases b3 <;> cases b4 <;> cases b5 <;> cases b6 <;> cases b7 <;> cases b8 <;> rfl
theorem okE_ref (d : Int) (hd : d = 0 ∨ d = 1) (k : Nat) (op n : Int) (nm fd : ByteArray) (l : List (List D)) :
    okE d (k + 1) [.int op, .int n, .str nm, .str fd, .row l] = refE d op n nm fd l (okE d k) := by
  rw [refE_eq d op n hd nm fd l (okE d k) (okE_up d k)]
  rfl
end Go.Proofs.YtpcldpnaljheoaaGreatDoor
