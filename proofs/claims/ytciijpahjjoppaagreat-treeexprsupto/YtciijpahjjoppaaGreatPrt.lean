/-
  A text's parts between its signs '$'; strings.Cut at that sign: walked.
-/
import Derived.Test.YtciijpahjjoppaaGreatShelf
import Derived.Test.YtciijpahjjoppaaGreatChk
import Derived.Test.YtciijpahjjoppaaGreatBas
import Derived.Lib.Bytealg
namespace Go.Proofs.YtciijpahjjoppaaGreat
open Go.RowKit Go.Deep

def splitD : List UInt8 → List (List UInt8)
  | [] => [[]]
  | c :: r => if c = 36 then [] :: splitD r else match splitD r with
    | h :: t => (c :: h) :: t
    | [] => [[c]]
theorem splitD_ne (l : List UInt8) : splitD l ≠ [] := by
  cases l with
  | nil => simp [splitD]
  | cons c r =>
    unfold splitD
    split
    · simp
    · split <;> simp
theorem splitD_cons_no {c : UInt8} {r : List UInt8} (h : c ≠ 36) : ∃ p t, splitD r = p :: t ∧ splitD (c :: r) = (c :: p) :: t := by
  cases e : splitD r with
  | nil => exact absurd e (splitD_ne r)
  | cons p t => exact ⟨p, t, rfl, by rw [splitD, if_neg h, e]⟩
theorem splitD_miss (l : List UInt8) (h : Lib.indexByte l 36 = -1) : splitD l = [l] := by
  induction l with
  | nil => rfl
  | cons c r ih =>
    unfold Lib.indexByte at h
    split at h
    · simp at h
    · rename_i hc
      have hc' : c ≠ 36 := by simpa using hc
      split at h
      · rename_i h1
        obtain ⟨p, t, e1, e2⟩ := splitD_cons_no (r := r) hc'
        rw [ih (by simpa using h1)] at e1
        simp at e1
        rw [e2, ← e1.1, ← e1.2]
      · have := Lib.indexByte_ge r 36
        rename_i h1
        have h1' : Lib.indexByte r 36 ≠ -1 := by simpa using h1
        omega
theorem splitD_hit (l : List UInt8) (i : Nat) (h : Lib.indexByte l 36 = i) : i < l.length ∧ splitD l = l.take i :: splitD (l.drop (i + 1)) := by
  induction l generalizing i with
  | nil => simp [Lib.indexByte] at h
  | cons c r ih =>
    unfold Lib.indexByte at h
    split at h
    · rename_i hc
      have hc' : c = 36 := by simpa using hc
      obtain rfl : i = 0 := by omega
      subst hc'
      exact ⟨by simp, by simp [splitD]⟩
    · rename_i hc
      have hc' : c ≠ 36 := by simpa using hc
      split at h
      · omega
      · have := Lib.indexByte_ge r 36
        rename_i h1
        have h1' : Lib.indexByte r 36 ≠ -1 := by simpa using h1
        obtain ⟨j, hj⟩ := Int.eq_ofNat_of_zero_le (show 0 ≤ Lib.indexByte r 36 by omega)
        obtain rfl : i = j + 1 := by omega
        obtain ⟨h2, h3⟩ := ih j hj
        obtain ⟨p, t, e1, e2⟩ := splitD_cons_no (r := r) hc'
        rw [h3] at e1
        simp at e1
        exact ⟨by simp; omega, by rw [e2, ← e1.1, ← e1.2]; simp⟩
def ba (l : List UInt8) : ByteArray := ⟨l.toArray⟩
theorem ba_data (s : ByteArray) : ba s.data.toList = s := by cases s; simp [ba]
theorem ba_list (l : List UInt8) : (ba l).data.toList = l := by simp [ba]
theorem ba_size (l : List UInt8) : (ba l).size = l.length := by simp [ba, ByteArray.size]
/-- A text's parts. -/
def parts (s : ByteArray) : List ByteArray := (splitD s.data.toList).map ba
theorem splitD_len (l : List UInt8) : (splitD l).length ≤ l.length + 1 := by
  induction l with
  | nil => simp [splitD]
  | cons c r ih =>
    unfold splitD
    split
    · simp; omega
    · split
      · rename_i h
        rw [h] at ih
        simp at ih ⊢
        omega
      · simp
theorem splitD_mem (l : List UInt8) : ∀ p ∈ splitD l, p.length ≤ l.length := by
  induction l with
  | nil => simp [splitD]
  | cons c r ih =>
    intro p hp
    unfold splitD at hp
    split at hp
    · rcases List.mem_cons.1 hp with rfl | hp
      · simp
      · have := ih p hp; simp; omega
    · split at hp
      · rename_i h t e
        rcases List.mem_cons.1 hp with rfl | hp
        · have := ih h (by rw [e]; simp); simp; omega
        · have := ih p (by rw [e]; simp [hp]); simp; omega
      · rename_i e
        exact absurd e (splitD_ne r)
theorem parts_len (s : ByteArray) : (parts s).length ≤ s.size + 1 := by
  have h := splitD_len s.data.toList
  unfold parts
  rw [List.length_map]
  exact h
theorem parts_mem (s : ByteArray) : ∀ p ∈ parts s, p.size ≤ s.size := fun p hp => by
  obtain ⟨q, hq, rfl⟩ := List.mem_map.1 hp
  have := splitD_mem s.data.toList q hq
  rw [ba_size]
  exact this
theorem parts_ne (s : ByteArray) : parts s ≠ [] := by simp [parts, splitD_ne]

def dollar : ByteArray := ⟨#[36]⟩
/-- What Cut tells. -/
def cutD (s : ByteArray) : ByteArray × ByteArray × Bool :=
  if Lib.indexByte s.data.toList 36 = -1 then (s, ⟨#[]⟩, false) else (ba (s.data.toList.take (Lib.indexByte s.data.toList 36).toNat), ba (s.data.toList.drop ((Lib.indexByte s.data.toList 36).toNat + 1)), true)

set_option maxRecDepth 100000 in
set_option maxHeartbeats 1000000 in
theorem index_D (s : ByteArray) (w : World) : Calls Tryz.prog 160 #[.string s, .string ⟨#[36]⟩] w fun e w' => e = .returned (.int .i64 (Lib.indexByte s.data.toList 36)) ∧ w' = w := by
  cases hq : ([36] : List UInt8) == s.toList with
  | true =>
    have e : s.data.toList = [36] := by rw [← ByteArray.toList_eq]; exact (by simpa using hq : [36] = s.toList).symm
    have HE := Lib.hid e
    clear e
    go_enter Tryz.func160, Tryz.ntmps160
    go_wp2_with fail
    go_ret
    exact ⟨by rw [HE.out]; rfl, rfl⟩
  | false =>
    go_enter Tryz.func160, Tryz.ntmps160
    go_wp2_with fail
    change Calls Tryz.prog 164 #[Value.string s, Value.int IntKind.u8 36] w _
    refine (Tryz.stringslite_IndexByte s 36 _).mono ?_
    rintro e w' ⟨rfl, rfl⟩
    go_wp2_with fail
    go_ret
    exact ⟨rfl, rfl⟩
end Go.Proofs.YtciijpahjjoppaaGreat
