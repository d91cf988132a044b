/-
  What came in, opened: the cells of a tree, whatever its depth.
-/
import Derived.Test.YtciijpahjjoppaaGreatLws
import Derived.Deep.Slices
import Derived.ProofKit
import Derived.OpenShut
namespace Go.Proofs.YtciijpahjjoppaaGreat
open Go.ChangeShapes Go.WideShapes Go.RowKit Go.Deep

section
variable {H : Type} {enc : TypeId × Value → H} {W : World}
theorem list2 {α : Type} {l : List α} (h : l.length = 2) : ∃ a0 a1, l = [a0, a1] := by
  match l, h with
  | [a0, a1], _ => exact ⟨a0, a1, rfl⟩
theorem list3 {α : Type} {l : List α} (h : l.length = 3) : ∃ a0 a1 a2, l = [a0, a1, a2] := by
  match l, h with
  | [a0, a1, a2], _ => exact ⟨a0, a1, a2, rfl⟩
theorem list4 {α : Type} {l : List α} (h : l.length = 4) : ∃ a0 a1 a2 a3, l = [a0, a1, a2, a3] := by
  match l, h with
  | [a0, a1, a2, a3], _ => exact ⟨a0, a1, a2, a3, rfl⟩
theorem list5 {α : Type} {l : List α} (h : l.length = 5) : ∃ a0 a1 a2 a3 a4, l = [a0, a1, a2, a3, a4] := by
  match l, h with
  | [a0, a1, a2, a3, a4], _ => exact ⟨a0, a1, a2, a3, a4, rfl⟩
theorem list6 {α : Type} {l : List α} (h : l.length = 6) : ∃ a0 a1 a2 a3 a4 a5, l = [a0, a1, a2, a3, a4, a5] := by
  match l, h with
  | [a0, a1, a2, a3, a4, a5], _ => exact ⟨a0, a1, a2, a3, a4, a5, rfl⟩
theorem list8 {α : Type} {l : List α} (h : l.length = 8) : ∃ a0 a1 a2 a3 a4 a5 a6 a7, l = [a0, a1, a2, a3, a4, a5, a6, a7] := by
  match l, h with
  | [a0, a1, a2, a3, a4, a5, a6, a7], _ => exact ⟨a0, a1, a2, a3, a4, a5, a6, a7, rfl⟩
theorem list9 {α : Type} {l : List α} (h : l.length = 9) : ∃ a0 a1 a2 a3 a4 a5 a6 a7 a8, l = [a0, a1, a2, a3, a4, a5, a6, a7, a8] := by
  match l, h with
  | [a0, a1, a2, a3, a4, a5, a6, a7, a8], _ => exact ⟨a0, a1, a2, a3, a4, a5, a6, a7, a8, rfl⟩
theorem list11 {α : Type} {l : List α} (h : l.length = 11) : ∃ a0 a1 a2 a3 a4 a5 a6 a7 a8 a9 a10, l = [a0, a1, a2, a3, a4, a5, a6, a7, a8, a9, a10] := by
  match l, h with
  | [a0, a1, a2, a3, a4, a5, a6, a7, a8, a9, a10], _ => exact ⟨a0, a1, a2, a3, a4, a5, a6, a7, a8, a9, a10, rfl⟩
theorem list16 {α : Type} {l : List α} (h : l.length = 16) : ∃ a0 a1 a2 a3 a4 a5 a6 a7 a8 a9 a10 a11 a12 a13 a14 a15, l = [a0, a1, a2, a3, a4, a5, a6, a7, a8, a9, a10, a11, a12, a13, a14, a15] := by
  match l, h with
  | [a0, a1, a2, a3, a4, a5, a6, a7, a8, a9, a10, a11, a12, a13, a14, a15], _ => exact ⟨a0, a1, a2, a3, a4, a5, a6, a7, a8, a9, a10, a11, a12, a13, a14, a15, rfl⟩
/-- A reading gives data of a shape. -/
def Opens (enc : TypeId × Value → H) (W : World) (Sh : List D → Prop) (t : TypeId) (n : Nat) : Prop := ∀ cs x, DataW.trod enc Tryz.prog W 0 (fun _ => true) true n t cs = some x → ∃ ds, AllAt W cs ds ∧ Sh ds
theorem row_of {Sh : List D → Prop} {t e : TypeId} {k : Nat} (ht : Tryz.prog.underlying t = some (.slice e)) (hk : Tryz.prog.cellsOf e = k) (hk0 : 0 < k) (hlen : ∀ ds, Sh ds → ds.length = k) {fuel : Nat} {cs : List Value} {x : DataW H × List MemPlace}
    (h : DataW.trod enc Tryz.prog W 0 (fun _ => true) true fuel t cs = some x) (hel : ∀ n, n < fuel → Opens enc W Sh e n) : ∃ v l, cs = [v] ∧ At W v (.row l) ∧ ∀ z ∈ l, Sh z := by
  rcases DataW.trod_slice ht h with ⟨rfl, _⟩ | ⟨a, len, cap, elems, rest, n, rfl, rfl, _, _, hl, hm, hlen', hin, _, _⟩
  · exact ⟨_, [], rfl, .nil none 0 (by decide), by simp⟩
  · have key : ∀ j, j < len → ∃ p : List Value × List D, W.cells? 0 (a.add (j * k)) k = some p.1 ∧ AllAt W p.1 p.2 ∧ Sh p.2 := by
      intro j hj
      have h1 := hin j hj
      rw [hk, List.getElem?_eq_getElem (by omega)] at h1
      obtain ⟨cs', h2, h3⟩ := Option.bind_eq_some_iff.1 h1
      obtain ⟨ds, h4, h5⟩ := hel n (Nat.lt_succ_self n) cs' _ h3
      exact ⟨(cs', ds), h2, h4, h5⟩
    obtain ⟨f, hf⟩ := choose_lt key
    by_cases h0 : len = 0
    · subst h0
      exact ⟨_, [], rfl, .nil _ _ hm, by simp⟩
    · have hcell : ∀ j i v, j < len → (f j).1[i]? = some v → W.cell? (a.add (j * k + i)) = some v := by
        intro j i v hj hv
        obtain ⟨_, hl', hat⟩ := World.cells?_some (hf j hj).1
        have hi : i < k := by rw [← hl']; exact (List.getElem?_eq_some_iff.1 hv).1
        have := hat i hi
        rw [Go.Deep.add_add] at this
        rw [this, hv]
      obtain ⟨b, o, spot⟩ := a
      have hl0 : (f 0).1.length = k := (World.cells?_some (hf 0 (by omega)).1).2.1
      have hc0 := hcell 0 0 _ (by omega) (List.getElem?_eq_getElem (by omega))
      have hspot : spot = none := by simpa [Addr.add] using World.cell?_spot hc0
      subst hspot
      rw [add_mid2] at hc0
      refine ⟨_, (List.range len).map fun j => (f j).2, rfl, .row b o len cap k _ (fun j => (f j).1) (by simp) hl hm (block_lt_of_cell hc0) (fun j hj => (World.cells?_some (hf j hj).1).2.1) ?_ ?_ ?_, ?_⟩
      · intro j ds hj
        have hj' : j < len := by simpa using (List.getElem?_eq_some_iff.1 hj).1
        simp [hj'] at hj
        rw [← hj]
        exact hlen _ (hf j hj').2.2
      · intro j i v hj hv
        have := hcell j i v hj hv
        rw [add_mid2] at this
        rw [Nat.add_assoc]
        exact this
      · intro j i ds v d hj hv hd
        have hj' : j < len := by simpa using (List.getElem?_eq_some_iff.1 hj).1
        simp [hj'] at hj
        rw [← hj] at hd
        exact (hf j hj').2.1.get i v d hv hd
      · intro z hz
        obtain ⟨j, hj, rfl⟩ := List.mem_map.1 hz
        exact (hf j (by simpa using hj)).2.2
theorem opens_T (n : Nat) : Opens enc W ShT 9 n := fun cs x h => by
  obtain ⟨s, rfl, _, hs⟩ := DataW.trod_string Tryz.underlying9 h
  exact ⟨[.str s], ⟨.str s hs, trivial⟩, .mk s⟩
theorem cel2 : Tryz.prog.cellsOf 2 = 1 := by kernel_rfl
theorem cel3 : Tryz.prog.cellsOf 3 = 1 := by kernel_rfl
theorem cel4 : Tryz.prog.cellsOf 4 = 1 := by kernel_rfl
theorem cel9 : Tryz.prog.cellsOf 9 = 1 := by kernel_rfl
theorem cel22 : Tryz.prog.cellsOf 22 = 1 := by kernel_rfl
theorem cel24 : Tryz.prog.cellsOf 24 = 5 := by kernel_rfl
theorem cel29 : Tryz.prog.cellsOf 29 = 1 := by kernel_rfl
theorem cel30 : Tryz.prog.cellsOf 30 = 1 := by kernel_rfl
theorem cel31 : Tryz.prog.cellsOf 31 = 1 := by kernel_rfl
theorem cel32 : Tryz.prog.cellsOf 32 = 1 := by kernel_rfl
theorem cel33 : Tryz.prog.cellsOf 33 = 1 := by kernel_rfl
theorem cel35 : Tryz.prog.cellsOf 35 = 9 := by kernel_rfl
theorem cel59 : Tryz.prog.cellsOf 59 = 2 := by kernel_rfl
theorem cel60 : Tryz.prog.cellsOf 60 = 1 := by kernel_rfl
theorem cel62 : Tryz.prog.cellsOf 62 = 5 := by kernel_rfl
theorem cel65 : Tryz.prog.cellsOf 65 = 4 := by kernel_rfl
theorem cel73 : Tryz.prog.cellsOf 73 = 3 := by kernel_rfl
theorem cel75 : Tryz.prog.cellsOf 75 = 6 := by kernel_rfl
theorem cel78 : Tryz.prog.cellsOf 78 = 1 := by kernel_rfl
theorem cel80 : Tryz.prog.cellsOf 80 = 9 := by kernel_rfl
theorem cel84 : Tryz.prog.cellsOf 84 = 16 := by kernel_rfl
theorem cel133 : Tryz.prog.cellsOf 133 = 5 := by kernel_rfl
theorem ShE.ln {ds : List D} (h : ShE ds) : ds.length = 5 := by cases h; rfl
theorem ShF.ln {ds : List D} (h : ShF ds) : ds.length = 4 := by cases h; rfl
theorem ShC.ln {ds : List D} (h : ShC ds) : ds.length = 5 := by cases h; rfl
theorem ShV.ln {ds : List D} (h : ShV ds) : ds.length = 6 := by cases h; rfl
theorem ShP.ln {ds : List D} (h : ShP ds) : ds.length = 5 := by cases h; rfl
theorem ShS.ln {ds : List D} (h : ShS ds) : ds.length = 16 := by cases h; rfl
theorem ShR.ln {ds : List D} (h : ShR ds) : ds.length = 9 := by cases h; rfl
theorem ShG.ln {ds : List D} (h : ShG ds) : ds.length = 9 := by cases h; rfl
theorem ShT.ln {ds : List D} (h : ShT ds) : ds.length = 1 := by cases h; rfl
theorem marks_of {n : Nat} {cs : List Value} {x : DataW H × List MemPlace} (h : DataW.trod enc Tryz.prog W 0 (fun _ => true) true n 59 cs = some x) :
    ∃ v v' l l', cs = [v, v'] ∧ At W v (.row l) ∧ At W v' (.row l') ∧ (∀ z ∈ l, ShT z) ∧ ∀ z ∈ l', ShT z := by
  obtain ⟨xs, m, rfl, _, hl, hlen, hg⟩ := DataW.trod_struct Tryz.underlying59 h
  rw [cel59] at hl
  have hlen' : xs.length = 2 := hlen
  clear hlen
  obtain ⟨c0, c1, rfl⟩ := list2 hl
  obtain ⟨y0, y1, rfl⟩ := list2 hlen'
  · clear hl hlen' h
    have g0 : DataW.trod enc Tryz.prog W 0 (fun _ => true) true m 29 ((([c0, c1] : List Value).drop 0).take (Tryz.prog.cellsOf 29)) = some y0 := hg 0 _ rfl
    rw [cel29] at g0
    have g1 : DataW.trod enc Tryz.prog W 0 (fun _ => true) true m 29 ((([c0, c1] : List Value).drop 1).take (Tryz.prog.cellsOf 29)) = some y1 := hg 1 _ rfl
    rw [cel29] at g1
    obtain ⟨v0, l0, e0, a0, z0⟩ := row_of Tryz.underlying29 cel9 (by omega) (fun _ h => ShT.ln h) g0 (fun j _ => opens_T j)
    obtain ⟨v1, l1, e1, a1, z1⟩ := row_of Tryz.underlying29 cel9 (by omega) (fun _ h => ShT.ln h) g1 (fun j _ => opens_T j)
    obtain rfl : c0 = v0 := by simpa using e0
    obtain rfl : c1 = v1 := by simpa using e1
    exact ⟨_, _, l0, l1, rfl, a0, a1, z0, z1⟩
theorem type_of {n : Nat} {cs : List Value} {x : DataW H × List MemPlace} (h : DataW.trod enc Tryz.prog W 0 (fun _ => true) true n 73 cs = some x) :
    ∃ kd sz tn, cs = [.int .i64 kd, .int .i64 sz, .string tn] ∧ (-9223372036854775808 ≤ kd ∧ kd ≤ 9223372036854775807) ∧ (-9223372036854775808 ≤ sz ∧ sz ≤ 9223372036854775807) ∧ tn.size ≤ maxLen := by
  obtain ⟨xs, m, rfl, _, hl, hlen, hg⟩ := DataW.trod_struct Tryz.underlying73 h
  rw [cel73] at hl
  have hlen' : xs.length = 3 := hlen
  clear hlen
  obtain ⟨c0, c1, c2, rfl⟩ := list3 hl
  obtain ⟨y0, y1, y2, rfl⟩ := list3 hlen'
  · clear hl hlen' h
    have g0 : DataW.trod enc Tryz.prog W 0 (fun _ => true) true m 3 ((([c0, c1, c2] : List Value).drop 0).take (Tryz.prog.cellsOf 3)) = some y0 := hg 0 _ rfl
    rw [cel3] at g0
    have g1 : DataW.trod enc Tryz.prog W 0 (fun _ => true) true m 3 ((([c0, c1, c2] : List Value).drop 1).take (Tryz.prog.cellsOf 3)) = some y1 := hg 1 _ rfl
    rw [cel3] at g1
    have g2 : DataW.trod enc Tryz.prog W 0 (fun _ => true) true m 9 ((([c0, c1, c2] : List Value).drop 2).take (Tryz.prog.cellsOf 9)) = some y2 := hg 2 _ rfl
    rw [cel9] at g2
    obtain ⟨n0, e0, _, w0⟩ := DataW.trod_int Tryz.underlying3 g0
    obtain ⟨n1, e1, _, w1⟩ := DataW.trod_int Tryz.underlying3 g1
    obtain ⟨s, e2, _, w2⟩ := DataW.trod_string Tryz.underlying9 g2
    obtain rfl : c0 = .int .i64 n0 := by simpa using e0
    obtain rfl : c1 = .int .i64 n1 := by simpa using e1
    obtain rfl : c2 = .string s := by simpa using e2
    exact ⟨n0, n1, s, rfl, bounds_i64 w0, bounds_i64 w1, w2⟩
theorem opens_E (n : Nat) : Opens enc W ShE 24 n := by
  induction n using Nat.strongRecOn with
  | ind n ih =>
    intro cs x h
    obtain ⟨xs, m, rfl, _, hl, hlen, hg⟩ := DataW.trod_struct Tryz.underlying24 h
    rw [cel24] at hl
    have hlen' : xs.length = 5 := hlen
    clear hlen
    obtain ⟨c0, c1, c2, c3, c4, rfl⟩ := list5 hl
    obtain ⟨y0, y1, y2, y3, y4, rfl⟩ := list5 hlen'
    clear hl hlen' h
    have g0 : DataW.trod enc Tryz.prog W 0 (fun _ => true) true m 3 ((([c0, c1, c2, c3, c4] : List Value).drop 0).take (Tryz.prog.cellsOf 3)) = some y0 := hg 0 _ rfl
    rw [cel3] at g0
    obtain ⟨n0, e0, _, w0⟩ := DataW.trod_int Tryz.underlying3 g0
    obtain rfl : c0 = .int .i64 n0 := by simpa using e0
    have b0 := bounds_i64 w0
    have g1 : DataW.trod enc Tryz.prog W 0 (fun _ => true) true m 2 ((([.int .i64 n0, c1, c2, c3, c4] : List Value).drop 1).take (Tryz.prog.cellsOf 2)) = some y1 := hg 1 _ rfl
    rw [cel2] at g1
    obtain ⟨n1, e1, _, w1⟩ := DataW.trod_int Tryz.underlying2 g1
    obtain rfl : c1 = .int .i64 n1 := by simpa using e1
    have b1 := bounds_i64 w1
    have g2 : DataW.trod enc Tryz.prog W 0 (fun _ => true) true m 9 ((([.int .i64 n0, .int .i64 n1, c2, c3, c4] : List Value).drop 2).take (Tryz.prog.cellsOf 9)) = some y2 := hg 2 _ rfl
    rw [cel9] at g2
    obtain ⟨s2, e2, _, w2⟩ := DataW.trod_string Tryz.underlying9 g2
    obtain rfl : c2 = .string s2 := by simpa using e2
    have g3 : DataW.trod enc Tryz.prog W 0 (fun _ => true) true m 9 ((([.int .i64 n0, .int .i64 n1, .string s2, c3, c4] : List Value).drop 3).take (Tryz.prog.cellsOf 9)) = some y3 := hg 3 _ rfl
    rw [cel9] at g3
    obtain ⟨s3, e3, _, w3⟩ := DataW.trod_string Tryz.underlying9 g3
    obtain rfl : c3 = .string s3 := by simpa using e3
    have g4 : DataW.trod enc Tryz.prog W 0 (fun _ => true) true m 22 ((([.int .i64 n0, .int .i64 n1, .string s2, .string s3, c4] : List Value).drop 4).take (Tryz.prog.cellsOf 22)) = some y4 := hg 4 _ rfl
    rw [cel22] at g4
    obtain ⟨v4, l4, e4, a4, z4⟩ := row_of Tryz.underlying22 cel24 (by omega) (fun _ h => ShE.ln h) g4 (fun j hj => ih j (by omega))
    obtain rfl : c4 = v4 := by simpa using e4
    exact ⟨[.int n0, .int n1, .str s2, .str s3, .row l4], ⟨.int n0 b0.1 b0.2, .int n1 b1.1 b1.2, .str s2 w2, .str s3 w3, a4, trivial⟩, .mk _ _ _ _ _ z4⟩
theorem opens_F (n : Nat) : Opens enc W ShF 65 n := by
  intro cs x h
  obtain ⟨xs, m, rfl, _, hl, hlen, hg⟩ := DataW.trod_struct Tryz.underlying65 h
  rw [cel65] at hl
  have hlen' : xs.length = 3 := hlen
  clear hlen
  obtain ⟨c0, c1, c2, c3, rfl⟩ := list4 hl
  obtain ⟨y0, y1, y2, rfl⟩ := list3 hlen'
  clear hl hlen' h
  have g0 : DataW.trod enc Tryz.prog W 0 (fun _ => true) true m 59 ((([c0, c1, c2, c3] : List Value).drop 0).take (Tryz.prog.cellsOf 59)) = some y0 := hg 0 _ rfl
  rw [cel59] at g0
  obtain ⟨v0, v0', l0, l0', e0, a0, a0', z0, z0'⟩ := marks_of g0
  obtain ⟨rfl, rfl⟩ : c0 = v0 ∧ c1 = v0' := by simpa using e0
  have g1 : DataW.trod enc Tryz.prog W 0 (fun _ => true) true m 9 ((([c0, c1, c2, c3] : List Value).drop 2).take (Tryz.prog.cellsOf 9)) = some y1 := hg 1 _ rfl
  rw [cel9] at g1
  obtain ⟨s1, e1, _, w1⟩ := DataW.trod_string Tryz.underlying9 g1
  obtain rfl : c2 = .string s1 := by simpa using e1
  have g2 : DataW.trod enc Tryz.prog W 0 (fun _ => true) true m 3 ((([c0, c1, .string s1, c3] : List Value).drop 3).take (Tryz.prog.cellsOf 3)) = some y2 := hg 2 _ rfl
  rw [cel3] at g2
  obtain ⟨n2, e2, _, w2⟩ := DataW.trod_int Tryz.underlying3 g2
  obtain rfl : c3 = .int .i64 n2 := by simpa using e2
  have b2 := bounds_i64 w2
  exact ⟨[.row l0, .row l0', .str s1, .int n2], ⟨a0, a0', .str s1 w1, .int n2 b2.1 b2.2, trivial⟩, .mk _ _ _ _ z0 z0'⟩
theorem opens_C (n : Nat) : Opens enc W ShC 62 n := by
  intro cs x h
  obtain ⟨xs, m, rfl, _, hl, hlen, hg⟩ := DataW.trod_struct Tryz.underlying62 h
  rw [cel62] at hl
  have hlen' : xs.length = 4 := hlen
  clear hlen
  obtain ⟨c0, c1, c2, c3, c4, rfl⟩ := list5 hl
  obtain ⟨y0, y1, y2, y3, rfl⟩ := list4 hlen'
  clear hl hlen' h
  have g0 : DataW.trod enc Tryz.prog W 0 (fun _ => true) true m 59 ((([c0, c1, c2, c3, c4] : List Value).drop 0).take (Tryz.prog.cellsOf 59)) = some y0 := hg 0 _ rfl
  rw [cel59] at g0
  obtain ⟨v0, v0', l0, l0', e0, a0, a0', z0, z0'⟩ := marks_of g0
  obtain ⟨rfl, rfl⟩ : c0 = v0 ∧ c1 = v0' := by simpa using e0
  have g1 : DataW.trod enc Tryz.prog W 0 (fun _ => true) true m 9 ((([c0, c1, c2, c3, c4] : List Value).drop 2).take (Tryz.prog.cellsOf 9)) = some y1 := hg 1 _ rfl
  rw [cel9] at g1
  obtain ⟨s1, e1, _, w1⟩ := DataW.trod_string Tryz.underlying9 g1
  obtain rfl : c2 = .string s1 := by simpa using e1
  have g2 : DataW.trod enc Tryz.prog W 0 (fun _ => true) true m 60 ((([c0, c1, .string s1, c3, c4] : List Value).drop 3).take (Tryz.prog.cellsOf 60)) = some y2 := hg 2 _ rfl
  rw [cel60] at g2
  obtain ⟨v2, l2, e2, a2, z2⟩ := row_of Tryz.underlying60 cel65 (by omega) (fun _ h => ShF.ln h) g2 (fun j _ => opens_F j)
  obtain rfl : c3 = v2 := by simpa using e2
  have g3 : DataW.trod enc Tryz.prog W 0 (fun _ => true) true m 29 ((([c0, c1, .string s1, c3, c4] : List Value).drop 4).take (Tryz.prog.cellsOf 29)) = some y3 := hg 3 _ rfl
  rw [cel29] at g3
  obtain ⟨v3, l3, e3, a3, z3⟩ := row_of Tryz.underlying29 cel9 (by omega) (fun _ h => ShT.ln h) g3 (fun j _ => opens_T j)
  obtain rfl : c4 = v3 := by simpa using e3
  exact ⟨[.row l0, .row l0', .str s1, .row l2, .row l3], ⟨a0, a0', .str s1 w1, a2, a3, trivial⟩, .mk _ _ _ _ _ z0 z0' z2 z3⟩
theorem opens_V (n : Nat) : Opens enc W ShV 75 n := by
  intro cs x h
  obtain ⟨xs, m, rfl, _, hl, hlen, hg⟩ := DataW.trod_struct Tryz.underlying75 h
  rw [cel75] at hl
  have hlen' : xs.length = 3 := hlen
  clear hlen
  obtain ⟨c0, c1, c2, c3, c4, c5, rfl⟩ := list6 hl
  obtain ⟨y0, y1, y2, rfl⟩ := list3 hlen'
  clear hl hlen' h
  have g0 : DataW.trod enc Tryz.prog W 0 (fun _ => true) true m 59 ((([c0, c1, c2, c3, c4, c5] : List Value).drop 0).take (Tryz.prog.cellsOf 59)) = some y0 := hg 0 _ rfl
  rw [cel59] at g0
  obtain ⟨v0, v0', l0, l0', e0, a0, a0', z0, z0'⟩ := marks_of g0
  obtain ⟨rfl, rfl⟩ : c0 = v0 ∧ c1 = v0' := by simpa using e0
  have g1 : DataW.trod enc Tryz.prog W 0 (fun _ => true) true m 9 ((([c0, c1, c2, c3, c4, c5] : List Value).drop 2).take (Tryz.prog.cellsOf 9)) = some y1 := hg 1 _ rfl
  rw [cel9] at g1
  obtain ⟨s1, e1, _, w1⟩ := DataW.trod_string Tryz.underlying9 g1
  obtain rfl : c2 = .string s1 := by simpa using e1
  have g2 : DataW.trod enc Tryz.prog W 0 (fun _ => true) true m 73 ((([c0, c1, .string s1, c3, c4, c5] : List Value).drop 3).take (Tryz.prog.cellsOf 73)) = some y2 := hg 2 _ rfl
  rw [cel73] at g2
  obtain ⟨k2, q2, s2, e2, b2, b2', w2⟩ := type_of g2
  obtain ⟨rfl, rfl, rfl⟩ : c3 = .int .i64 k2 ∧ c4 = .int .i64 q2 ∧ c5 = .string s2 := by simpa using e2
  exact ⟨[.row l0, .row l0', .str s1, .int k2, .int q2, .str s2], ⟨a0, a0', .str s1 w1, .int k2 b2.1 b2.2, .int q2 b2'.1 b2'.2, .str s2 w2, trivial⟩, .mk _ _ _ _ _ _ z0 z0'⟩
theorem opens_P (n : Nat) : Opens enc W ShP 133 n := by
  intro cs x h
  obtain ⟨xs, m, rfl, _, hl, hlen, hg⟩ := DataW.trod_struct Tryz.underlying133 h
  rw [cel133] at hl
  have hlen' : xs.length = 3 := hlen
  clear hlen
  obtain ⟨c0, c1, c2, c3, c4, rfl⟩ := list5 hl
  obtain ⟨y0, y1, y2, rfl⟩ := list3 hlen'
  clear hl hlen' h
  have g0 : DataW.trod enc Tryz.prog W 0 (fun _ => true) true m 9 ((([c0, c1, c2, c3, c4] : List Value).drop 0).take (Tryz.prog.cellsOf 9)) = some y0 := hg 0 _ rfl
  rw [cel9] at g0
  obtain ⟨s0, e0, _, w0⟩ := DataW.trod_string Tryz.underlying9 g0
  obtain rfl : c0 = .string s0 := by simpa using e0
  have g1 : DataW.trod enc Tryz.prog W 0 (fun _ => true) true m 73 ((([.string s0, c1, c2, c3, c4] : List Value).drop 1).take (Tryz.prog.cellsOf 73)) = some y1 := hg 1 _ rfl
  rw [cel73] at g1
  obtain ⟨k1, q1, s1, e1, b1, b1', w1⟩ := type_of g1
  obtain ⟨rfl, rfl, rfl⟩ : c1 = .int .i64 k1 ∧ c2 = .int .i64 q1 ∧ c3 = .string s1 := by simpa using e1
  have g2 : DataW.trod enc Tryz.prog W 0 (fun _ => true) true m 3 ((([.string s0, .int .i64 k1, .int .i64 q1, .string s1, c4] : List Value).drop 4).take (Tryz.prog.cellsOf 3)) = some y2 := hg 2 _ rfl
  rw [cel3] at g2
  obtain ⟨n2, e2, _, w2⟩ := DataW.trod_int Tryz.underlying3 g2
  obtain rfl : c4 = .int .i64 n2 := by simpa using e2
  have b2 := bounds_i64 w2
  exact ⟨[.str s0, .int k1, .int q1, .str s1, .int n2], ⟨.str s0 w0, .int k1 b1.1 b1.2, .int q1 b1'.1 b1'.2, .str s1 w1, .int n2 b2.1 b2.2, trivial⟩, .mk _ _ _ _ _ ⟩
theorem opens_S (n : Nat) : Opens enc W ShS 84 n := by
  induction n using Nat.strongRecOn with
  | ind n ih =>
    intro cs x h
    obtain ⟨xs, m, rfl, _, hl, hlen, hg⟩ := DataW.trod_struct Tryz.underlying84 h
    rw [cel84] at hl
    have hlen' : xs.length = 11 := hlen
    clear hlen
    obtain ⟨c0, c1, c2, c3, c4, c5, c6, c7, c8, c9, c10, c11, c12, c13, c14, c15, rfl⟩ := list16 hl
    obtain ⟨y0, y1, y2, y3, y4, y5, y6, y7, y8, y9, y10, rfl⟩ := list11 hlen'
    clear hl hlen' h
    have g0 : DataW.trod enc Tryz.prog W 0 (fun _ => true) true m 59 ((([c0, c1, c2, c3, c4, c5, c6, c7, c8, c9, c10, c11, c12, c13, c14, c15] : List Value).drop 0).take (Tryz.prog.cellsOf 59)) = some y0 := hg 0 _ rfl
    rw [cel59] at g0
    obtain ⟨v0, v0', l0, l0', e0, a0, a0', z0, z0'⟩ := marks_of g0
    obtain ⟨rfl, rfl⟩ : c0 = v0 ∧ c1 = v0' := by simpa using e0
    have g1 : DataW.trod enc Tryz.prog W 0 (fun _ => true) true m 3 ((([c0, c1, c2, c3, c4, c5, c6, c7, c8, c9, c10, c11, c12, c13, c14, c15] : List Value).drop 2).take (Tryz.prog.cellsOf 3)) = some y1 := hg 1 _ rfl
    rw [cel3] at g1
    obtain ⟨n1, e1, _, w1⟩ := DataW.trod_int Tryz.underlying3 g1
    obtain rfl : c2 = .int .i64 n1 := by simpa using e1
    have b1 := bounds_i64 w1
    have g2 : DataW.trod enc Tryz.prog W 0 (fun _ => true) true m 9 ((([c0, c1, .int .i64 n1, c3, c4, c5, c6, c7, c8, c9, c10, c11, c12, c13, c14, c15] : List Value).drop 3).take (Tryz.prog.cellsOf 9)) = some y2 := hg 2 _ rfl
    rw [cel9] at g2
    obtain ⟨s2, e2, _, w2⟩ := DataW.trod_string Tryz.underlying9 g2
    obtain rfl : c3 = .string s2 := by simpa using e2
    have g3 : DataW.trod enc Tryz.prog W 0 (fun _ => true) true m 24 ((([c0, c1, .int .i64 n1, .string s2, c4, c5, c6, c7, c8, c9, c10, c11, c12, c13, c14, c15] : List Value).drop 4).take (Tryz.prog.cellsOf 24)) = some y3 := hg 3 _ rfl
    rw [cel24] at g3
    obtain ⟨d3, a3, z3⟩ := opens_E _ _ _ g3
    cases z3 with
    | mk xo xn xm xf xl xs' =>
      obtain ⟨a30, a31, a32, a33, a34, _⟩ := a3
      have g4 : DataW.trod enc Tryz.prog W 0 (fun _ => true) true m 22 ((([c0, c1, .int .i64 n1, .string s2, c4, c5, c6, c7, c8, c9, c10, c11, c12, c13, c14, c15] : List Value).drop 9).take (Tryz.prog.cellsOf 22)) = some y4 := hg 4 _ rfl
      rw [cel22] at g4
      obtain ⟨v4, l4, e4, a4, z4⟩ := row_of Tryz.underlying22 cel24 (by omega) (fun _ h => ShE.ln h) g4 (fun j _ => opens_E j)
      obtain rfl : c9 = v4 := by simpa using e4
      have g5 : DataW.trod enc Tryz.prog W 0 (fun _ => true) true m 4 ((([c0, c1, .int .i64 n1, .string s2, c4, c5, c6, c7, c8, c9, c10, c11, c12, c13, c14, c15] : List Value).drop 10).take (Tryz.prog.cellsOf 4)) = some y5 := hg 5 _ rfl
      rw [cel4] at g5
      obtain ⟨t5, e5, _⟩ := DataW.trod_bool Tryz.underlying4 g5
      obtain rfl : c10 = .bool t5 := by simpa using e5
      have g6 : DataW.trod enc Tryz.prog W 0 (fun _ => true) true m 4 ((([c0, c1, .int .i64 n1, .string s2, c4, c5, c6, c7, c8, c9, .bool t5, c11, c12, c13, c14, c15] : List Value).drop 11).take (Tryz.prog.cellsOf 4)) = some y6 := hg 6 _ rfl
      rw [cel4] at g6
      obtain ⟨t6, e6, _⟩ := DataW.trod_bool Tryz.underlying4 g6
      obtain rfl : c11 = .bool t6 := by simpa using e6
      have g7 : DataW.trod enc Tryz.prog W 0 (fun _ => true) true m 33 ((([c0, c1, .int .i64 n1, .string s2, c4, c5, c6, c7, c8, c9, .bool t5, .bool t6, c12, c13, c14, c15] : List Value).drop 12).take (Tryz.prog.cellsOf 33)) = some y7 := hg 7 _ rfl
      rw [cel33] at g7
      obtain ⟨v7, l7, e7, a7, z7⟩ := row_of Tryz.underlying33 cel84 (by omega) (fun _ h => ShS.ln h) g7 (fun j hj => ih j (by omega))
      obtain rfl : c12 = v7 := by simpa using e7
      have g8 : DataW.trod enc Tryz.prog W 0 (fun _ => true) true m 33 ((([c0, c1, .int .i64 n1, .string s2, c4, c5, c6, c7, c8, c9, .bool t5, .bool t6, c12, c13, c14, c15] : List Value).drop 13).take (Tryz.prog.cellsOf 33)) = some y8 := hg 8 _ rfl
      rw [cel33] at g8
      obtain ⟨v8, l8, e8, a8, z8⟩ := row_of Tryz.underlying33 cel84 (by omega) (fun _ h => ShS.ln h) g8 (fun j hj => ih j (by omega))
      obtain rfl : c13 = v8 := by simpa using e8
      have g9 : DataW.trod enc Tryz.prog W 0 (fun _ => true) true m 29 ((([c0, c1, .int .i64 n1, .string s2, c4, c5, c6, c7, c8, c9, .bool t5, .bool t6, c12, c13, c14, c15] : List Value).drop 14).take (Tryz.prog.cellsOf 29)) = some y9 := hg 9 _ rfl
      rw [cel29] at g9
      obtain ⟨v9, l9, e9, a9, z9⟩ := row_of Tryz.underlying29 cel9 (by omega) (fun _ h => ShT.ln h) g9 (fun j _ => opens_T j)
      obtain rfl : c14 = v9 := by simpa using e9
      have g10 : DataW.trod enc Tryz.prog W 0 (fun _ => true) true m 29 ((([c0, c1, .int .i64 n1, .string s2, c4, c5, c6, c7, c8, c9, .bool t5, .bool t6, c12, c13, c14, c15] : List Value).drop 15).take (Tryz.prog.cellsOf 29)) = some y10 := hg 10 _ rfl
      rw [cel29] at g10
      obtain ⟨v10, l10, e10, a10, z10⟩ := row_of Tryz.underlying29 cel9 (by omega) (fun _ h => ShT.ln h) g10 (fun j _ => opens_T j)
      obtain rfl : c15 = v10 := by simpa using e10
      exact ⟨[.row l0, .row l0', .int n1, .str s2, .int xo, .int xn, .str xm, .str xf, .row xl, .row l4, .bool t5, .bool t6, .row l7, .row l8, .row l9, .row l10], ⟨a0, a0', .int n1 b1.1 b1.2, .str s2 w2, a30, a31, a32, a33, a34, a4, .bool t5, .bool t6, a7, a8, a9, a10, trivial⟩, .mk _ _ _ _ _ _ _ _ _ _ _ _ _ _ _ _ z0 z0' xs' z4 z7 z8 z9 z10⟩
theorem opens_R (n : Nat) : Opens enc W ShR 80 n := by
  induction n using Nat.strongRecOn with
  | ind n ih =>
    intro cs x h
    obtain ⟨xs, m, rfl, _, hl, hlen, hg⟩ := DataW.trod_struct Tryz.underlying80 h
    rw [cel80] at hl
    have hlen' : xs.length = 8 := hlen
    clear hlen
    obtain ⟨c0, c1, c2, c3, c4, c5, c6, c7, c8, rfl⟩ := list9 hl
    obtain ⟨y0, y1, y2, y3, y4, y5, y6, y7, rfl⟩ := list8 hlen'
    clear hl hlen' h
    have g0 : DataW.trod enc Tryz.prog W 0 (fun _ => true) true m 59 ((([c0, c1, c2, c3, c4, c5, c6, c7, c8] : List Value).drop 0).take (Tryz.prog.cellsOf 59)) = some y0 := hg 0 _ rfl
    rw [cel59] at g0
    obtain ⟨v0, v0', l0, l0', e0, a0, a0', z0, z0'⟩ := marks_of g0
    obtain ⟨rfl, rfl⟩ : c0 = v0 ∧ c1 = v0' := by simpa using e0
    have g1 : DataW.trod enc Tryz.prog W 0 (fun _ => true) true m 9 ((([c0, c1, c2, c3, c4, c5, c6, c7, c8] : List Value).drop 2).take (Tryz.prog.cellsOf 9)) = some y1 := hg 1 _ rfl
    rw [cel9] at g1
    obtain ⟨s1, e1, _, w1⟩ := DataW.trod_string Tryz.underlying9 g1
    obtain rfl : c2 = .string s1 := by simpa using e1
    have g2 : DataW.trod enc Tryz.prog W 0 (fun _ => true) true m 3 ((([c0, c1, .string s1, c3, c4, c5, c6, c7, c8] : List Value).drop 3).take (Tryz.prog.cellsOf 3)) = some y2 := hg 2 _ rfl
    rw [cel3] at g2
    obtain ⟨n2, e2, _, w2⟩ := DataW.trod_int Tryz.underlying3 g2
    obtain rfl : c3 = .int .i64 n2 := by simpa using e2
    have b2 := bounds_i64 w2
    have g3 : DataW.trod enc Tryz.prog W 0 (fun _ => true) true m 78 ((([c0, c1, .string s1, .int .i64 n2, c4, c5, c6, c7, c8] : List Value).drop 4).take (Tryz.prog.cellsOf 78)) = some y3 := hg 3 _ rfl
    rw [cel78] at g3
    obtain ⟨v3, l3, e3, a3, z3⟩ := row_of Tryz.underlying78 cel133 (by omega) (fun _ h => ShP.ln h) g3 (fun j _ => opens_P j)
    obtain rfl : c4 = v3 := by simpa using e3
    have g4 : DataW.trod enc Tryz.prog W 0 (fun _ => true) true m 31 ((([c0, c1, .string s1, .int .i64 n2, c4, c5, c6, c7, c8] : List Value).drop 5).take (Tryz.prog.cellsOf 31)) = some y4 := hg 4 _ rfl
    rw [cel31] at g4
    obtain ⟨v4, l4, e4, a4, z4⟩ := row_of Tryz.underlying31 cel75 (by omega) (fun _ h => ShV.ln h) g4 (fun j _ => opens_V j)
    obtain rfl : c5 = v4 := by simpa using e4
    have g5 : DataW.trod enc Tryz.prog W 0 (fun _ => true) true m 32 ((([c0, c1, .string s1, .int .i64 n2, c4, c5, c6, c7, c8] : List Value).drop 6).take (Tryz.prog.cellsOf 32)) = some y5 := hg 5 _ rfl
    rw [cel32] at g5
    obtain ⟨v5, l5, e5, a5, z5⟩ := row_of Tryz.underlying32 cel80 (by omega) (fun _ h => ShR.ln h) g5 (fun j hj => ih j (by omega))
    obtain rfl : c6 = v5 := by simpa using e5
    have g6 : DataW.trod enc Tryz.prog W 0 (fun _ => true) true m 33 ((([c0, c1, .string s1, .int .i64 n2, c4, c5, c6, c7, c8] : List Value).drop 7).take (Tryz.prog.cellsOf 33)) = some y6 := hg 6 _ rfl
    rw [cel33] at g6
    obtain ⟨v6, l6, e6, a6, z6⟩ := row_of Tryz.underlying33 cel84 (by omega) (fun _ h => ShS.ln h) g6 (fun j _ => opens_S j)
    obtain rfl : c7 = v6 := by simpa using e6
    have g7 : DataW.trod enc Tryz.prog W 0 (fun _ => true) true m 29 ((([c0, c1, .string s1, .int .i64 n2, c4, c5, c6, c7, c8] : List Value).drop 8).take (Tryz.prog.cellsOf 29)) = some y7 := hg 7 _ rfl
    rw [cel29] at g7
    obtain ⟨v7, l7, e7, a7, z7⟩ := row_of Tryz.underlying29 cel9 (by omega) (fun _ h => ShT.ln h) g7 (fun j _ => opens_T j)
    obtain rfl : c8 = v7 := by simpa using e7
    exact ⟨[.row l0, .row l0', .str s1, .int n2, .row l3, .row l4, .row l5, .row l6, .row l7], ⟨a0, a0', .str s1 w1, .int n2 b2.1 b2.2, a3, a4, a5, a6, a7, trivial⟩, .mk _ _ _ _ _ _ _ _ _ z0 z0' z3 z4 z5 z6 z7⟩
theorem opens_G (n : Nat) : Opens enc W ShG 35 n := by
  intro cs x h
  obtain ⟨xs, m, rfl, _, hl, hlen, hg⟩ := DataW.trod_struct Tryz.underlying35 h
  rw [cel35] at hl
  have hlen' : xs.length = 9 := hlen
  clear hlen
  obtain ⟨c0, c1, c2, c3, c4, c5, c6, c7, c8, rfl⟩ := list9 hl
  obtain ⟨y0, y1, y2, y3, y4, y5, y6, y7, y8, rfl⟩ := list9 hlen'
  clear hl hlen' h
  have g0 : DataW.trod enc Tryz.prog W 0 (fun _ => true) true m 9 ((([c0, c1, c2, c3, c4, c5, c6, c7, c8] : List Value).drop 0).take (Tryz.prog.cellsOf 9)) = some y0 := hg 0 _ rfl
  rw [cel9] at g0
  obtain ⟨s0, e0, _, w0⟩ := DataW.trod_string Tryz.underlying9 g0
  obtain rfl : c0 = .string s0 := by simpa using e0
  have g1 : DataW.trod enc Tryz.prog W 0 (fun _ => true) true m 29 ((([.string s0, c1, c2, c3, c4, c5, c6, c7, c8] : List Value).drop 1).take (Tryz.prog.cellsOf 29)) = some y1 := hg 1 _ rfl
  rw [cel29] at g1
  obtain ⟨v1, l1, e1, a1, z1⟩ := row_of Tryz.underlying29 cel9 (by omega) (fun _ h => ShT.ln h) g1 (fun j _ => opens_T j)
  obtain rfl : c1 = v1 := by simpa using e1
  have g2 : DataW.trod enc Tryz.prog W 0 (fun _ => true) true m 29 ((([.string s0, c1, c2, c3, c4, c5, c6, c7, c8] : List Value).drop 2).take (Tryz.prog.cellsOf 29)) = some y2 := hg 2 _ rfl
  rw [cel29] at g2
  obtain ⟨v2, l2, e2, a2, z2⟩ := row_of Tryz.underlying29 cel9 (by omega) (fun _ h => ShT.ln h) g2 (fun j _ => opens_T j)
  obtain rfl : c2 = v2 := by simpa using e2
  have g3 : DataW.trod enc Tryz.prog W 0 (fun _ => true) true m 29 ((([.string s0, c1, c2, c3, c4, c5, c6, c7, c8] : List Value).drop 3).take (Tryz.prog.cellsOf 29)) = some y3 := hg 3 _ rfl
  rw [cel29] at g3
  obtain ⟨v3, l3, e3, a3, z3⟩ := row_of Tryz.underlying29 cel9 (by omega) (fun _ h => ShT.ln h) g3 (fun j _ => opens_T j)
  obtain rfl : c3 = v3 := by simpa using e3
  have g4 : DataW.trod enc Tryz.prog W 0 (fun _ => true) true m 30 ((([.string s0, c1, c2, c3, c4, c5, c6, c7, c8] : List Value).drop 4).take (Tryz.prog.cellsOf 30)) = some y4 := hg 4 _ rfl
  rw [cel30] at g4
  obtain ⟨v4, l4, e4, a4, z4⟩ := row_of Tryz.underlying30 cel62 (by omega) (fun _ h => ShC.ln h) g4 (fun j _ => opens_C j)
  obtain rfl : c4 = v4 := by simpa using e4
  have g5 : DataW.trod enc Tryz.prog W 0 (fun _ => true) true m 31 ((([.string s0, c1, c2, c3, c4, c5, c6, c7, c8] : List Value).drop 5).take (Tryz.prog.cellsOf 31)) = some y5 := hg 5 _ rfl
  rw [cel31] at g5
  obtain ⟨v5, l5, e5, a5, z5⟩ := row_of Tryz.underlying31 cel75 (by omega) (fun _ h => ShV.ln h) g5 (fun j _ => opens_V j)
  obtain rfl : c5 = v5 := by simpa using e5
  have g6 : DataW.trod enc Tryz.prog W 0 (fun _ => true) true m 32 ((([.string s0, c1, c2, c3, c4, c5, c6, c7, c8] : List Value).drop 6).take (Tryz.prog.cellsOf 32)) = some y6 := hg 6 _ rfl
  rw [cel32] at g6
  obtain ⟨v6, l6, e6, a6, z6⟩ := row_of Tryz.underlying32 cel80 (by omega) (fun _ h => ShR.ln h) g6 (fun j _ => opens_R j)
  obtain rfl : c6 = v6 := by simpa using e6
  have g7 : DataW.trod enc Tryz.prog W 0 (fun _ => true) true m 33 ((([.string s0, c1, c2, c3, c4, c5, c6, c7, c8] : List Value).drop 7).take (Tryz.prog.cellsOf 33)) = some y7 := hg 7 _ rfl
  rw [cel33] at g7
  obtain ⟨v7, l7, e7, a7, z7⟩ := row_of Tryz.underlying33 cel84 (by omega) (fun _ h => ShS.ln h) g7 (fun j _ => opens_S j)
  obtain rfl : c7 = v7 := by simpa using e7
  have g8 : DataW.trod enc Tryz.prog W 0 (fun _ => true) true m 29 ((([.string s0, c1, c2, c3, c4, c5, c6, c7, c8] : List Value).drop 8).take (Tryz.prog.cellsOf 29)) = some y8 := hg 8 _ rfl
  rw [cel29] at g8
  obtain ⟨v8, l8, e8, a8, z8⟩ := row_of Tryz.underlying29 cel9 (by omega) (fun _ h => ShT.ln h) g8 (fun j _ => opens_T j)
  obtain rfl : c8 = v8 := by simpa using e8
  exact ⟨[.str s0, .row l1, .row l2, .row l3, .row l4, .row l5, .row l6, .row l7, .row l8], ⟨.str s0 w0, a1, a2, a3, a4, a5, a6, a7, a8, trivial⟩, .mk _ _ _ _ _ _ _ _ _ z1 z2 z3 z4 z5 z6 z7 z8⟩
end
end Go.Proofs.YtciijpahjjoppaaGreat
