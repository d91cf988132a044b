/-
  blanks, around, Begin, End and Line, walked.
-/
import Derived.Test.YtinamdmefbmnnaaPut
import Derived.Test.YtinamdmefbmnnaaShelf
import Derived.Deep.RegionHeld3
import Derived.Laws.CopyOwn
import Derived.Laws.OwnMore
namespace Go.Proofs.Ytinamdmefbmnnaa
open Go.RowKit

/-- Two blanks, n times. -/
def blk (n : Nat) : ByteArray := ⟨(List.replicate (2 * n) (32 : UInt8)).toArray⟩
theorem blk_l (n : Nat) : (blk n).data.toList = List.replicate (2 * n) 32 := by simp [blk]
theorem blk_rep (n : Nat) : Lib.repeatL (⟨#[32, 32]⟩ : ByteArray).data.toList n = List.replicate (2 * n) 32 := by
  induction n with
  | zero => rfl
  | succ n ih =>
    rw [show 2 * (n + 1) = 2 * n + 1 + 1 by omega, List.replicate_succ, List.replicate_succ, ← ih]
    simp [Lib.repeatL]
set_option maxHeartbeats 400000 in
theorem blanks_nil (w : World) : Calls Try.prog 26 #[.pointer none] w fun e w' => e = .returned (.string ⟨#[]⟩) ∧ w' = w := by
  go_enter Try.func26, Try.ntmps26
  go_wp2_with fail
  refine (full_nil _).mono ?_
  rintro e w' ⟨rfl, rfl⟩
  go_wp2_with fail
  go_ret
  exact ⟨rfl, rfl⟩
set_option maxHeartbeats 400000 in
theorem blanks_full {w : World} {q : Nat} {acc : List UInt8} {room deep : Nat} (h : SinkAt w q acc room deep true) :
    Calls Try.prog 26 #[.pointer (some ⟨q, 0, none⟩)] w fun e w' => e = .returned (.string ⟨#[]⟩) ∧ w' = w := by
  have HA := Lib.hid h
  clear h
  go_enter Try.func26, Try.ntmps26
  go_wp2_with fail
  refine (full_any HA.out).mono ?_
  rintro e w' ⟨rfl, rfl⟩
  go_wp2_with fail
  go_ret
  exact ⟨rfl, rfl⟩
theorem below_of_drew {w w' : World} (h : Below w.drew.heap.size w.drew w') : Below w.heap.size w w' := ⟨h.os, h.tape, h.output, h.size, h.block⟩
theorem cells_of_below {w w' : World} {q : Nat} {acc : List UInt8} {room deep : Nat} {full : Bool} (h : SinkAt w q acc room deep full) (hb : Below w.heap.size w w') :
    w'.cell? ⟨q, 1, none⟩ = some (.int .i64 (room : Nat)) ∧ w'.cell? ⟨q, 2, none⟩ = some (.int .i64 (deep : Nat)) := ⟨(h.below hb).c1, (h.below hb).c2⟩
set_option maxHeartbeats 800000 in
theorem blanks_open {w : World} {q : Nat} {acc : List UInt8} {room deep : Nat} (h : SinkAt w q acc room deep false) (hd : deep ≤ 1000000) (hr : room ≤ maxLen) :
    Calls Try.prog 26 #[.pointer (some ⟨q, 0, none⟩)] w fun e w' => e = .returned (.string (blk (min deep (room / 2 + 1)))) ∧ Below w.heap.size w w' := by
  have HA := Lib.hid h
  have h1 := h.c1
  have h2 := h.c2
  clear h
  unfold maxLen at hr
  generalize hm : min deep (room / 2 + 1) = m
  have hw : min (deep : Int) (IntKind.i64.wrap (IntKind.i64.wrap ((room : Int) / 2) + 1)) = (m : Int) := by
    rw [IntWalk.i64_in ((room : Int) / 2) (by omega), IntWalk.i64_in _ (by omega)]; omega
  have R := Lib.hid (show ∀ W : World, Calls Try.prog 27 #[.string ⟨#[32, 32]⟩, .int .i64 (min (deep : Int) (IntKind.i64.wrap (IntKind.i64.wrap ((room : Int) / 2) + 1)))] W fun e w' => e = .returned (.string (blk m)) ∧ Below W.heap.size W w' from fun W => by
    rw [hw]
    refine (Try.strings_Repeat ⟨#[32, 32]⟩ m W (by omega) (by show 2 * m ≤ _; omega)).mono ?_
    rw [blk_rep]
    exact fun e w' h => h)
  clear hw hm
  go_enter Try.func26, Try.ntmps26
  go_wp2_with fail
  refine (full_any HA.out).mono ?_
  rintro e w' ⟨rfl, rfl⟩
  go_wp2_with fail
  go_region_held3 (fun w1 => w1.cell? ⟨q, 1, none⟩ = some (.int .i64 (room : Nat)) ∧ w1.cell? ⟨q, 2, none⟩ = some (.int .i64 (deep : Nat))) (first | exact ⟨h1, h2⟩ | assumption)
    (first | (go_at_call 27; with_reducible refine (R.out _).mono ?_; rintro e w6 ⟨rfl, b6⟩; have hb := below_of_drew b6; have B6 := Lib.hid hb; have h5 := (cells_of_below HA.out hb); clear b6 hb))
  go_wp2_with fail
  go_ret
  exact ⟨rfl, B6.out⟩

theorem info9 : (Try.prog.info? 9).map (fun i => (i.zero, i.size, i.bytes)) = some (some (.string ⟨#[]⟩), 1, 16) := by kernel_rfl
theorem spliced {cur : List Value} {len : Nat} {ss : List ByteArray} {x y : ByteArray} (h : cur.length = len + 2) (hs : ss.length = len) :
    (splice (cur.set 0 (.string x)) 1 (ss.map Value.string)).length = len + 2 ∧ (splice (cur.set 0 (.string x)) 1 (ss.map Value.string)).set (len + 1) (.string y) = (x :: ss ++ [y]).map Value.string := by
  match cur, h with
  | c0 :: r, h =>
    have hr : r.length = len + 1 := by simpa using h
    have hd : (r.drop len).length = 1 := by rw [List.length_drop]; omega
    obtain ⟨z, hz⟩ := List.length_eq_one_iff.1 hd
    have e : splice ((c0 :: r).set 0 (.string x)) 1 (ss.map Value.string) = .string x :: (ss.map Value.string ++ [z]) := by
      simp only [splice, List.set_cons_zero, List.take_succ_cons, List.take_zero, List.length_map, hs]
      rw [Nat.add_comm 1 len, List.drop_succ_cons, hz]
      rfl
    rw [e]
    refine ⟨by simp [hs], ?_⟩
    rw [List.set_cons_succ, List.set_append_right _ _ (by simp [hs])]
    simp [hs]
theorem isStrs_row {w : World} {n : Nat} {ss : List ByteArray} (hg : w.heap[n]? = some (.cells (ss.map Value.string).toArray 9 (0, 0))) (hl : ss.length ≤ maxLen) (hs : ∀ x ∈ ss, x.size ≤ maxLen) : IsStrs w (some ⟨n, 0, none⟩) ss.length ss.length ss := by
  refine ⟨rfl, Nat.le_refl _, hl, hs, .inr ⟨n, 0, rfl, heap_lt hg, fun j x hx => ?_⟩⟩
  simp [World.cell?, hg, hx]
theorem parts_new {w1 w2 : World} {q : Nat} {acc : List UInt8} {room deep : Nat} {full : Bool} {l c : Nat} {ss : List ByteArray} (h : SinkAt w1 q acc room deep full) (hb : Below w1.heap.size w1 w2) (hs : IsStrs w2 (some ⟨w1.heap.size, 0, none⟩) l c ss) :
    Parts w2 q (some ⟨w1.heap.size, 0, none⟩) l c ss := by
  refine ⟨hs, fun _ b o e hm => ?_⟩
  cases e
  have := h.mine_lt _ ((Mine.congr (hb.block q h.lt)).1 hm)
  omega
set_option maxHeartbeats 800000 in
theorem around_any {w : World} {a : Option Addr} {len cap : Nat} {ss : List ByteArray} (hS : IsStrs w a len cap ss) (hl : len ≤ 1000) (x y : ByteArray) (hx : x.size ≤ maxLen) (hy : y.size ≤ maxLen) :
    Calls Try.prog 25 #[.string x, .slice a len cap, .string y] w fun e w' => e = .returned (.slice (some ⟨w.heap.size, 0, none⟩) (len + 2) (len + 2)) ∧ IsStrs w' (some ⟨w.heap.size, 0, none⟩) (len + 2) (len + 2) (x :: ss ++ [y]) ∧ Below w.heap.size w w' := by
  obtain ⟨i, hi, hz0, hz1, hz2⟩ := info_parts info9
  have HS := Lib.hid hS
  clear hS
  have hw : IntKind.i64.wrap ((len : Int) + 2) = ((len + 2 : Nat) : Int) := by rw [IntWalk.i64_in _ (by omega)]; omega
  have HI := Lib.hid hi
  have Z0 := Lib.hid hz0
  have Z1 := Lib.hid hz1
  have Z2 := Lib.hid hz2
  clear hi hz0 hz1 hz2
  go_enter Try.func25, Try.ntmps25
  go_wp2_with (refine wpList_make_full _ rfl (.tmp 10) (.tmp 10) 31 rfl w.heap.size 9 i (.string ⟨#[]⟩) 1 Try.underlying31 HI.out Z0.out Z1.out .i64 .i64 _ _ (len + 2) rfl rfl (by omega) (by omega) (by rw [Z2.out]; omega) (by unfold maxLen; omega) (Nat.le_refl _) ?_)
  intro w1 o1 g1
  obtain ⟨cur, hg, hcs⟩ : ∃ cur : List Value, w1.heap[w.heap.size]? = some (.cells cur.toArray 9 (0, 0)) ∧ cur.length = len + 2 := by
    rcases o1.2 with ⟨h, _⟩ | ⟨g, cap, cur, h, _, hg, _, _, hc, _⟩
    · cases h
    · cases h
      exact ⟨cur.toList, by simpa using hg, by simpa using hc⟩
  have B1 := Lib.hid (show Below w.heap.size w w1 from ⟨g1.os, g1.tape, g1.output, g1.size, fun k hk => g1.block k hk (by simp)⟩)
  clear o1 g1
  obtain ⟨c0, hc0⟩ : ∃ c0, w1.cell? ⟨w.heap.size, 0, none⟩ = some c0 := ⟨cur[0]'(by omega), by simp [World.cell?, hg]⟩
  have hf0 : w1.frozen? ⟨w.heap.size, 0, none⟩ = false := by simp [World.frozen?, hg]
  have G1 := Lib.hid hg
  clear hg
  obtain ⟨L1, hL1⟩ : ∃ L1 : List Value, L1 = cur.set 0 (.string x) := ⟨_, rfl⟩
  obtain ⟨cs, hcs1⟩ : ∃ cs : List Value, cs = ss.map Value.string := ⟨_, rfl⟩
  have G2 : Hid ((w1.setCell ⟨w.heap.size, 0, none⟩ (.string x)).heap[w.heap.size]? = some (.cells L1.toArray 9 (0, 0))) := Lib.hid (by
    rw [heap_set G1.out, hL1]; simp)
  have B2 := Lib.hid (B1.out.setCell (p := ⟨w.heap.size, 0, none⟩) (Nat.le_refl _) (.string x))
  have hcl : cs.length = len := by rw [hcs1, List.length_map]; exact HS.out.1
  have hl1 : L1.length = len + 2 := by rw [hL1, List.length_set]; exact hcs
  have SP := Lib.hid (spliced (x := x) (y := y) hcs HS.out.1)
  rw [← hL1, ← hcs1] at SP
  have CP : Hid (0 < cs.length → ∃ ad, a = some ad ∧ ∀ j v, cs[j]? = some v → (w1.setCell ⟨w.heap.size, 0, none⟩ (.string x)).cell? (ad.add j) = some v) := Lib.hid (by
    intro h0
    rcases HS.out.2.2.2.2 with h | ⟨b, o, rfl, hb, hc⟩
    · omega
    · refine ⟨_, rfl, ?_⟩
      intro j v hv
      rw [hcs1, List.getElem?_map] at hv
      rw [Addr.add_mid, B2.out.cell (p := ⟨b, o + j, none⟩) hb]
      cases hj : ss[j]? with
      | none => rw [hj] at hv; simp at hv
      | some z => rw [hj] at hv; simp at hv; rw [← hv]; exact hc j z hj)
  have ONE : Hid (∀ v ∈ cs, v.oneCell' = true) := Lib.hid (by
    intro v hv
    rw [hcs1, List.mem_map] at hv
    obtain ⟨z, _, rfl⟩ := hv
    rfl)
  clear hL1 hcs1 hcs
  go_wp2_with (refine wpList_copy_splice rfl (.tmp 16) (.tmp 17) 31 31 rfl 9 Try.underlying31 (by kernel_rfl) _ a _ _ len cap rfl rfl w.heap.size 1 L1 9 G2.out cs (by rw [hcl]; simp) (fun h => ⟨rfl, CP.out h⟩) (by omega) ONE.out w.heap.size w B2.out (Nat.le_refl _) ?_)
  intro w2 G3 b2
  have B3 := Lib.hid b2
  clear b2
  have hsl : (splice L1 1 cs).length = len + 2 := SP.out.1
  obtain ⟨c1, hc1⟩ : ∃ c1, w2.cell? ⟨w.heap.size, len + 1, none⟩ = some c1 := ⟨(splice L1 1 cs)[len + 1]'(by omega), by simp [World.cell?, G3.out]⟩
  have hf1 : w2.frozen? ⟨w.heap.size, len + 1, none⟩ = false := by simp [World.frozen?, G3.out]
  have G4 : Hid ((w2.setCell ⟨w.heap.size, len + 1, none⟩ (.string y)).heap[w.heap.size]? = some (.cells ((x :: ss ++ [y]).map Value.string).toArray 9 (0, 0))) := Lib.hid (by
    rw [heap_set G3.out, ← SP.out.2]; simp)
  have B4 := Lib.hid (B3.out.setCell (p := ⟨w.heap.size, len + 1, none⟩) (Nat.le_refl _) (.string y))
  clear hsl hc0 hf0
  go_wp2_with fail
  have R := Lib.hid (isStrs_row G4.out (by simp [HS.out.1]; unfold maxLen; omega) (fun z hz => by
    rw [List.cons_append, List.mem_cons, List.mem_append, List.mem_singleton] at hz
    rcases hz with rfl | hz | rfl
    · exact hx
    · exact HS.out.2.2.2.1 z hz
    · exact hy))
  have e : (x :: ss ++ [y]).length = len + 2 := by simp [HS.out.1]
  rw [e] at R
  go_ret
  exact ⟨rfl, R.out, B4.out⟩

theorem put_any {w : World} {q : Nat} {acc : List UInt8} {room deep : Nat} {full : Bool} (h : SinkAt w q acc room deep full) {a : Option Addr} {len cap : Nat} {ss : List ByteArray} (hS : Parts w q a len cap ss)
    (hl : acc.length + (flat ss).length ≤ 1000000) (hr : room ≤ maxLen) (ok : Bool) (hok : ok = (!full && decide ((flat ss).length ≤ room))) :
    Calls Try.prog 15 #[.pointer (some ⟨q, 0, none⟩), .slice a len cap] w fun e w' => e = .returned (.bool ok) ∧ SinkAt w' q (if ok then acc ++ flat ss else acc) (if ok then room - (flat ss).length else room) deep (!ok) ∧ Did q w w' := by
  cases full with
  | true =>
    obtain rfl : ok = false := by simpa using hok
    refine (put_full h a len cap).mono ?_
    rintro e w' ⟨rfl, rfl⟩
    exact ⟨rfl, h, Did.refl _ _⟩
  | false =>
    refine (put_open h hS hl hr ok (by simpa using hok)).mono ?_
    rintro e w' ⟨rfl, h1, h2⟩
    refine ⟨rfl, ?_, h2⟩
    cases ok
    · simpa using h1
    · simpa using h1
theorem end_nil (w : World) {a : Option Addr} {len cap : Nat} {ss : List ByteArray} (hS : IsStrs w a len cap ss) (hl : len ≤ 1000) :
    Calls Try.prog 19 #[.pointer none, .slice a len cap] w fun e w' => e = .returned (.bool false) ∧ Below w.heap.size w w' := by
  have HS := Lib.hid hS
  clear hS
  go_enter Try.func19, Try.ntmps19
  go_wp2_with fail
  refine (around_any HS.out hl ⟨#[]⟩ ⟨#[10]⟩ (by decide) (by decide)).mono ?_
  rintro e w2 ⟨rfl, _, b2⟩
  have B2 := Lib.hid b2
  clear b2
  go_wp2_with fail
  refine (put_nil _ _ _ _).mono ?_
  rintro e w3 ⟨rfl, rfl⟩
  go_wp2_with fail
  go_ret
  exact ⟨rfl, B2.out⟩
theorem begin_nil (w : World) {a : Option Addr} {len cap : Nat} {ss : List ByteArray} (hS : IsStrs w a len cap ss) (hl : len ≤ 1000) :
    Calls Try.prog 18 #[.pointer none, .slice a len cap] w fun e w' => e = .returned (.bool false) ∧ Below w.heap.size w w' := by
  have HS := Lib.hid hS
  clear hS
  go_enter Try.func18, Try.ntmps18
  go_wp2_with fail
  refine (blanks_nil _).mono ?_
  rintro e w1 ⟨rfl, rfl⟩
  go_wp2_with fail
  refine (around_any HS.out hl ⟨#[]⟩ ⟨#[]⟩ (by decide) (by decide)).mono ?_
  rintro e w2 ⟨rfl, _, b2⟩
  have B2 := Lib.hid b2
  clear b2
  go_wp2_with fail
  refine (put_nil _ _ _ _).mono ?_
  rintro e w3 ⟨rfl, rfl⟩
  go_wp2_with fail
  go_ret
  exact ⟨rfl, B2.out⟩
theorem line_nil (w : World) {a : Option Addr} {len cap : Nat} {ss : List ByteArray} (hS : IsStrs w a len cap ss) (hl : len ≤ 1000) :
    Calls Try.prog 17 #[.pointer none, .slice a len cap] w fun e w' => e = .returned (.bool false) ∧ Below w.heap.size w w' := by
  have HS := Lib.hid hS
  clear hS
  go_enter Try.func17, Try.ntmps17
  go_wp2_with fail
  refine (blanks_nil _).mono ?_
  rintro e w1 ⟨rfl, rfl⟩
  go_wp2_with fail
  refine (around_any HS.out hl ⟨#[]⟩ ⟨#[10]⟩ (by decide) (by decide)).mono ?_
  rintro e w2 ⟨rfl, _, b2⟩
  have B2 := Lib.hid b2
  clear b2
  go_wp2_with fail
  refine (put_nil _ _ _ _).mono ?_
  rintro e w3 ⟨rfl, rfl⟩
  go_wp2_with fail
  go_ret
  exact ⟨rfl, B2.out⟩
theorem flat_around (x y : ByteArray) (ss : List ByteArray) : flat (x :: ss ++ [y]) = x.data.toList ++ (flat ss ++ y.data.toList) := by simp [flat]
theorem flat_around_len (x y : ByteArray) (ss : List ByteArray) : (flat (x :: ss ++ [y])).length = x.size + ((flat ss).length + y.size) := by
  rw [flat_around, List.length_append, List.length_append, len_size, len_size]
theorem blk_size (n : Nat) : (blk n).size = 2 * n := by rw [← len_size, blk_l, List.length_replicate]
set_option maxHeartbeats 400000 in
theorem end_full {w : World} {q : Nat} {acc : List UInt8} {room deep : Nat} (h : SinkAt w q acc room deep true) {a : Option Addr} {len cap : Nat} {ss : List ByteArray} (hS : IsStrs w a len cap ss) (hn : len ≤ 1000) :
    Calls Try.prog 19 #[.pointer (some ⟨q, 0, none⟩), .slice a len cap] w fun e w' => e = .returned (.bool false) ∧ SinkAt w' q acc room deep true ∧ Did q w w' := by
  have HS := Lib.hid hS
  have HA := Lib.hid h
  clear hS h
  go_enter Try.func19, Try.ntmps19
  go_wp2_with fail
  refine (around_any HS.out hn ⟨#[]⟩ ⟨#[10]⟩ (by decide) (by decide)).mono ?_
  rintro e w2 ⟨rfl, _, b2⟩
  have B2 := Lib.hid b2
  clear b2
  go_wp2_with fail
  refine (put_full (HA.out.below B2.out) _ _ _).mono ?_
  rintro e w3 ⟨rfl, rfl⟩
  go_wp2_with fail
  go_ret
  exact ⟨rfl, HA.out.below B2.out, Did.below HA.out.lt B2.out⟩
set_option maxHeartbeats 400000 in
theorem end_open {w : World} {q : Nat} {acc : List UInt8} {room deep : Nat} (h : SinkAt w q acc room deep false) {a : Option Addr} {len cap : Nat} {ss : List ByteArray} (hS : IsStrs w a len cap ss) (hn : len ≤ 1000) (_hd : deep ≤ 1000)
    (hl : acc.length + (flat ss).length ≤ 500000) (hr : room ≤ maxLen) (ok : Bool) (hok : ok = decide (((flat ss).length + 1) ≤ room)) :
    Calls Try.prog 19 #[.pointer (some ⟨q, 0, none⟩), .slice a len cap] w fun e w' => e = .returned (.bool ok) ∧ SinkAt w' q (if ok then acc ++ (flat ss ++ [10]) else acc) (if ok then room - ((flat ss).length + 1) else room) deep (!ok) ∧ Did q w w' := by
  have HS := Lib.hid hS
  have HA := Lib.hid h
  have HK := Lib.hid hok
  generalize hAA : (if ok = true then acc ++ (flat ss ++ [10]) else acc) = A'
  generalize hRR : (if ok = true then room - ((flat ss).length + 1) else room) = R'
  have HAA := Lib.hid hAA
  have HRR := Lib.hid hRR
  clear hS h hok hAA hRR
  go_enter Try.func19, Try.ntmps19
  go_wp2_with fail
  refine (around_any HS.out hn ⟨#[]⟩ ⟨#[10]⟩ (by decide) (by decide)).mono ?_
  have hf := flat_around_len ⟨#[]⟩ ⟨#[10]⟩ ss
  have FA := Lib.hid (flat_around ⟨#[]⟩ ⟨#[10]⟩ ss)
  generalize (⟨#[]⟩ : ByteArray) :: ss ++ [⟨#[10]⟩] = tt at hf FA ⊢
  rintro e w2 ⟨rfl, s2, b2⟩
  have B2 := Lib.hid b2
  have A2 := Lib.hid (HA.out.below b2)
  have P2 := Lib.hid (parts_new HA.out b2 s2)
  clear b2 s2
  have hy : (⟨#[10]⟩ : ByteArray).size = 1 := rfl
  have hx : (⟨#[]⟩ : ByteArray).size = 0 := rfl
  have HF := Lib.hid hf
  have hk : ok = (!false && decide ((flat tt).length ≤ room)) := by
    rw [HK.out, hf]
    simp only [Bool.not_false, Bool.true_and, decide_eq_decide]
    skip
    omega
  have HK2 := Lib.hid hk
  clear hk
  go_wp2_with fail
  refine (put_any A2.out P2.out (by omega) hr ok HK2.out).mono ?_
  clear hf hy hx
  rintro e w3 ⟨rfl, s3, d3⟩
  have S3 := Lib.hid s3
  have D3 := Lib.hid d3
  clear s3 d3
  go_wp2_with fail
  go_ret
  refine ⟨rfl, ?_, (Did.below HA.out.lt B2.out).trans D3.out⟩
  rw [← HAA.out, ← HRR.out]
  cases hb : ok with
  | false =>
    have e := S3.out
    rw [hb] at e
    simpa using e
  | true =>
    have e := S3.out
    have hk := HK.out
    have hff := HF.out
    rw [hb] at e hk
    have hk2 : ((flat ss).length + 1) ≤ room := by simpa using hk.symm
    rw [FA.out] at e
    simpa using e
theorem end_any {w : World} {q : Nat} {acc : List UInt8} {room deep : Nat} {full : Bool} (h : SinkAt w q acc room deep full) {a : Option Addr} {len cap : Nat} {ss : List ByteArray} (hS : IsStrs w a len cap ss) (hn : len ≤ 1000) (hd : deep ≤ 1000)
    (hl : acc.length + (flat ss).length ≤ 500000) (hr : room ≤ maxLen) (ok : Bool) (hok : ok = (!full && decide (((flat ss).length + 1) ≤ room))) :
    Calls Try.prog 19 #[.pointer (some ⟨q, 0, none⟩), .slice a len cap] w fun e w' => e = .returned (.bool ok) ∧ SinkAt w' q (if ok then acc ++ (flat ss ++ [10]) else acc) (if ok then room - ((flat ss).length + 1) else room) deep (!ok) ∧ Did q w w' := by
  cases full with
  | true =>
    obtain rfl : ok = false := by simpa using hok
    exact end_full h hS hn
  | false => exact end_open h hS hn hd hl hr ok (by simpa using hok)
set_option maxHeartbeats 400000 in
theorem begin_full {w : World} {q : Nat} {acc : List UInt8} {room deep : Nat} (h : SinkAt w q acc room deep true) {a : Option Addr} {len cap : Nat} {ss : List ByteArray} (hS : IsStrs w a len cap ss) (hn : len ≤ 1000) :
    Calls Try.prog 18 #[.pointer (some ⟨q, 0, none⟩), .slice a len cap] w fun e w' => e = .returned (.bool false) ∧ SinkAt w' q acc room deep true ∧ Did q w w' := by
  have HS := Lib.hid hS
  have HA := Lib.hid h
  clear hS h
  go_enter Try.func18, Try.ntmps18
  go_wp2_with fail
  refine (blanks_full HA.out).mono ?_
  rintro e w1 ⟨rfl, rfl⟩
  go_wp2_with fail
  refine (around_any HS.out hn ⟨#[]⟩ ⟨#[]⟩ (by decide) (by decide)).mono ?_
  rintro e w2 ⟨rfl, _, b2⟩
  have B2 := Lib.hid b2
  clear b2
  go_wp2_with fail
  refine (put_full (HA.out.below B2.out) _ _ _).mono ?_
  rintro e w3 ⟨rfl, rfl⟩
  go_wp2_with fail
  go_ret
  exact ⟨rfl, HA.out.below B2.out, Did.below HA.out.lt B2.out⟩
set_option maxHeartbeats 400000 in
theorem begin_open {w : World} {q : Nat} {acc : List UInt8} {room deep : Nat} (h : SinkAt w q acc room deep false) {a : Option Addr} {len cap : Nat} {ss : List ByteArray} (hS : IsStrs w a len cap ss) (hn : len ≤ 1000) (hd : deep ≤ 1000)
    (hl : acc.length + (flat ss).length ≤ 500000) (hr : room ≤ maxLen) (ok : Bool) (hok : ok = decide ((2 * deep + (flat ss).length) ≤ room)) :
    Calls Try.prog 18 #[.pointer (some ⟨q, 0, none⟩), .slice a len cap] w fun e w' => e = .returned (.bool ok) ∧ SinkAt w' q (if ok then acc ++ (List.replicate (2 * deep) 32 ++ flat ss) else acc) (if ok then room - (2 * deep + (flat ss).length) else room) deep (!ok) ∧ Did q w w' := by
  have HS := Lib.hid hS
  have HA := Lib.hid h
  have HK := Lib.hid hok
  generalize hAA : (if ok = true then acc ++ (List.replicate (2 * deep) 32 ++ flat ss) else acc) = A'
  generalize hRR : (if ok = true then room - (2 * deep + (flat ss).length) else room) = R'
  have HAA := Lib.hid hAA
  have HRR := Lib.hid hRR
  clear hS h hok hAA hRR
  go_enter Try.func18, Try.ntmps18
  go_wp2_with fail
  refine (blanks_open HA.out (by omega) hr).mono ?_
  rintro e w1 ⟨rfl, b1⟩
  have B1 := Lib.hid b1
  have A1 := Lib.hid (HA.out.below b1)
  have S1 := Lib.hid (HS.out.below b1)
  clear b1
  have hm : min deep (room / 2 + 1) ≤ deep := Nat.min_le_left _ _
  generalize he : min deep (room / 2 + 1) = m at hm ⊢
  have HE := Lib.hid he
  clear he
  go_wp2_with fail
  refine (around_any S1.out hn (blk m) ⟨#[]⟩ (by rw [blk_size]; unfold maxLen; omega) (by decide)).mono ?_
  have hf := flat_around_len (blk m) ⟨#[]⟩ ss
  rw [blk_size] at hf
  have FA := Lib.hid (flat_around (blk m) ⟨#[]⟩ ss)
  generalize blk m :: ss ++ [⟨#[]⟩] = tt at hf FA ⊢
  rintro e w2 ⟨rfl, s2, b2⟩
  have B2 := Lib.hid b2
  have A2 := Lib.hid (A1.out.below b2)
  have P2 := Lib.hid (parts_new A1.out b2 s2)
  clear b2 s2
  have hy : (⟨#[]⟩ : ByteArray).size = 0 := rfl
  have HF := Lib.hid hf
  have hk : ok = (!false && decide ((flat tt).length ≤ room)) := by
    rw [HK.out, hf]
    simp only [Bool.not_false, Bool.true_and, decide_eq_decide]
    have := HE.out
    omega
  have HK2 := Lib.hid hk
  clear hk
  go_wp2_with fail
  refine (put_any A2.out P2.out (by omega) hr ok HK2.out).mono ?_
  clear hf hy
  rintro e w3 ⟨rfl, s3, d3⟩
  have S3 := Lib.hid s3
  have D3 := Lib.hid d3
  clear s3 d3
  go_wp2_with fail
  go_ret
  refine ⟨rfl, ?_, (Did.below HA.out.lt (B1.out.trans (B2.out.mono B1.out.size))).trans D3.out⟩
  rw [← HAA.out, ← HRR.out]
  cases hb : ok with
  | false =>
    have e := S3.out
    rw [hb] at e
    simpa using e
  | true =>
    have e := S3.out
    have hk := HK.out
    have hff := HF.out
    rw [hb] at e hk
    have hk2 : (2 * deep + (flat ss).length) ≤ room := by simpa using hk.symm
    have hmd : m = deep := by have := HE.out; omega
    rw [FA.out, blk_l, hmd] at e
    simpa using e
theorem begin_any {w : World} {q : Nat} {acc : List UInt8} {room deep : Nat} {full : Bool} (h : SinkAt w q acc room deep full) {a : Option Addr} {len cap : Nat} {ss : List ByteArray} (hS : IsStrs w a len cap ss) (hn : len ≤ 1000) (hd : deep ≤ 1000)
    (hl : acc.length + (flat ss).length ≤ 500000) (hr : room ≤ maxLen) (ok : Bool) (hok : ok = (!full && decide ((2 * deep + (flat ss).length) ≤ room))) :
    Calls Try.prog 18 #[.pointer (some ⟨q, 0, none⟩), .slice a len cap] w fun e w' => e = .returned (.bool ok) ∧ SinkAt w' q (if ok then acc ++ (List.replicate (2 * deep) 32 ++ flat ss) else acc) (if ok then room - (2 * deep + (flat ss).length) else room) deep (!ok) ∧ Did q w w' := by
  cases full with
  | true =>
    obtain rfl : ok = false := by simpa using hok
    exact begin_full h hS hn
  | false => exact begin_open h hS hn hd hl hr ok (by simpa using hok)
set_option maxHeartbeats 400000 in
theorem line_full {w : World} {q : Nat} {acc : List UInt8} {room deep : Nat} (h : SinkAt w q acc room deep true) {a : Option Addr} {len cap : Nat} {ss : List ByteArray} (hS : IsStrs w a len cap ss) (hn : len ≤ 1000) :
    Calls Try.prog 17 #[.pointer (some ⟨q, 0, none⟩), .slice a len cap] w fun e w' => e = .returned (.bool false) ∧ SinkAt w' q acc room deep true ∧ Did q w w' := by
  have HS := Lib.hid hS
  have HA := Lib.hid h
  clear hS h
  go_enter Try.func17, Try.ntmps17
  go_wp2_with fail
  refine (blanks_full HA.out).mono ?_
  rintro e w1 ⟨rfl, rfl⟩
  go_wp2_with fail
  refine (around_any HS.out hn ⟨#[]⟩ ⟨#[10]⟩ (by decide) (by decide)).mono ?_
  rintro e w2 ⟨rfl, _, b2⟩
  have B2 := Lib.hid b2
  clear b2
  go_wp2_with fail
  refine (put_full (HA.out.below B2.out) _ _ _).mono ?_
  rintro e w3 ⟨rfl, rfl⟩
  go_wp2_with fail
  go_ret
  exact ⟨rfl, HA.out.below B2.out, Did.below HA.out.lt B2.out⟩
set_option maxHeartbeats 400000 in
theorem line_open {w : World} {q : Nat} {acc : List UInt8} {room deep : Nat} (h : SinkAt w q acc room deep false) {a : Option Addr} {len cap : Nat} {ss : List ByteArray} (hS : IsStrs w a len cap ss) (hn : len ≤ 1000) (hd : deep ≤ 1000)
    (hl : acc.length + (flat ss).length ≤ 500000) (hr : room ≤ maxLen) (ok : Bool) (hok : ok = decide ((2 * deep + ((flat ss).length + 1)) ≤ room)) :
    Calls Try.prog 17 #[.pointer (some ⟨q, 0, none⟩), .slice a len cap] w fun e w' => e = .returned (.bool ok) ∧ SinkAt w' q (if ok then acc ++ (List.replicate (2 * deep) 32 ++ (flat ss ++ [10])) else acc) (if ok then room - (2 * deep + ((flat ss).length + 1)) else room) deep (!ok) ∧ Did q w w' := by
  have HS := Lib.hid hS
  have HA := Lib.hid h
  have HK := Lib.hid hok
  generalize hAA : (if ok = true then acc ++ (List.replicate (2 * deep) 32 ++ (flat ss ++ [10])) else acc) = A'
  generalize hRR : (if ok = true then room - (2 * deep + ((flat ss).length + 1)) else room) = R'
  have HAA := Lib.hid hAA
  have HRR := Lib.hid hRR
  clear hS h hok hAA hRR
  go_enter Try.func17, Try.ntmps17
  go_wp2_with fail
  refine (blanks_open HA.out (by omega) hr).mono ?_
  rintro e w1 ⟨rfl, b1⟩
  have B1 := Lib.hid b1
  have A1 := Lib.hid (HA.out.below b1)
  have S1 := Lib.hid (HS.out.below b1)
  clear b1
  have hm : min deep (room / 2 + 1) ≤ deep := Nat.min_le_left _ _
  generalize he : min deep (room / 2 + 1) = m at hm ⊢
  have HE := Lib.hid he
  clear he
  go_wp2_with fail
  refine (around_any S1.out hn (blk m) ⟨#[10]⟩ (by rw [blk_size]; unfold maxLen; omega) (by decide)).mono ?_
  have hf := flat_around_len (blk m) ⟨#[10]⟩ ss
  rw [blk_size] at hf
  have FA := Lib.hid (flat_around (blk m) ⟨#[10]⟩ ss)
  generalize blk m :: ss ++ [⟨#[10]⟩] = tt at hf FA ⊢
  rintro e w2 ⟨rfl, s2, b2⟩
  have B2 := Lib.hid b2
  have A2 := Lib.hid (A1.out.below b2)
  have P2 := Lib.hid (parts_new A1.out b2 s2)
  clear b2 s2
  have hy : (⟨#[10]⟩ : ByteArray).size = 1 := rfl
  have HF := Lib.hid hf
  have hk : ok = (!false && decide ((flat tt).length ≤ room)) := by
    rw [HK.out, hf]
    simp only [Bool.not_false, Bool.true_and, decide_eq_decide]
    have := HE.out
    omega
  have HK2 := Lib.hid hk
  clear hk
  go_wp2_with fail
  refine (put_any A2.out P2.out (by omega) hr ok HK2.out).mono ?_
  clear hf hy
  rintro e w3 ⟨rfl, s3, d3⟩
  have S3 := Lib.hid s3
  have D3 := Lib.hid d3
  clear s3 d3
  go_wp2_with fail
  go_ret
  refine ⟨rfl, ?_, (Did.below HA.out.lt (B1.out.trans (B2.out.mono B1.out.size))).trans D3.out⟩
  rw [← HAA.out, ← HRR.out]
  cases hb : ok with
  | false =>
    have e := S3.out
    rw [hb] at e
    simpa using e
  | true =>
    have e := S3.out
    have hk := HK.out
    have hff := HF.out
    rw [hb] at e hk
    have hk2 : (2 * deep + ((flat ss).length + 1)) ≤ room := by simpa using hk.symm
    have hmd : m = deep := by have := HE.out; omega
    rw [FA.out, blk_l, hmd] at e
    simpa using e
theorem line_any {w : World} {q : Nat} {acc : List UInt8} {room deep : Nat} {full : Bool} (h : SinkAt w q acc room deep full) {a : Option Addr} {len cap : Nat} {ss : List ByteArray} (hS : IsStrs w a len cap ss) (hn : len ≤ 1000) (hd : deep ≤ 1000)
    (hl : acc.length + (flat ss).length ≤ 500000) (hr : room ≤ maxLen) (ok : Bool) (hok : ok = (!full && decide ((2 * deep + ((flat ss).length + 1)) ≤ room))) :
    Calls Try.prog 17 #[.pointer (some ⟨q, 0, none⟩), .slice a len cap] w fun e w' => e = .returned (.bool ok) ∧ SinkAt w' q (if ok then acc ++ (List.replicate (2 * deep) 32 ++ (flat ss ++ [10])) else acc) (if ok then room - (2 * deep + ((flat ss).length + 1)) else room) deep (!ok) ∧ Did q w w' := by
  cases full with
  | true =>
    obtain rfl : ok = false := by simpa using hok
    exact line_full h hS hn
  | false => exact line_open h hS hn hd hl hr ok (by simpa using hok)
end Go.Proofs.Ytinamdmefbmnnaa
