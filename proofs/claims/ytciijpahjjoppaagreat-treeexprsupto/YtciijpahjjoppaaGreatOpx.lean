/-
  The shapes opened; what a comparison leaves.
-/
import Derived.Test.YtciijpahjjoppaaGreatDat
namespace Go.Proofs.YtciijpahjjoppaaGreat
open Go.RowKit Go.Deep

/-- What a comparison leaves. -/
def EqPost {α : Type} (x y : α) (W : World) (e : Ending) (W' : World) : Prop := e = .returned (.bool (same x y)) ∧ Below W.heap.size W W'
theorem take_same_succ {α : Type} {l l' : List α} {k : Nat} {x : α} (hx : l[k]? = some x) (hy : l'[k]? = some x) (h : l.take k = l'.take k) : l.take (k + 1) = l'.take (k + 1) := by
  rw [List.take_add_one, List.take_add_one, h, hx, hy]
theorem same_miss {α : Type} {l l' : List α} {k : Nat} {x y : α} (hx : l[k]? = some x) (hy : l'[k]? = some y) (h : same x y = false) : same l l' = false := by
  refine same_no fun e => ?_
  subst e
  rw [hx] at hy
  cases hy
  rw [same_refl] at h
  cases h
theorem same_len {α : Type} {l l' : List α} (h : l.length ≠ l'.length) : same l l' = false := same_no fun e => h (by rw [e])
theorem same_end {α : Type} {l l' : List α} (hl : l.length = l'.length) (h : l.take l.length = l'.take l.length) : same l l' = true := by
  rw [List.take_length, hl, List.take_length] at h
  exact (same_iff _ _).2 h
/-- A function that compares the elements of two rows. -/
def EqFn (w0 : World) (g : Nat) (l l' : List (List D)) : Prop := ∀ x ∈ l, ∀ y ∈ l', ∀ vs ws, AllAt w0 vs x → AllAt w0 ws y → ∀ W, Below w0.heap.size w0 W → Calls Tryz.prog g #[.agg ⟨vs⟩, .agg ⟨ws⟩] W (EqPost x y W)
theorem AllAt.openT {w : World} {vs : List Value} {ds : List D} (h : AllAt w vs ds) (hs : ShT ds) :
    ∃ s, ds = [.str s] ∧ vs = [.string s] ∧ s.size ≤ maxLen := by
  cases hs with
  | mk s  =>
    match vs, h with
    | [v0], ⟨h0, _⟩ =>
      obtain ⟨rfl, i0⟩ := h0.str_inv
      exact ⟨s, rfl, rfl, i0⟩
theorem AllAt.openE {w : World} {vs : List Value} {ds : List D} (h : AllAt w vs ds) (hs : ShE ds) :
    ∃ op n nm fd kl kla klc, ds = [.int op, .int n, .str nm, .str fd, .row kl] ∧ vs = [.int .i64 op, .int .i64 n, .string nm, .string fd, .slice kla kl.length klc] ∧ (-9223372036854775808 ≤ op ∧ op ≤ 9223372036854775807) ∧ (-9223372036854775808 ≤ n ∧ n ≤ 9223372036854775807) ∧ nm.size ≤ maxLen ∧ fd.size ≤ maxLen ∧ At w (.slice kla kl.length klc) (.row kl) ∧ (∀ x ∈ kl, ShE x) := by
  cases hs with
  | mk op n nm fd kl skl =>
    match vs, h with
    | [v0, v1, v2, v3, v4], ⟨h0, h1, h2, h3, h4, _⟩ =>
      obtain ⟨rfl, i0⟩ := h0.int_inv
      obtain ⟨rfl, i1⟩ := h1.int_inv
      obtain ⟨rfl, i2⟩ := h2.str_inv
      obtain ⟨rfl, i3⟩ := h3.str_inv
      obtain ⟨kla, klc, rfl, _⟩ := h4.row_inv
      exact ⟨op, n, nm, fd, kl, kla, klc, rfl, rfl, i0, i1, i2, i3, h4, skl⟩
theorem AllAt.openF {w : World} {vs : List Value} {ds : List D} (h : AllAt w vs ds) (hs : ShF ds) :
    ∃ m0 m1 nm kd m0a m0c m1a m1c, ds = [.row m0, .row m1, .str nm, .int kd] ∧ vs = [.slice m0a m0.length m0c, .slice m1a m1.length m1c, .string nm, .int .i64 kd] ∧ At w (.slice m0a m0.length m0c) (.row m0) ∧ At w (.slice m1a m1.length m1c) (.row m1) ∧ nm.size ≤ maxLen ∧ (-9223372036854775808 ≤ kd ∧ kd ≤ 9223372036854775807) ∧ (∀ x ∈ m0, ShT x) ∧ (∀ x ∈ m1, ShT x) := by
  cases hs with
  | mk m0 m1 nm kd sm0 sm1 =>
    match vs, h with
    | [v0, v1, v2, v3], ⟨h0, h1, h2, h3, _⟩ =>
      obtain ⟨m0a, m0c, rfl, _⟩ := h0.row_inv
      obtain ⟨m1a, m1c, rfl, _⟩ := h1.row_inv
      obtain ⟨rfl, i2⟩ := h2.str_inv
      obtain ⟨rfl, i3⟩ := h3.int_inv
      exact ⟨m0, m1, nm, kd, m0a, m0c, m1a, m1c, rfl, rfl, h0, h1, i2, i3, sm0, sm1⟩
theorem AllAt.openC {w : World} {vs : List Value} {ds : List D} (h : AllAt w vs ds) (hs : ShC ds) :
    ∃ m0 m1 nm fs en m0a m0c m1a m1c fsa fsc ena enc, ds = [.row m0, .row m1, .str nm, .row fs, .row en] ∧ vs = [.slice m0a m0.length m0c, .slice m1a m1.length m1c, .string nm, .slice fsa fs.length fsc, .slice ena en.length enc] ∧ At w (.slice m0a m0.length m0c) (.row m0) ∧ At w (.slice m1a m1.length m1c) (.row m1) ∧ nm.size ≤ maxLen ∧ At w (.slice fsa fs.length fsc) (.row fs) ∧ At w (.slice ena en.length enc) (.row en) ∧ (∀ x ∈ m0, ShT x) ∧ (∀ x ∈ m1, ShT x) ∧ (∀ x ∈ fs, ShF x) ∧ (∀ x ∈ en, ShT x) := by
  cases hs with
  | mk m0 m1 nm fs en sm0 sm1 sfs sen =>
    match vs, h with
    | [v0, v1, v2, v3, v4], ⟨h0, h1, h2, h3, h4, _⟩ =>
      obtain ⟨m0a, m0c, rfl, _⟩ := h0.row_inv
      obtain ⟨m1a, m1c, rfl, _⟩ := h1.row_inv
      obtain ⟨rfl, i2⟩ := h2.str_inv
      obtain ⟨fsa, fsc, rfl, _⟩ := h3.row_inv
      obtain ⟨ena, enc, rfl, _⟩ := h4.row_inv
      exact ⟨m0, m1, nm, fs, en, m0a, m0c, m1a, m1c, fsa, fsc, ena, enc, rfl, rfl, h0, h1, i2, h3, h4, sm0, sm1, sfs, sen⟩
theorem AllAt.openV {w : World} {vs : List Value} {ds : List D} (h : AllAt w vs ds) (hs : ShV ds) :
    ∃ m0 m1 nm kd sz tn m0a m0c m1a m1c, ds = [.row m0, .row m1, .str nm, .int kd, .int sz, .str tn] ∧ vs = [.slice m0a m0.length m0c, .slice m1a m1.length m1c, .string nm, .int .i64 kd, .int .i64 sz, .string tn] ∧ At w (.slice m0a m0.length m0c) (.row m0) ∧ At w (.slice m1a m1.length m1c) (.row m1) ∧ nm.size ≤ maxLen ∧ (-9223372036854775808 ≤ kd ∧ kd ≤ 9223372036854775807) ∧ (-9223372036854775808 ≤ sz ∧ sz ≤ 9223372036854775807) ∧ tn.size ≤ maxLen ∧ (∀ x ∈ m0, ShT x) ∧ (∀ x ∈ m1, ShT x) := by
  cases hs with
  | mk m0 m1 nm kd sz tn sm0 sm1 =>
    match vs, h with
    | [v0, v1, v2, v3, v4, v5], ⟨h0, h1, h2, h3, h4, h5, _⟩ =>
      obtain ⟨m0a, m0c, rfl, _⟩ := h0.row_inv
      obtain ⟨m1a, m1c, rfl, _⟩ := h1.row_inv
      obtain ⟨rfl, i2⟩ := h2.str_inv
      obtain ⟨rfl, i3⟩ := h3.int_inv
      obtain ⟨rfl, i4⟩ := h4.int_inv
      obtain ⟨rfl, i5⟩ := h5.str_inv
      exact ⟨m0, m1, nm, kd, sz, tn, m0a, m0c, m1a, m1c, rfl, rfl, h0, h1, i2, i3, i4, i5, sm0, sm1⟩
theorem AllAt.openP {w : World} {vs : List Value} {ds : List D} (h : AllAt w vs ds) (hs : ShP ds) :
    ∃ nm kd sz tn md, ds = [.str nm, .int kd, .int sz, .str tn, .int md] ∧ vs = [.string nm, .int .i64 kd, .int .i64 sz, .string tn, .int .i64 md] ∧ nm.size ≤ maxLen ∧ (-9223372036854775808 ≤ kd ∧ kd ≤ 9223372036854775807) ∧ (-9223372036854775808 ≤ sz ∧ sz ≤ 9223372036854775807) ∧ tn.size ≤ maxLen ∧ (-9223372036854775808 ≤ md ∧ md ≤ 9223372036854775807) := by
  cases hs with
  | mk nm kd sz tn md  =>
    match vs, h with
    | [v0, v1, v2, v3, v4], ⟨h0, h1, h2, h3, h4, _⟩ =>
      obtain ⟨rfl, i0⟩ := h0.str_inv
      obtain ⟨rfl, i1⟩ := h1.int_inv
      obtain ⟨rfl, i2⟩ := h2.int_inv
      obtain ⟨rfl, i3⟩ := h3.str_inv
      obtain ⟨rfl, i4⟩ := h4.int_inv
      exact ⟨nm, kd, sz, tn, md, rfl, rfl, i0, i1, i2, i3, i4⟩
theorem AllAt.openS {w : World} {vs : List Value} {ds : List D} (h : AllAt w vs ds) (hs : ShS ds) :
    ∃ m0 m1 op nm pop pn pnm pfd pl ex dn mo bd el en e2 m0a m0c m1a m1c pla plc exa exc bda bdc ela elc ena enc e2a e2c, ds = [.row m0, .row m1, .int op, .str nm, .int pop, .int pn, .str pnm, .str pfd, .row pl, .row ex, .bool dn, .bool mo, .row bd, .row el, .row en, .row e2] ∧ vs = [.slice m0a m0.length m0c, .slice m1a m1.length m1c, .int .i64 op, .string nm, .int .i64 pop, .int .i64 pn, .string pnm, .string pfd, .slice pla pl.length plc, .slice exa ex.length exc, .bool dn, .bool mo, .slice bda bd.length bdc, .slice ela el.length elc, .slice ena en.length enc, .slice e2a e2.length e2c] ∧ At w (.slice m0a m0.length m0c) (.row m0) ∧ At w (.slice m1a m1.length m1c) (.row m1) ∧ (-9223372036854775808 ≤ op ∧ op ≤ 9223372036854775807) ∧ nm.size ≤ maxLen ∧ (-9223372036854775808 ≤ pop ∧ pop ≤ 9223372036854775807) ∧ (-9223372036854775808 ≤ pn ∧ pn ≤ 9223372036854775807) ∧ pnm.size ≤ maxLen ∧ pfd.size ≤ maxLen ∧ At w (.slice pla pl.length plc) (.row pl) ∧ At w (.slice exa ex.length exc) (.row ex) ∧ At w (.slice bda bd.length bdc) (.row bd) ∧ At w (.slice ela el.length elc) (.row el) ∧ At w (.slice ena en.length enc) (.row en) ∧ At w (.slice e2a e2.length e2c) (.row e2) ∧ (∀ x ∈ m0, ShT x) ∧ (∀ x ∈ m1, ShT x) ∧ (∀ x ∈ pl, ShE x) ∧ (∀ x ∈ ex, ShE x) ∧ (∀ x ∈ bd, ShS x) ∧ (∀ x ∈ el, ShS x) ∧ (∀ x ∈ en, ShT x) ∧ (∀ x ∈ e2, ShT x) := by
  cases hs with
  | mk m0 m1 op nm pop pn pnm pfd pl ex dn mo bd el en e2 sm0 sm1 spl sex sbd sel sen se2 =>
    match vs, h with
    | [v0, v1, v2, v3, v4, v5, v6, v7, v8, v9, v10, v11, v12, v13, v14, v15], ⟨h0, h1, h2, h3, h4, h5, h6, h7, h8, h9, h10, h11, h12, h13, h14, h15, _⟩ =>
      obtain ⟨m0a, m0c, rfl, _⟩ := h0.row_inv
      obtain ⟨m1a, m1c, rfl, _⟩ := h1.row_inv
      obtain ⟨rfl, i2⟩ := h2.int_inv
      obtain ⟨rfl, i3⟩ := h3.str_inv
      obtain ⟨rfl, i4⟩ := h4.int_inv
      obtain ⟨rfl, i5⟩ := h5.int_inv
      obtain ⟨rfl, i6⟩ := h6.str_inv
      obtain ⟨rfl, i7⟩ := h7.str_inv
      obtain ⟨pla, plc, rfl, _⟩ := h8.row_inv
      obtain ⟨exa, exc, rfl, _⟩ := h9.row_inv
      obtain rfl := h10.bool_inv
      obtain rfl := h11.bool_inv
      obtain ⟨bda, bdc, rfl, _⟩ := h12.row_inv
      obtain ⟨ela, elc, rfl, _⟩ := h13.row_inv
      obtain ⟨ena, enc, rfl, _⟩ := h14.row_inv
      obtain ⟨e2a, e2c, rfl, _⟩ := h15.row_inv
      exact ⟨m0, m1, op, nm, pop, pn, pnm, pfd, pl, ex, dn, mo, bd, el, en, e2, m0a, m0c, m1a, m1c, pla, plc, exa, exc, bda, bdc, ela, elc, ena, enc, e2a, e2c, rfl, rfl, h0, h1, i2, i3, i4, i5, i6, i7, h8, h9, h12, h13, h14, h15, sm0, sm1, spl, sex, sbd, sel, sen, se2⟩
theorem AllAt.openR {w : World} {vs : List Value} {ds : List D} (h : AllAt w vs ds) (hs : ShR ds) :
    ∃ m0 m1 nm rs ps vr inn bd en m0a m0c m1a m1c psa psc vra vrc inna innc bda bdc ena enc, ds = [.row m0, .row m1, .str nm, .int rs, .row ps, .row vr, .row inn, .row bd, .row en] ∧ vs = [.slice m0a m0.length m0c, .slice m1a m1.length m1c, .string nm, .int .i64 rs, .slice psa ps.length psc, .slice vra vr.length vrc, .slice inna inn.length innc, .slice bda bd.length bdc, .slice ena en.length enc] ∧ At w (.slice m0a m0.length m0c) (.row m0) ∧ At w (.slice m1a m1.length m1c) (.row m1) ∧ nm.size ≤ maxLen ∧ (-9223372036854775808 ≤ rs ∧ rs ≤ 9223372036854775807) ∧ At w (.slice psa ps.length psc) (.row ps) ∧ At w (.slice vra vr.length vrc) (.row vr) ∧ At w (.slice inna inn.length innc) (.row inn) ∧ At w (.slice bda bd.length bdc) (.row bd) ∧ At w (.slice ena en.length enc) (.row en) ∧ (∀ x ∈ m0, ShT x) ∧ (∀ x ∈ m1, ShT x) ∧ (∀ x ∈ ps, ShP x) ∧ (∀ x ∈ vr, ShV x) ∧ (∀ x ∈ inn, ShR x) ∧ (∀ x ∈ bd, ShS x) ∧ (∀ x ∈ en, ShT x) := by
  cases hs with
  | mk m0 m1 nm rs ps vr inn bd en sm0 sm1 sps svr sinn sbd sen =>
    match vs, h with
    | [v0, v1, v2, v3, v4, v5, v6, v7, v8], ⟨h0, h1, h2, h3, h4, h5, h6, h7, h8, _⟩ =>
      obtain ⟨m0a, m0c, rfl, _⟩ := h0.row_inv
      obtain ⟨m1a, m1c, rfl, _⟩ := h1.row_inv
      obtain ⟨rfl, i2⟩ := h2.str_inv
      obtain ⟨rfl, i3⟩ := h3.int_inv
      obtain ⟨psa, psc, rfl, _⟩ := h4.row_inv
      obtain ⟨vra, vrc, rfl, _⟩ := h5.row_inv
      obtain ⟨inna, innc, rfl, _⟩ := h6.row_inv
      obtain ⟨bda, bdc, rfl, _⟩ := h7.row_inv
      obtain ⟨ena, enc, rfl, _⟩ := h8.row_inv
      exact ⟨m0, m1, nm, rs, ps, vr, inn, bd, en, m0a, m0c, m1a, m1c, psa, psc, vra, vrc, inna, innc, bda, bdc, ena, enc, rfl, rfl, h0, h1, i2, i3, h4, h5, h6, h7, h8, sm0, sm1, sps, svr, sinn, sbd, sen⟩
theorem AllAt.openG {w : World} {vs : List Value} {ds : List D} (h : AllAt w vs ds) (hs : ShG ds) :
    ∃ nm be mi af rc vr rt bd en bea bec mia mic afa afc rca rcc vra vrc rta rtc bda bdc ena enc, ds = [.str nm, .row be, .row mi, .row af, .row rc, .row vr, .row rt, .row bd, .row en] ∧ vs = [.string nm, .slice bea be.length bec, .slice mia mi.length mic, .slice afa af.length afc, .slice rca rc.length rcc, .slice vra vr.length vrc, .slice rta rt.length rtc, .slice bda bd.length bdc, .slice ena en.length enc] ∧ nm.size ≤ maxLen ∧ At w (.slice bea be.length bec) (.row be) ∧ At w (.slice mia mi.length mic) (.row mi) ∧ At w (.slice afa af.length afc) (.row af) ∧ At w (.slice rca rc.length rcc) (.row rc) ∧ At w (.slice vra vr.length vrc) (.row vr) ∧ At w (.slice rta rt.length rtc) (.row rt) ∧ At w (.slice bda bd.length bdc) (.row bd) ∧ At w (.slice ena en.length enc) (.row en) ∧ (∀ x ∈ be, ShT x) ∧ (∀ x ∈ mi, ShT x) ∧ (∀ x ∈ af, ShT x) ∧ (∀ x ∈ rc, ShC x) ∧ (∀ x ∈ vr, ShV x) ∧ (∀ x ∈ rt, ShR x) ∧ (∀ x ∈ bd, ShS x) ∧ (∀ x ∈ en, ShT x) := by
  cases hs with
  | mk nm be mi af rc vr rt bd en sbe smi saf src svr srt sbd sen =>
    match vs, h with
    | [v0, v1, v2, v3, v4, v5, v6, v7, v8], ⟨h0, h1, h2, h3, h4, h5, h6, h7, h8, _⟩ =>
      obtain ⟨rfl, i0⟩ := h0.str_inv
      obtain ⟨bea, bec, rfl, _⟩ := h1.row_inv
      obtain ⟨mia, mic, rfl, _⟩ := h2.row_inv
      obtain ⟨afa, afc, rfl, _⟩ := h3.row_inv
      obtain ⟨rca, rcc, rfl, _⟩ := h4.row_inv
      obtain ⟨vra, vrc, rfl, _⟩ := h5.row_inv
      obtain ⟨rta, rtc, rfl, _⟩ := h6.row_inv
      obtain ⟨bda, bdc, rfl, _⟩ := h7.row_inv
      obtain ⟨ena, enc, rfl, _⟩ := h8.row_inv
      exact ⟨nm, be, mi, af, rc, vr, rt, bd, en, bea, bec, mia, mic, afa, afc, rca, rcc, vra, vrc, rta, rtc, bda, bdc, ena, enc, rfl, rfl, i0, h1, h2, h3, h4, h5, h6, h7, h8, sbe, smi, saf, src, svr, srt, sbd, sen⟩
end Go.Proofs.YtciijpahjjoppaaGreat
