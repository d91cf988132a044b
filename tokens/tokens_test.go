package tokens

import (
	"math"
	"slices"
	"testing"

	"pantograph/api"
)

func tok(kind int, text string, n int64, at int) api.Tok {
	return api.Tok{Kind: kind, Text: text, N: n, Pos: api.Pos{At: at, Col: at}}
}

// some is a token of each kind; those with a text have the same one, so that kinds alone tell them apart.
func some() []api.Tok {
	return []api.Tok{
		tok(api.TokName, "x", 0, 0), tok(api.TokWord, "x", 0, 2), tok(api.TokSign, "x", 0, 4),
		tok(api.TokInt, "", 7, 6), tok(api.TokChar, "", 7, 8), tok(api.TokNote, "x", 0, 10), tok(api.TokEnd, "", 0, 12),
	}
}

func wantFault(t *testing.T, r *Reader, code api.Errno, at int) {
	t.Helper()
	if want := (api.Diag{Code: code, Pos: api.Pos{At: at, Col: at}}); r.Fault() != want {
		t.Fatalf("fault %v, want %v", r.Fault(), want)
	}
}

func TestNextAtEachPlace(t *testing.T) {
	l := some()
	for at := range l {
		r := New(l, at)
		if r.Next() != l[at] || r.At() != at || r.Fault() != (api.Diag{}) {
			t.Fatalf("%d: %v, %d, %v", at, r.Next(), r.At(), r.Fault())
		}
	}
}

func TestNextWhereNoneIs(t *testing.T) {
	l := some()[:3]
	for _, at := range []int{math.MinInt, -1, 3, 4, math.MaxInt} {
		r := New(l, at)
		if got := r.Next(); got != tok(api.TokEnd, "", 0, 4) {
			t.Fatalf("%d: %v", at, got)
		}
		r.Refuse()
		wantFault(t, r, api.ErrToken, 4)
		if r.At() != at {
			t.Fatalf("%d: now at %d", at, r.At())
		}
	}
	for _, none := range [][]api.Tok{nil, {}} {
		for _, at := range []int{math.MinInt, -1, 0, 1, math.MaxInt} {
			if got := New(none, at).Next(); got != (api.Tok{}) {
				t.Fatalf("%d: %v", at, got)
			}
		}
	}
}

func TestTakeOfWordsAndSignsAlone(t *testing.T) {
	for at, token := range some() {
		r := New(some(), at)
		want, behind := "", at
		if token.Kind == api.TokWord || token.Kind == api.TokSign {
			want, behind = "x", at+1
		}
		if got := r.Take("y", "x", "z"); got != want || r.At() != behind || r.Fault() != (api.Diag{}) {
			t.Fatalf("%v: %q, at %d, %v", token, got, r.At(), r.Fault())
		}
	}
	r := New(some(), 1)
	if r.Take() != "" || r.Take("y") != "" || r.At() != 1 {
		t.Fatal("took another one")
	}
	if r.Take("x") != "x" || r.Take("x") != "x" || r.At() != 3 {
		t.Fatal("took not both")
	}
}

func TestTakeKind(t *testing.T) {
	for at, token := range some() {
		for kind := -1; kind <= 7; kind++ {
			r := New(some(), at)
			got, ok := r.TakeKind(kind)
			if kind == token.Kind && (got != token || !ok || r.At() != at+1) {
				t.Fatalf("%v: %v, %v", token, got, ok)
			}
			if kind != token.Kind && (got != (api.Tok{}) || ok || r.At() != at) {
				t.Fatalf("%v as %d: %v, %v", token, kind, got, ok)
			}
		}
	}
}

func TestNeed(t *testing.T) {
	for at, token := range some() {
		r := New(some(), at)
		got := r.Need("y", "x")
		switch token.Kind {
		case api.TokWord, api.TokSign:
			if got != "x" || r.At() != at+1 || r.Fault() != (api.Diag{}) {
				t.Fatalf("%v: %q", token, got)
			}
			continue
		case api.TokNote:
			wantFault(t, r, api.ErrPlace, 10)
		default:
			wantFault(t, r, api.ErrToken, token.Pos.At)
		}
		if got != "" || r.At() != at {
			t.Fatalf("%v: %q, at %d", token, got, r.At())
		}
	}
}

func TestNeedName(t *testing.T) {
	for at, token := range some() {
		r := New(some(), at)
		got := r.NeedName()
		switch token.Kind {
		case api.TokName:
			if got != "x" || r.At() != 1 || r.Fault() != (api.Diag{}) {
				t.Fatalf("%q", got)
			}
			continue
		case api.TokNote:
			wantFault(t, r, api.ErrPlace, 10)
		default:
			wantFault(t, r, api.ErrToken, token.Pos.At)
		}
		if got != "" || r.At() != at {
			t.Fatalf("%v: %q, at %d", token, got, r.At())
		}
	}
}

func TestFail(t *testing.T) {
	r := New(some(), 2)
	r.Fail(api.ErrName, api.Pos{At: 1, Col: 1})
	wantFault(t, r, api.ErrName, 1)
	if r.At() != 2 || r.Next().Kind != api.TokEnd || r.Take("x") != "" {
		t.Fatal("something was taken")
	}
	r.Fail(api.ErrDeep, api.Pos{At: 9, Col: 9})
	r.Refuse()
	wantFault(t, r, api.ErrName, 1)
	r = New(some(), 2)
	r.Refuse()
	r.Fail(api.ErrName, api.Pos{At: 1, Col: 1})
	wantFault(t, r, api.ErrToken, 4)
}

// Behind a fault nothing is taken, and the first fault stays.
func TestBehindAFault(t *testing.T) {
	for at, token := range some() {
		r := New(some(), at)
		r.Refuse()
		first := r.Fault()
		if r.Next().Kind != api.TokEnd || r.Take("x") != "" || r.Need("x") != "" || r.NeedName() != "" {
			t.Fatalf("%v: something was taken", token)
		}
		for kind := api.TokName; kind <= api.TokNote; kind++ {
			if got, ok := r.TakeKind(kind); ok {
				t.Fatalf("%v: took %v", token, got)
			}
		}
		r.Refuse()
		if r.Fault() != first || first.Pos != token.Pos || r.At() != at {
			t.Fatalf("%v: %v, then %v, at %d", token, first, r.Fault(), r.At())
		}
	}
}

// The room behind a list's length is not read, and its elements stay.
func TestListStays(t *testing.T) {
	l := some()
	r := New(l[:2], 0)
	r.NeedName()
	r.Need("x")
	if got := r.Next(); got != tok(api.TokEnd, "", 0, 2) {
		t.Fatal(got)
	}
	r.Refuse()
	if !slices.Equal(l, some()) {
		t.Fatal(l)
	}
}
