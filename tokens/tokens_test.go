package tokens

import (
	"math"
	"slices"
	"strings"
	"testing"

	"pantograph/api"
)

func tok(kind int, text string, n int64, at int) api.Tok {
	return api.Tok{Kind: kind, Text: text, N: n, Pos: api.Pos{At: at, Col: at}}
}

// some is a token of each kind; those with a text have the same one, so that kinds alone tell them apart.
func some() []api.Tok {
	return []api.Tok{
		tok(api.TokName, "x", 0, 0), tok(api.TokWord, "x", 0, 2), tok(api.TokSign, "x", 0, 4),
		tok(api.TokInt, "", 7, 6), tok(api.TokChar, "", 7, 8), tok(api.TokNote, "x", 0, 10), tok(api.TokEnd, "", 0, 12),
	}
}

func wantFault(t *testing.T, r *Reader, code api.Errno, at int) {
	t.Helper()
	if want := (api.Diag{Code: code, Pos: api.Pos{At: at, Col: at}}); r.Fault() != want {
		t.Fatalf("fault %v, want %v", r.Fault(), want)
	}
}

func TestNextAtEachPlace(t *testing.T) {
	l := some()
	for at := range l {
		r := New(l, at)
		if r.Next() != l[at] || r.At() != at || r.Fault() != (api.Diag{}) {
			t.Fatalf("%d: %v, %d, %v", at, r.Next(), r.At(), r.Fault())
		}
	}
}

func TestNextWhereNoneIs(t *testing.T) {
	l := some()[:3]
	for _, at := range []int{math.MinInt, -1, 3, 4, math.MaxInt} {
		r := New(l, at)
		if got := r.Next(); got != tok(api.TokEnd, "", 0, 4) {
			t.Fatalf("%d: %v", at, got)
		}
		r.Refuse()
		wantFault(t, r, api.ErrToken, 4)
		if r.At() != at {
			t.Fatalf("%d: now at %d", at, r.At())
		}
	}
	for _, none := range [][]api.Tok{nil, {}} {
		for _, at := range []int{math.MinInt, -1, 0, 1, math.MaxInt} {
			if got := New(none, at).Next(); got != (api.Tok{}) {
				t.Fatalf("%d: %v", at, got)
			}
		}
	}
}

func TestTakeOfWordsAndSignsAlone(t *testing.T) {
	for at, token := range some() {
		r := New(some(), at)
		want, behind := "", at
		if token.Kind == api.TokWord || token.Kind == api.TokSign {
			want, behind = "x", at+1
		}
		if got := r.Take("y", "x", "z"); got != want || r.At() != behind || r.Fault() != (api.Diag{}) {
			t.Fatalf("%v: %q, at %d, %v", token, got, r.At(), r.Fault())
		}
	}
	r := New(some(), 1)
	if r.Take() != "" || r.Take("y") != "" || r.At() != 1 {
		t.Fatal("took another one")
	}
	if r.Take("x") != "x" || r.Take("x") != "x" || r.At() != 3 {
		t.Fatal("took not both")
	}
}

func TestTakeKind(t *testing.T) {
	for at, token := range some() {
		for kind := -1; kind <= 7; kind++ {
			r := New(some(), at)
			got, ok := r.TakeKind(kind)
			if kind == token.Kind && (got != token || !ok || r.At() != at+1) {
				t.Fatalf("%v: %v, %v", token, got, ok)
			}
			if kind != token.Kind && (got != (api.Tok{}) || ok || r.At() != at) {
				t.Fatalf("%v as %d: %v, %v", token, kind, got, ok)
			}
		}
	}
}

func TestNeed(t *testing.T) {
	for at, token := range some() {
		r := New(some(), at)
		got := r.Need("y", "x")
		switch token.Kind {
		case api.TokWord, api.TokSign:
			if got != "x" || r.At() != at+1 || r.Fault() != (api.Diag{}) {
				t.Fatalf("%v: %q", token, got)
			}
			continue
		case api.TokNote:
			wantFault(t, r, api.ErrPlace, 10)
		default:
			wantFault(t, r, api.ErrToken, token.Pos.At)
		}
		if got != "" || r.At() != at {
			t.Fatalf("%v: %q, at %d", token, got, r.At())
		}
	}
}

func TestIs(t *testing.T) {
	for at, token := range some() {
		r := New(some(), at)
		word := token.Kind == api.TokWord || token.Kind == api.TokSign
		if r.Is("y", "x") != word || r.Is("x") != word || r.Is("y") || r.Is() || r.At() != at || r.Fault() != (api.Diag{}) {
			t.Fatal(token)
		}
	}
	r := New(some(), 1)
	r.Refuse()
	if r.Is("x") || r.Is("") {
		t.Fatal("is something behind a fault")
	}
}

func TestNeedRow(t *testing.T) {
	l := []api.Tok{tok(api.TokWord, "x", 0, 0), tok(api.TokSign, "y", 0, 2), tok(api.TokNote, "z", 0, 4), tok(api.TokEnd, "", 0, 6)}
	for _, x := range []struct {
		texts []string
		at    int
		code  api.Errno
	}{
		{nil, 0, api.OK}, {[]string{"x"}, 1, api.OK}, {[]string{"x", "y"}, 2, api.OK}, {[]string{"y"}, 0, api.ErrToken}, {[]string{"x", "x"}, 1, api.ErrToken},
		{[]string{"y", "x", "y"}, 0, api.ErrToken}, {[]string{"x", "y", "z"}, 2, api.ErrPlace}, {[]string{"x", "z", "y", "z"}, 1, api.ErrToken},
	} {
		r := New(l, 0)
		r.NeedRow(x.texts...)
		if r.At() != x.at {
			t.Fatalf("%q: at %d", x.texts, r.At())
		}
		if x.code == api.OK {
			if r.Fault() != (api.Diag{}) {
				t.Fatal(x.texts, r.Fault())
			}
			continue
		}
		wantFault(t, r, x.code, 2*x.at)
	}
}

func TestNeedKind(t *testing.T) {
	for at, token := range some() {
		for kind := api.TokName; kind <= api.TokNote; kind++ {
			r := New(some(), at)
			got := r.NeedKind(kind)
			switch {
			case kind == token.Kind:
				if got != token || r.At() != at+1 || r.Fault() != (api.Diag{}) {
					t.Fatal(token, got)
				}
				continue
			case token.Kind == api.TokNote:
				wantFault(t, r, api.ErrPlace, token.Pos.At)
			default:
				wantFault(t, r, api.ErrToken, token.Pos.At)
			}
			if got != (api.Tok{}) || r.At() != at {
				t.Fatal(token, got)
			}
		}
	}
}

func TestNeedExpr(t *testing.T) {
	want := api.Expr{Op: api.ExVar, Name: "x"}
	calls := 0
	read := func(next int, d api.Diag) func([]api.Tok, int) (api.Expr, int, api.Diag) {
		return func(l []api.Tok, at int) (api.Expr, int, api.Diag) {
			calls++
			if !slices.Equal(l, some()) || at != 2 {
				t.Fatal(l, at)
			}
			return want, next, d
		}
	}
	r := New(some(), 2)
	if e := r.NeedExpr(read(5, api.Diag{})); e.Name != "x" || r.At() != 5 || r.Failed() {
		t.Fatal(e, r.At())
	}
	r = New(some(), 2)
	place := api.Pos{At: 8, Col: 8}
	if e := r.NeedExpr(read(5, api.Diag{Code: api.ErrDeep, Pos: place})); e.Op != 0 || r.At() != 2 {
		t.Fatal(e, r.At())
	}
	wantFault(t, r, api.ErrDeep, 8)
	// Behind a fault nobody is asked.
	calls = 0
	if e := r.NeedExpr(read(5, api.Diag{})); e.Op != 0 || calls != 0 || r.At() != 2 {
		t.Fatal(e, calls)
	}
	wantFault(t, r, api.ErrDeep, 8)
}

func TestNeedEnd(t *testing.T) {
	for at, token := range some() {
		r := New(some(), at)
		r.NeedEnd()
		switch token.Kind {
		case api.TokEnd:
			if r.Fault() != (api.Diag{}) {
				t.Fatal(r.Fault())
			}
		case api.TokNote:
			wantFault(t, r, api.ErrPlace, token.Pos.At)
		default:
			wantFault(t, r, api.ErrToken, token.Pos.At)
		}
	}
	r := New(some(), 9)
	if r.NeedEnd(); r.Failed() {
		t.Fatal(r.Fault())
	}
	r = New(some(), 1)
	r.Fail(api.ErrName, api.Pos{})
	r.NeedEnd()
	wantFault(t, r, api.ErrName, 0)
}

func TestNeedName(t *testing.T) {
	for at, token := range some() {
		r := New(some(), at)
		got := r.NeedName()
		switch token.Kind {
		case api.TokName:
			if got != "x" || r.At() != 1 || r.Fault() != (api.Diag{}) {
				t.Fatalf("%q", got)
			}
			continue
		case api.TokNote:
			wantFault(t, r, api.ErrPlace, 10)
		default:
			wantFault(t, r, api.ErrToken, token.Pos.At)
		}
		if got != "" || r.At() != at {
			t.Fatalf("%v: %q, at %d", token, got, r.At())
		}
	}
}

func TestFail(t *testing.T) {
	r := New(some(), 2)
	if r.Failed() {
		t.Fatal("failed ahead of a fault")
	}
	r.Fail(api.ErrName, api.Pos{At: 1, Col: 1})
	wantFault(t, r, api.ErrName, 1)
	if !r.Failed() || r.At() != 2 || r.Next().Kind != api.TokEnd || r.Take("x") != "" {
		t.Fatal("something was taken")
	}
	r.Fail(api.ErrDeep, api.Pos{At: 9, Col: 9})
	r.Refuse()
	wantFault(t, r, api.ErrName, 1)
	r = New(some(), 2)
	r.Refuse()
	r.Fail(api.ErrName, api.Pos{At: 1, Col: 1})
	wantFault(t, r, api.ErrToken, 4)
}

// Behind a fault nothing is taken, and the first fault stays.
func TestBehindAFault(t *testing.T) {
	for at, token := range some() {
		r := New(some(), at)
		r.Refuse()
		first := r.Fault()
		if r.Next().Kind != api.TokEnd || r.Take("x") != "" || r.Need("x") != "" || r.NeedName() != "" {
			t.Fatalf("%v: something was taken", token)
		}
		for kind := api.TokName; kind <= api.TokNote; kind++ {
			if got, ok := r.TakeKind(kind); ok {
				t.Fatalf("%v: took %v", token, got)
			}
		}
		r.Refuse()
		if r.Fault() != first || first.Pos != token.Pos || r.At() != at {
			t.Fatalf("%v: %v, then %v, at %d", token, first, r.Fault(), r.At())
		}
	}
}

// The room behind a list's length is not read, and its elements stay.
func TestListStays(t *testing.T) {
	l := some()
	r := New(l[:2], 0)
	r.NeedName()
	r.Need("x")
	if got := r.Next(); got != tok(api.TokEnd, "", 0, 2) {
		t.Fatal(got)
	}
	r.Refuse()
	if !slices.Equal(l, some()) {
		t.Fatal(l)
	}
}

func TestSecond(t *testing.T) {
	l := some()
	for at := range l {
		r := New(l, at)
		if got := r.Second(); got != l[min(at+1, len(l)-1)] || r.At() != at {
			t.Fatalf("%d: %v", at, got)
		}
		r.Refuse()
		if got := r.Second(); got != l[len(l)-1] {
			t.Fatalf("%d: %v behind a fault", at, got)
		}
	}
	for _, at := range []int{math.MinInt, -2, len(l), math.MaxInt - 1, math.MaxInt} {
		if got := New(l, at).Second(); got != l[len(l)-1] {
			t.Fatalf("%d: %v", at, got)
		}
		if got := New(nil, at).Second(); got != (api.Tok{}) {
			t.Fatalf("%d: %v", at, got)
		}
	}
}

func TestNeedPlain(t *testing.T) {
	for _, name := range []string{"x", "x_1", "f$g", "$", "f$", "$g"} {
		l := []api.Tok{tok(api.TokName, name, 0, 0), tok(api.TokName, name, 0, 2), tok(api.TokEnd, "", 0, 4)}
		r := New(l, 1)
		got := r.NeedPlain()
		if !strings.Contains(name, "$") {
			if got != name || r.Failed() || r.At() != 2 {
				t.Fatal(name, r.Fault())
			}
			r.RefuseParts(l[0])
			if r.Failed() {
				t.Fatal(name, r.Fault())
			}
			continue
		}
		wantFault(t, r, api.ErrName, 2)
		r = New(l, 1)
		r.RefuseParts(l[0])
		wantFault(t, r, api.ErrName, 0)
	}
	for at, token := range some() {
		if token.Kind == api.TokName {
			continue
		}
		r := New(some(), at)
		code := api.ErrToken
		if token.Kind == api.TokNote {
			code = api.ErrPlace
		}
		if got := r.NeedPlain(); got != "" || r.At() != at {
			t.Fatal(token, got)
		}
		wantFault(t, r, code, token.Pos.At)
	}
}
