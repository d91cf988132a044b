// Package tokens is what the readers of both dialects have in common: it stands embedded in each of them.
package tokens

import (
	"slices"
	"strings"

	"pantograph/api"
	"pantograph/scan"
)

// Reader goes through tokens as far as the first one that may not stand where it does.
type Reader struct {
	list  []api.Tok
	at    int
	fault api.Diag
}

func New(list []api.Tok, at int) *Reader {
	return &Reader{list: list, at: at}
}

// Next is the token that is to be read. Behind a fault it is the end: so whoever reads on takes nothing more, and need not ask.
func (r *Reader) Next() api.Tok { return r.tok(r.at) }

// Second is the one behind it.
func (r *Reader) Second() api.Tok {
	if r.at >= len(r.list) {
		return r.end()
	}
	return r.tok(r.at + 1)
}

func (r *Reader) tok(at int) api.Tok {
	if !r.Failed() && 0 <= at && at < len(r.list) {
		return r.list[at]
	}
	return r.end()
}

// end is the token in place of one that isn't there.
func (r *Reader) end() api.Tok {
	t := api.Tok{Kind: api.TokEnd}
	if len(r.list) > 0 {
		t.Pos = r.list[len(r.list)-1].Pos
	}
	return t
}

// At is the place of the token that is to be read.
func (r *Reader) At() int { return r.at }

// Is: is what is to be read a word or a sign that is one of texts?
func (r *Reader) Is(texts ...string) bool {
	t := r.Next()
	return (t.Kind == api.TokWord || t.Kind == api.TokSign) && slices.Contains(texts, t.Text)
}

// Take goes on behind a word or a sign that is one of texts: which one it is, or an empty text.
func (r *Reader) Take(texts ...string) string {
	if !r.Is(texts...) {
		return ""
	}
	text := r.Next().Text
	r.at++
	return text
}

// TakeKind goes on behind a token of that kind.
func (r *Reader) TakeKind(kind int) (api.Tok, bool) {
	t := r.Next()
	if t.Kind != kind {
		return api.Tok{}, false
	}
	r.at++
	return t, true
}

// Need is Take where one of texts must stand.
func (r *Reader) Need(texts ...string) string {
	text := r.Take(texts...)
	if text == "" {
		r.Refuse()
	}
	return text
}

// NeedRow is Need of each of texts, one behind the other.
func (r *Reader) NeedRow(texts ...string) {
	for _, text := range texts {
		r.Need(text)
	}
}

// NeedName reads a name where one must stand.
func (r *Reader) NeedName() string { return r.NeedKind(api.TokName).Text }

// NeedPlain is NeedName of one without parts.
func (r *Reader) NeedPlain() string {
	t := r.NeedKind(api.TokName)
	r.RefuseParts(t)
	return t.Text
}

// RefuseParts: a name that has been read, and that stands where it may have no parts.
func (r *Reader) RefuseParts(name api.Tok) {
	if strings.Contains(name.Text, scan.PartMark) {
		r.Fail(api.ErrName, name.Pos)
	}
}

// NeedKind is TakeKind where such a token must stand.
func (r *Reader) NeedKind(kind int) api.Tok {
	t, ok := r.TakeKind(kind)
	if !ok {
		r.Refuse()
	}
	return t
}

// NeedExpr goes on behind an expression where one must stand, by the call that reads it.
func (r *Reader) NeedExpr(read func([]api.Tok, int) (api.Expr, int, api.Diag)) api.Expr {
	if r.Failed() {
		return api.Expr{}
	}
	e, next, d := read(r.list, r.at)
	if d.Code != api.OK {
		r.Fail(d.Code, d.Pos)
		return api.Expr{}
	}
	r.at = next
	return e
}

// NeedEnd: here nothing may follow.
func (r *Reader) NeedEnd() {
	if r.Next().Kind != api.TokEnd {
		r.Refuse()
	}
}

// Refuse: the token that is to be read may not stand there.
func (r *Reader) Refuse() {
	t := r.Next()
	code := api.ErrToken
	if t.Kind == api.TokNote {
		code = api.ErrPlace
	}
	r.Fail(code, t.Pos)
}

// Fail tells what is wrong. What fails behind the first fault is none of its own.
func (r *Reader) Fail(code api.Errno, place api.Pos) {
	if !r.Failed() {
		r.fault = api.Diag{Code: code, Pos: place}
	}
}

// Failed: is there a fault?
func (r *Reader) Failed() bool { return r.fault.Code != api.OK }

// Fault is the first one, or no Diag.
func (r *Reader) Fault() api.Diag { return r.fault }
