// Package scan is what the lexers of both dialects have in common: it stands embedded in each of them.
package scan

import (
	"strings"

	"pantograph/api"
	"pantograph/note"
	"pantograph/text"
	"pantograph/words"
)

const (
	blanks = "\t\n\r "
	digits = "0123456789"
	quote  = "'"

	SmallLetters = "abcdefghijklmnopqrstuvwxyz"
	// BehindFirst is what a name may have behind its first letter, beside letters.
	BehindFirst = digits + "_"
	// PartMark stands between the parts of a name that has several.
	PartMark = "$"
)

// Scanner keeps the text beside its cursor: layer 2 reads a comment from the rest of it.
type Scanner struct {
	*text.Cursor
	dialect int
	text    string
}

func New(dialect int, s string) *Scanner {
	return &Scanner{Cursor: text.New(s), dialect: dialect, text: s}
}

// Tokens are all of the text. own reads one that begins with the byte it is handed, where the dialects differ: it goes on by at least that byte, or tells an error; so there is an end.
func (s *Scanner) Tokens(own func(first byte) (api.Tok, api.Errno)) ([]api.Tok, api.Diag) {
	if len(s.text) > api.MaxText {
		return nil, api.Diag{Code: api.ErrLong}
	}
	var all []api.Tok
	endedIn := -1 // the line of the last token's end: none yet
	for {
		s.While(blanks)
		place := s.Pos()
		t, e := s.token(own)
		if e != api.OK {
			return nil, api.Diag{Code: e, Pos: place}
		}
		t.Pos = place
		t.Same = place.Line == endedIn
		endedIn = s.Pos().Line
		all = append(all, t)
		if t.Kind == api.TokEnd {
			return all, api.Diag{}
		}
	}
}

func (s *Scanner) token(own func(first byte) (api.Tok, api.Errno)) (api.Tok, api.Errno) {
	first, ok := s.Peek(0)
	switch {
	case !ok:
		return api.Tok{Kind: api.TokEnd}, api.OK
	case note.Begins(s.dialect, s.rest()):
		return s.comment()
	case OneOf(digits, first):
		return s.number()
	}
	return own(first)
}

func (s *Scanner) rest() string { return s.text[s.Pos().At:] }

func (s *Scanner) comment() (api.Tok, api.Errno) {
	said, used, e := note.Read(s.dialect, s.rest())
	if e != api.OK {
		return api.Tok{}, e
	}
	s.Skip(used)
	return api.Tok{Kind: api.TokNote, Text: said}, api.OK
}

func (s *Scanner) number() (api.Tok, api.Errno) {
	n, e := text.Number(s.Digits())
	if e != api.OK {
		return api.Tok{}, e
	}
	return api.Tok{Kind: api.TokInt, N: n}, api.OK
}

// Digits are as many as follow.
func (s *Scanner) Digits() string { return s.While(digits) }

// Begins: does what is left begin with that?
func (s *Scanner) Begins(ahead string) bool { return strings.HasPrefix(s.rest(), ahead) }

// Take goes on behind that, if what is left begins with it.
func (s *Scanner) Take(ahead string) bool {
	if !s.Begins(ahead) {
		return false
	}
	s.Skip(len(ahead))
	return true
}

// Name is the token of a name or a word whose parts have been read: each of them may be as long as a name.
func (s *Scanner) Name(parts ...string) (api.Tok, api.Errno) {
	for _, part := range parts {
		if len(part) > api.MaxName {
			return api.Tok{}, api.ErrLong
		}
	}
	name := strings.Join(parts, PartMark)
	if words.Is(s.dialect, name) {
		return api.Tok{Kind: api.TokWord, Text: name}, api.OK
	}
	return api.Tok{Kind: api.TokName, Text: name}, api.OK
}

// Quoted reads a char that is its own byte between quotes: one that can be seen, a quote and those of special not.
func (s *Scanner) Quoted(special string) (api.Tok, api.Errno) {
	b, _ := s.Peek(1)
	closing, _ := s.Peek(2)
	if b < ' ' || b > '~' || OneOf(quote+special, b) || !OneOf(quote, closing) {
		return api.Tok{}, api.ErrQuote
	}
	s.Skip(3)
	return Char(int64(b)), api.OK
}

// Char is the token of a char that has been read.
func Char(n int64) api.Tok { return api.Tok{Kind: api.TokChar, N: n} }

// Sign reads the longest of signs that fits, in whatever order they are handed over.
func (s *Scanner) Sign(signs ...string) (api.Tok, api.Errno) {
	longest := ""
	for _, sign := range signs {
		if len(sign) > len(longest) && s.Begins(sign) {
			longest = sign
		}
	}
	if longest == "" {
		return api.Tok{}, api.ErrByte
	}
	s.Skip(len(longest))
	return api.Tok{Kind: api.TokSign, Text: longest}, api.OK
}

func OneOf(set string, b byte) bool { return strings.IndexByte(set, b) >= 0 }
