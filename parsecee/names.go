package parsecee

import (
	"slices"
	"strings"

	"pantograph/api"
	"pantograph/lexcee"
	"pantograph/scan"
	"pantograph/words"
)

// readable are the tokens of a text as far as the first name that has a word among its parts. No tree that is right of Cee has such a name (P11.2), so nothing behind it is ever asked for; and without a ( behind it a call of that name is refused like any other name with parts.
func readable(s string) ([]api.Tok, api.Diag) {
	l, d := lexcee.All(s)
	if at := slices.IndexFunc(l, hasWord); at >= 0 {
		l = append(l[:at+1], api.Tok{Kind: api.TokEnd, Pos: l[at].Pos})
	}
	return l, d
}

// hasWord: a name that is a word as a whole is none (layer 6), so it is one of several parts.
func hasWord(t api.Tok) bool {
	return t.Kind == api.TokName && slices.ContainsFunc(strings.Split(t.Text, scan.PartMark), isWord)
}

func isWord(s string) bool { return words.Is(api.Cee, s) }
