package parse

import "pantograph/api"

// Slot is a row of comments, and the place of the first one.
type Slot struct {
	Texts []string
	first api.Pos
}

// Comments are all that stand here.
func (x *Reader) Comments() Slot {
	first := x.Next().Pos
	return Slot{x.commentsWhile(func(api.Tok) bool { return true }), first}
}

func (x *Reader) trailing() []string {
	return x.commentsWhile(func(t api.Tok) bool { return t.Same })
}

func (x *Reader) commentsWhile(wanted func(api.Tok) bool) []string {
	var texts []string
	for t := x.Next(); t.Kind == api.TokNote && wanted(t); t = x.Next() {
		x.Room(len(texts))
		texts = append(texts, x.NeedKind(api.TokNote).Text)
	}
	return texts
}

// Marks are those of something that has been read as far as its end.
func (x *Reader) Marks(before []string) api.Marks {
	return api.Marks{Before: before, Trail: x.trailing()}
}

// Forbid: comments that stand nowhere in the tree are told only when it is seen what they stand ahead of.
func (x *Reader) Forbid(s Slot) {
	if len(s.Texts) > 0 {
		x.Fail(api.ErrPlace, s.first)
	}
}

// On asks whether one of words is to be read.
func (x *Reader) On(words ...string) func() bool {
	return func() bool { return x.Is(words...) }
}

// Row reads elements as long as one begins; the comments that are left stand ahead of what follows.
func Row[T any](x *Reader, ahead Slot, begins func() bool, one func(before []string) T) ([]T, Slot) {
	var list []T
	for begins() {
		x.Room(len(list))
		list = append(list, one(ahead.Texts))
		ahead = x.Comments()
	}
	return list, ahead
}

// Closed reads elements, at least so many, and the word that closes their list, with the comments that are left ahead of it. What isn't that word is taken for an element: whether it may be one is seen behind the limits.
func Closed[T any](x *Reader, ahead Slot, least int, word string, one func(before []string) T) ([]T, []string) {
	var list []T
	for {
		if len(list) >= least && x.Take(word) != "" || x.Failed() {
			return list, ahead.Texts
		}
		x.Room(len(list))
		list = append(list, one(ahead.Texts))
		ahead = x.Comments()
	}
}
