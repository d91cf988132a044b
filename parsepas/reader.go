package parsepas

import (
	"pantograph/api"
	"pantograph/tokens"
)

// reader has all of a reader of tokens, and keeps where the items begin. Behind a fault it reads what is not there: whoever asks it looks for the fault first.
type reader struct {
	*tokens.Reader
	items []api.Pos
}

// slot is a row of comments, and the place of the first one.
type slot struct {
	texts []string
	first api.Pos
}

// comments are all that stand here.
func (x *reader) comments() slot {
	first := x.Next().Pos
	return slot{x.commentsWhile(func(api.Tok) bool { return true }), first}
}

func (x *reader) trailing() []string {
	return x.commentsWhile(func(t api.Tok) bool { return t.Same })
}

func (x *reader) commentsWhile(wanted func(api.Tok) bool) []string {
	var texts []string
	for t := x.Next(); t.Kind == api.TokNote && wanted(t); t = x.Next() {
		x.room(len(texts))
		texts = append(texts, x.NeedKind(api.TokNote).Text)
	}
	return texts
}

// marks are those of something that has been read as far as its end.
func (x *reader) marks(before []string) api.Marks {
	return api.Marks{Before: before, Trail: x.trailing()}
}

// item: here one begins.
func (x *reader) item() { x.items = append(x.items, x.Next().Pos) }

// room: may an element begin here, in a list that has so many?
func (x *reader) room(count int) {
	if count >= api.MaxItems {
		x.Fail(api.ErrLong, x.Next().Pos)
	}
}

// depth: may something begin here that is so deep?
func (x *reader) depth(deep int) {
	if deep > api.MaxDepth {
		x.Fail(api.ErrDeep, x.Next().Pos)
	}
}

// row reads elements as long as they begin with that word; the comments that are left stand ahead of what follows.
func row[T any](x *reader, ahead slot, word string, one func(before []string) T) ([]T, slot) {
	var list []T
	for x.Is(word) {
		x.room(len(list))
		list = append(list, one(ahead.texts))
		ahead = x.comments()
	}
	return list, ahead
}

// closed reads elements, at least so many, and the word that closes their list, with the comments that are left ahead of it. What isn't that word is taken for an element: whether it may be one is seen behind the limits.
func closed[T any](x *reader, least int, word string, one func(before []string) T) ([]T, []string) {
	var list []T
	for {
		left := x.comments().texts
		if len(list) >= least && x.Take(word) != "" || x.Failed() {
			return list, left
		}
		x.room(len(list))
		list = append(list, one(left))
	}
}
