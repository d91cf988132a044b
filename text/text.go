// Package text is layer 1: see shared/doc/01-text.md.
package text

import (
	"math"
	"strconv"
	"strings"

	"pantograph/api"
)

// Cursor goes through a text.
type Cursor struct {
	text  string
	place api.Pos
}

func New(s string) *Cursor { return &Cursor{text: s} }

func (c *Cursor) Peek(i int) (byte, bool) {
	// i is held against what is left, since place.At + i may wrap.
	if c == nil || i < 0 || i >= len(c.text)-c.place.At {
		return 0, false
	}
	return c.text[c.place.At+i], true
}

func (c *Cursor) Next() (byte, bool) {
	b, ok := c.Peek(0)
	if !ok {
		return 0, false
	}
	c.place.At++
	c.place.Col++
	if b == '\n' {
		c.place.Line++
		c.place.Col = 0
	}
	return b, true
}

func (c *Cursor) Skip(n int) int {
	done := 0
	for done < n {
		if _, ok := c.Next(); !ok {
			break
		}
		done++
	}
	return done
}

func (c *Cursor) Pos() api.Pos {
	if c == nil {
		return api.Pos{}
	}
	return c.place
}

func (c *Cursor) While(set string) string {
	if c == nil {
		return ""
	}
	wanted := members(set)
	from := c.place.At
	for {
		b, ok := c.Peek(0)
		if !ok || !wanted[b] {
			return c.text[from:c.place.At]
		}
		c.Next()
	}
}

// members makes a table of set, so that a long one is gone through only once.
func members(set string) [256]bool {
	var has [256]bool
	for i := range len(set) {
		has[set[i]] = true
	}
	return has
}

func At(s string, at int) api.Pos {
	c := New(s)
	c.Skip(at)
	return c.Pos()
}

func Number(s string) (int64, api.Errno) {
	// All bytes are looked at ahead of the size: ErrByte is told ahead of ErrNumber.
	if !allDigits(s) {
		return 0, api.ErrByte
	}
	var n int64
	for i := range len(s) {
		digit := int64(s[i] - '0')
		if n > (math.MaxInt64-digit)/10 {
			return 0, api.ErrNumber
		}
		n = n*10 + digit
	}
	return n, api.OK
}

func allDigits(s string) bool {
	for i := range len(s) {
		if s[i] < '0' || s[i] > '9' {
			return false
		}
	}
	return s != ""
}

func Digits(n int64) string { return strconv.FormatInt(n, 10) }

func Join(parts ...string) string { return strings.Join(parts, "") }
