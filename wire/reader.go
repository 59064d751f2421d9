package wire

import (
	"strconv"
	"strings"
)

// Reader decodes serializations from a text, one after the other.
type Reader struct {
	rest string // what follows the position; empty, if the reader is bad, so that nothing can be decoded
	bad  bool
}

// New returns a reader at the beginning of s.
func New(s string) *Reader { return &Reader{rest: s} }

// Int decodes an integer; 0, if there is none.
func (r *Reader) Int() int { return r.number(intEnd) }

// Text decodes a string; the empty one, if there is none.
func (r *Reader) Text() string {
	var text string
	length := r.number(lengthEnd)
	if r.Bad() || length < 0 || length > len(r.rest) {
		goto malformed
	}
	text, r.rest = r.rest[:length], r.rest[length:]
	return text

malformed:
	r.spoil()
	return ""
}

// Ints decodes a list of integers; nil, if there is none.
func (r *Reader) Ints() []int { return elements(r, r.Int) }

// Texts decodes a list of strings; nil, if there is none.
func (r *Reader) Texts() []string { return elements(r, r.Text) }

// Left returns how many bytes follow the position.
func (r *Reader) Left() int { return len(r.remainder()) }

// Bad reports whether something could not be decoded, or r is nil.
func (r *Reader) Bad() bool { return r == nil || r.bad }

// remainder returns what follows the position: nothing, if r is nil.
func (r *Reader) remainder() string {
	if r == nil {
		return ""
	}
	return r.rest
}

// spoil makes the reader bad.
func (r *Reader) spoil() {
	if r != nil {
		*r = Reader{bad: true}
	}
}

// skip moves the position after the mark and returns true, if the mark begins there.
func (r *Reader) skip(mark string) bool {
	rest, found := strings.CutPrefix(r.remainder(), mark)
	if found {
		r.rest = rest
	}
	return found
}

// number decodes an integer and the mark after it.
func (r *Reader) number(mark string) int {
	digits, rest, found := strings.Cut(r.remainder(), mark)
	n, err := strconv.Atoi(digits)
	// Atoi also takes zeros and a plus sign that a decimal form does not have.
	if !found || err != nil || strconv.Itoa(n) != digits {
		goto malformed
	}
	r.rest = rest
	return n

malformed:
	r.spoil()
	return 0
}

// elements decodes a list whose elements one decodes from r.
func elements[T any](r *Reader, one func() T) []T {
	var list []T
	if !r.skip(listStart) {
		goto malformed
	}
	for !r.skip(listEnd) {
		list = append(list, one())
		if r.Bad() {
			goto malformed
		}
	}
	return list

malformed:
	r.spoil()
	return nil
}
