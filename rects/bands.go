package rects

import (
	"iter"
	"slices"

	"etchant/api"
)

// span is a range of x: from its first number up to its second one, which is not in it.
type span [2]int

// band is the range of y from low up to high, which is not in it, and the row that a set has there: its ranges of x, with gaps between them.
type band struct {
	low, high int
	row       []span
}

// blend is two sets, and what decides whether a square is taken that is in the first one, or not, and in the second one, or not.
type blend struct {
	a, b  []api.Rect
	takes func(inA, inB bool) bool
}

// list returns the normal list of the squares that are taken.
func (s blend) list() []api.Rect {
	all := slices.Collect(s.bands())
	size := 0
	for _, b := range all {
		size += len(b.row)
	}
	// There can be millions, which take long to move to a larger slice again and again.
	list := make([]api.Rect, 0, size)
	for _, b := range all {
		for _, r := range b.row {
			list = append(list, api.Rect{X0: r[0], Y0: b.low, X1: r[1], Y1: b.high})
		}
	}
	return list
}

// bands visits the bands of the squares that are taken, the lowest one first.
func (s blend) bands() iter.Seq[band] {
	return func(yield func(band) bool) {
		var last band
		for next := range s.strips() {
			if slices.Equal(last.row, next.row) {
				last.high = next.high
				continue
			}
			if len(last.row) > 0 && !yield(last) {
				return
			}
			last = next
		}
		if len(last.row) > 0 {
			yield(last)
		}
	}
}

// strips visits what is taken between each two neighbouring y at which a rectangle begins or ends.
func (s blend) strips() iter.Seq[band] {
	return func(yield func(band) bool) {
		a, b := newSweep(s.a), newSweep(s.b)
		ends := heights(a.above, b.above)
		for i := 1; i < len(ends); i++ {
			y := ends[i-1]
			if !yield(band{y, ends[i], s.row(a.row(y), b.row(y))}) {
				return
			}
		}
	}
}

// heights returns where the rectangles of the lists begin and end, in increasing order.
func heights(lists ...[]api.Rect) []int {
	var all []int
	for _, l := range lists {
		for _, r := range l {
			all = append(all, r.Y0, r.Y1)
		}
	}
	slices.Sort(all)
	return slices.Compact(all)
}

// row returns what is taken of a row of each set.
func (s blend) row(a, b []span) []span {
	row := make([]span, 0, max(len(a), len(b)))
	for x := -maxSide; len(a) > 0 || len(b) > 0; {
		inA, endA := look(a, x)
		inB, endB := look(b, x)
		next := min(endA, endB)
		if s.takes(inA, inB) {
			row = extend(row, span{x, next})
		}
		x, a, b = next, behind(a, next), behind(b, next)
	}
	return row
}

// look reports whether a row, whose ranges end behind x, has x, and up to where this is so.
func look(row []span, x int) (bool, int) {
	switch {
	case len(row) == 0:
		return false, maxSide
	case x < row[0][0]:
		return false, row[0][0]
	}
	return true, row[0][1]
}

// behind returns a row without the range that ends at x.
func behind(row []span, x int) []span {
	if len(row) > 0 && row[0][1] == x {
		return row[1:]
	}
	return row
}

// extend adds a range, which begins no sooner than the last one of the row.
func extend(row []span, s span) []span {
	if n := len(row); n > 0 && s[0] <= row[n-1][1] {
		row[n-1][1] = max(row[n-1][1], s[1])
		return row
	}
	return append(row, s)
}
