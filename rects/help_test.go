package rects_test

import (
	"cmp"
	"math"
	"slices"
	"testing"

	"etchant/api"
	"etchant/rects"
)

// most is the greatest number of a right rectangle, long the greatest length of a right list.
const (
	most = 1073741824
	long = 4096
)

// rect returns a rectangle.
func rect(x0, y0, x1, y1 int) api.Rect { return api.Rect{X0: x0, Y0: y0, X1: x1, Y1: y1} }

// list returns rectangles, of which each is written as four numbers.
func list(numbers ...int) []api.Rect {
	var l []api.Rect
	for four := range slices.Chunk(numbers, 4) {
		l = append(l, rect(four[0], four[1], four[2], four[3]))
	}
	return l
}

// lists returns its arguments.
func lists(l ...[]api.Rect) [][]api.Rect { return l }

// mustBe reports an error unless two values are the same.
func mustBe[T comparable](t *testing.T, got, want T, what ...any) {
	t.Helper()
	if got != want {
		t.Errorf("%v: %v, not %v", what, got, want)
	}
}

// mustBeList reports an error unless two lists have the same elements.
func mustBeList(t *testing.T, got, want []api.Rect, what ...any) {
	t.Helper()
	if !slices.Equal(got, want) {
		t.Errorf("%v: %v, not %v", what, got, want)
	}
}

// mustBeLists reports an error unless the lists have the same elements.
func mustBeLists(t *testing.T, got, want [][]api.Rect, what ...any) {
	t.Helper()
	if !slices.EqualFunc(got, want, slices.Equal[[]api.Rect]) {
		t.Errorf("%v: %v, not %v", what, got, want)
	}
}

// dice are numbers that follow from each other, so that tests repeat.
type dice uint64

// upTo returns a number from 0 to n.
func (d *dice) upTo(n int) int {
	*d = *d*6364136223846793005 + 1442695040888963407
	return int(uint64(*d) >> 33 % uint64(n+1))
}

// some returns n rectangles with numbers from 0 to size, and sides of up to side.
func (d *dice) some(n, size, side int) []api.Rect {
	var l []api.Rect
	for range n {
		x, y := d.upTo(size-1), d.upTo(size-1)
		l = append(l, rect(x, y, min(size, x+1+d.upTo(side-1)), min(size, y+1+d.upTo(side-1))))
	}
	return l
}

// mixed returns the elements of a list in another order.
func (d *dice) mixed(l []api.Rect) []api.Rect {
	l = slices.Clone(l)
	for i := range l {
		k := d.upTo(i)
		l[i], l[k] = l[k], l[i]
	}
	return l
}

// isRight is Right as the chapter defines it.
func isRight(l []api.Rect) bool {
	for _, r := range l {
		for _, n := range []int{r.X0, r.Y0, r.X1, r.Y1} {
			if n < -most || n > most {
				return false
			}
		}
		if !(r.X0 < r.X1 && r.Y0 < r.Y1) {
			return false
		}
	}
	return len(l) <= long
}

// set is squares, by their lowest points: what the chapter calls a set, one square after the other.
type set map[api.Point]bool

// setOf returns the set of a list.
func setOf(l []api.Rect) set {
	s := set{}
	if !isRight(l) {
		return s
	}
	for _, r := range l {
		for x := r.X0; x < r.X1; x++ {
			for y := r.Y0; y < r.Y1; y++ {
				s[api.Point{X: x, Y: y}] = true
			}
		}
	}
	return s
}

// where returns the squares of two sets for which keep holds.
func where(a, b set, keep func(inA, inB bool) bool) set {
	s := set{}
	for _, each := range []set{a, b} {
		for p := range each {
			if keep(a[p], b[p]) {
				s[p] = true
			}
		}
	}
	return s
}

// rows returns the ranges of x that the set has at each y, by their ends.
func (s set) rows() map[int][]int {
	rows := map[int][]int{}
	for p := range s {
		if !s[api.Point{X: p.X - 1, Y: p.Y}] {
			rows[p.Y] = append(rows[p.Y], p.X)
		}
		if !s[api.Point{X: p.X + 1, Y: p.Y}] {
			rows[p.Y] = append(rows[p.Y], p.X+1)
		}
	}
	for _, row := range rows {
		slices.Sort(row) // ranges end before the next one begins
	}
	return rows
}

// normal returns the normal list of the set.
func (s set) normal() []api.Rect {
	var l []api.Rect
	rows := s.rows()
	for y, row := range rows {
		if slices.Equal(row, rows[y-1]) {
			continue
		}
		top := y + 1
		for slices.Equal(row, rows[top]) {
			top++
		}
		for k := 0; k < len(row); k += 2 {
			l = append(l, rect(row[k], y, row[k+1], top))
		}
	}
	slices.SortFunc(l, inOrder)
	return l
}

// inOrder compares rectangles by Y0, then X0.
func inOrder(a, b api.Rect) int {
	return cmp.Or(cmp.Compare(a.Y0, b.Y0), cmp.Compare(a.X0, b.X0))
}

// piece moves the piece of a square out of the set.
func (s set) piece(p api.Point) set {
	piece, next := set{}, []api.Point{p}
	for len(next) > 0 {
		p, next = next[0], next[1:]
		if !s[p] {
			continue
		}
		delete(s, p)
		piece[p] = true
		for x := p.X - 1; x <= p.X+1; x++ {
			for y := p.Y - 1; y <= p.Y+1; y++ {
				next = append(next, api.Point{X: x, Y: y})
			}
		}
	}
	return piece
}

// pieces returns the normal lists of the pieces of the set, which then is empty.
func (s set) pieces() [][]api.Rect {
	var all [][]api.Rect
	normal := s.normal()
	for _, r := range normal {
		if piece := s.piece(api.Point{X: r.X0, Y: r.Y0}); len(piece) > 0 {
			all = append(all, piece.normal())
			if rectsIn(normal, piece) > long {
				all[len(all)-1] = nil
			}
		}
	}
	return all
}

// rectsIn counts the rectangles that begin in a piece.
func rectsIn(l []api.Rect, piece set) int {
	n := 0
	for _, r := range l {
		if piece[api.Point{X: r.X0, Y: r.Y0}] {
			n++
		}
	}
	return n
}

// ladder returns bars across rungs, whose set has bars * (rungs + 1) + rungs rectangles in its normal list.
func ladder(bars, rungs int) []api.Rect {
	var l []api.Rect
	for k := range bars {
		l = append(l, rect(2*k, 0, 2*k+1, 2*rungs+1))
	}
	for k := range rungs {
		l = append(l, rect(0, 2*k+1, 2*bars-1, 2*k+2))
	}
	return l
}

// stairs returns n squares, each of which touches the next one in a corner.
func stairs(n int) []api.Rect {
	var l []api.Rect
	for k := range n {
		l = append(l, rect(k, k, k+1, k+1))
	}
	return l
}

// oddLists returns lists that are not right.
func oddLists() [][]api.Rect {
	all := lists(
		list(0, 0, 0, 1), list(0, 0, 1, 0), list(1, 0, 0, 1), list(0, 1, 1, 0), list(0, 0, 0, 0), list(1, 1, 0, 0),
		list(0, 0, 1, 1, 2, 2, 1, 3), list(2, 2, 1, 3, 0, 0, 1, 1), list(0, 0, 1, 1, 0, 0, 1, 1, 5, 5, 6, 5),
		slices.Repeat(list(0, 0, 1, 1), long+1), stairs(long+1), make([]api.Rect, long+1), make([]api.Rect, 1),
		list(math.MaxInt, 0, math.MinInt, 1), list(0, math.MaxInt, 1, math.MinInt), list(math.MinInt, math.MinInt, math.MaxInt, math.MaxInt),
	)
	for _, far := range []int{most + 1, most + 2, 2 * most, 4 * most, math.MaxInt} {
		all = append(all, list(0, 0, far, 1), list(0, 0, 1, far), list(-far, 0, 1, 1), list(0, -far, 1, 1), list(far-1, 0, far, 1), list(0, -far, 1, 1-far))
		all = append(all, list(0, 0, 4, 4, 0, 0, 1, far, 2, 2, 3, 3))
	}
	return append(all, list(math.MinInt, 0, 1, 1), list(0, math.MinInt, 1, 1), list(0, 0, 1<<32, 1), list(0, 0, 1, 1<<32), list(0, 0, 1<<32+1, 1<<32+1))
}

// allOf calls every function for a and b, and returns the lists of the results.
func allOf(a, b []api.Rect) [][]api.Rect {
	all := lists(rects.Norm(a), rects.Join(a, b), rects.Less(a, b), rects.Meet(a, b))
	n := rects.Area(a)
	if rects.Has(a, 1, 1) {
		n++
	}
	if rects.Right(a) {
		n = -n
	}
	return append(append(all, list(n, 0, 0, 0)), rects.Pieces(a)...)
}
