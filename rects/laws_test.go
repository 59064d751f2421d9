package rects_test

import (
	"math"
	"slices"
	"sync"
	"testing"

	"etchant/api"
	"etchant/rects"
)

// P11.5

// cut returns other rectangles with the same squares, some of which overlap.
func cut(d *dice, l []api.Rect) []api.Rect {
	var all []api.Rect
	for _, r := range l {
		switch x, y := r.X0+d.upTo(r.X1-r.X0), r.Y0+d.upTo(r.Y1-r.Y0); {
		case r.X0 < x && x < r.X1:
			all = append(all, rect(r.X0, r.Y0, x, r.Y1), rect(x-1, r.Y0, r.X1, r.Y1))
		case r.Y0 < y && y < r.Y1:
			all = append(all, rect(r.X0, r.Y0, r.X1, y), rect(r.X0, y, r.X1, r.Y1))
		default:
			all = append(all, r, r)
		}
	}
	return d.mixed(all)
}

func TestNormTellsSetsApart(t *testing.T) {
	d := dice(5)
	for range 6 {
		for _, l := range someLists(&d) {
			want := rects.Norm(l)
			for range 3 {
				l = cut(&d, l)
				mustBeList(t, rects.Norm(l), want, "Norm", l)
			}
			mustBeList(t, rects.Norm(d.mixed(l)), want, "Norm of another order", l)
			// One more square is another set, and so is one square less.
			x, y := d.upTo(41), d.upTo(41)
			one := list(x, y, x+1, y+1)
			mustBe(t, slices.Equal(rects.Join(l, one), want), rects.Has(l, x, y), "Join", l, one)
			mustBe(t, slices.Equal(rects.Less(l, one), want), !rects.Has(l, x, y), "Less", l, one)
		}
	}
}

func TestNormOfNorm(t *testing.T) {
	d := dice(6)
	for range 6 {
		for _, l := range someLists(&d) {
			n := rects.Norm(l)
			mustBeList(t, rects.Norm(n), n, "Norm", n)
			mustBeList(t, rects.Norm(d.mixed(n)), n, "Norm of another order", n)
			mustBe(t, rects.Right(n), true, "Right", n)
		}
	}
}

// P11.6

func TestParts(t *testing.T) {
	d := dice(7)
	for range 6 {
		all := someLists(&d)
		for k, a := range all {
			b := all[(k*7+3)%len(all)]
			join, less, meet := rects.Join(a, b), rects.Less(a, b), rects.Meet(a, b)
			mustBe(t, rects.Area(join)+rects.Area(meet), rects.Area(a)+rects.Area(b), "Area", a, b)
			mustBe(t, rects.Area(less)+rects.Area(meet), rects.Area(a), "Area", a, b)
			mustBeList(t, rects.Meet(less, meet), nil, "Meet of parts", a, b)
			mustBeList(t, rects.Join(less, meet), rects.Norm(a), "Join of parts", a, b)
			mustBeList(t, rects.Join(b, a), join, "Join", b, a)
			mustBeList(t, rects.Meet(b, a), meet, "Meet", b, a)
			mustBeList(t, rects.Join(less, b), join, "Join of Less", a, b)
			mustBeList(t, rects.Less(less, b), less, "Less of Less", a, b)
		}
	}
}

// P11.7

// neighbours reports whether a square of a and one of b have a point in common.
func neighbours(a, b []api.Rect) bool {
	for _, p := range a {
		for _, q := range b {
			if p.X0 <= q.X1 && q.X0 <= p.X1 && p.Y0 <= q.Y1 && q.Y0 <= p.Y1 {
				return true
			}
		}
	}
	return false
}

func TestPiecesAreApart(t *testing.T) {
	d := dice(8)
	for range 6 {
		for _, l := range someLists(&d) {
			all := rects.Pieces(l)
			mustBeList(t, rects.Norm(slices.Concat(all...)), rects.Norm(l), "Join of pieces", l)
			area := 0
			for k, p := range all {
				area += rects.Area(p)
				mustBeList(t, rects.Norm(p), p, "Norm of a piece", l)
				mustBeLists(t, rects.Pieces(p), lists(p), "Pieces of a piece", l)
				for _, q := range all[:k] {
					mustBe(t, neighbours(p, q), false, "neighbours", l, p, q)
					mustBe(t, inOrder(q[0], p[0]), -1, "order", l, p, q)
				}
			}
			mustBe(t, area, rects.Area(l), "Area of pieces", l)
		}
	}
}

// P1, and the rules R1, R3 and R4 (there are no errors for R2)

// anyNumber returns one that may be beyond the bounds.
func anyNumber(d *dice) int {
	special := []int{math.MinInt, math.MinInt + 1, -most - 1, -most, 1 - most, -1, 0, 1, 2, most - 1, most, most + 1, math.MaxInt - 1, math.MaxInt}
	if k := d.upTo(2 * len(special)); k < len(special) {
		return special[k]
	}
	return d.upTo(9) - 4
}

// anyList returns one that may not be right.
func anyList(d *dice) []api.Rect {
	var l []api.Rect
	for range d.upTo(4) {
		r := rect(anyNumber(d), anyNumber(d), anyNumber(d), anyNumber(d))
		if d.upTo(3) > 0 { // otherwise few lists would be right
			r = rect(min(r.X0, r.X1), min(r.Y0, r.Y1), max(r.X0, r.X1), max(r.Y0, r.Y1))
		}
		l = append(l, r)
	}
	return l
}

func TestAllArgumentsArePermitted(t *testing.T) {
	d := dice(9)
	found := map[bool]int{}
	for range 40000 {
		a, b, x, y := anyList(&d), anyList(&d), anyNumber(&d), anyNumber(&d)
		right := isRight(a)
		found[right]++
		mustBe(t, rects.Right(a), right, "Right", a)
		if !right {
			mustBeLists(t, allOf(a, b), lists(nil, rects.Norm(b), nil, nil, list(0, 0, 0, 0)), "all of", a, b)
			mustBeList(t, rects.Less(b, a), rects.Norm(b), "Less", b, a)
		}
		has := right && slices.ContainsFunc(a, func(r api.Rect) bool { return r.X0 <= x && x < r.X1 && r.Y0 <= y && y < r.Y1 })
		mustBe(t, rects.Has(a, x, y), has, "Has", a, x, y)
		if one := list(x, y, x+1, y+1); isRight(one) {
			mustBe(t, len(rects.Meet(a, one)) == 1, has, "Meet", a, one)
		}
	}
	mustBe(t, found[true] > 5000 && found[false] > 5000, true, "lists", found)
}

// No list takes too long, also if its normal list has a million rectangles.
func TestManyBands(t *testing.T) {
	const n = 1024
	var bars []api.Rect
	var apart [][]api.Rect
	for k := range n {
		bars = append(bars, rect(2*k, k, 2*k+1, k+n))
		apart = append(apart, bars[k:])
	}
	for k := range apart {
		apart[k] = apart[k][:1]
	}
	mustBe(t, len(rects.Norm(bars)), n*n, "length of Norm")
	mustBe(t, rects.Area(bars), n*n, "Area")
	mustBeLists(t, rects.Pieces(bars), apart, "Pieces")
	together := append(slices.Clone(bars), rect(0, n-1, 2*n, n))
	mustBeLists(t, rects.Pieces(together), lists(nil), "Pieces of one piece")
	mustBe(t, rects.Area(together), n*n+n, "Area of one piece")
}

func TestNilIsEmpty(t *testing.T) {
	some := list(0, 0, 2, 2, 1, 1, 3, 3)
	for _, none := range lists(nil, []api.Rect{}) {
		mustBe(t, rects.Right(none), true, "Right")
		mustBeLists(t, allOf(none, none), lists(nil, nil, nil, nil, list(0, 0, 0, 0)), "all of nothing")
		mustBeList(t, rects.Join(some, none), rects.Norm(some), "Join")
		mustBeList(t, rects.Less(some, none), rects.Norm(some), "Less")
		mustBeList(t, rects.Less(none, some), nil, "Less of nothing")
		mustBeList(t, rects.Meet(none, some), nil, "Meet")
		mustBe(t, rects.Has(none, 0, 0), false, "Has")
	}
}

// spoiled returns a copy of the lists, and overwrites their elements, and what there is room for behind them.
func spoiled(all [][]api.Rect) [][]api.Rect {
	var copied [][]api.Rect
	for _, l := range all {
		copied = append(copied, slices.Clone(l))
	}
	for k, l := range all {
		l = l[:cap(l)]
		for i := range l {
			l[i] = rect(70+k, 70, 80, 80)
		}
		for i, other := range all[:k] {
			for _, r := range other {
				if r.X0 != 70+i {
					return nil // two lists share memory
				}
			}
		}
	}
	return copied
}

// Calls leave their arguments as they are, and who changes a result changes no other one.
func TestResultsHaveTheirOwnMemory(t *testing.T) {
	d := dice(10)
	all := someLists(&d)
	for k, a := range all {
		b := all[(k*11+2)%len(all)]
		// Nothing but copies is given to a call before.
		p, q := slices.Clone(a), slices.Clone(b)
		for _, a := range lists(a, rects.Norm(p), rects.Less(p, q), rects.Norm(p)[:1]) {
			x, y := slices.Clone(a), slices.Clone(b)
			first := spoiled(allOf(x, y))
			mustBe(t, len(first) >= 5, true, "own memory", a, b)
			mustBeList(t, x, a, "first argument")
			mustBeList(t, y, b, "second argument")
			mustBeLists(t, allOf(x, y), first, "second call", a, b)
		}
	}
}

// The same calls return the same results, whatever was called in between, and calls at one time do not disturb each other.
func TestCallsRepeat(t *testing.T) {
	d := dice(11)
	all := append(someLists(&d), oddLists()[:12]...)
	var first [][][]api.Rect
	for k, a := range all {
		first = append(first, allOf(a, all[(k+1)%len(all)]))
	}
	var group sync.WaitGroup
	for range 4 {
		group.Go(func() {
			for k, want := range slices.Backward(first) {
				mustBeLists(t, allOf(all[k], all[(k+1)%len(all)]), want, "calls", k)
			}
		})
	}
	group.Wait()
}
