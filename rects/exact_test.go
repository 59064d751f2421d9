package rects_test

import (
	"math/big"
	"slices"
	"testing"

	"etchant/api"
	"etchant/rects"
)

// The functions against what the chapter defines, square by square.

// squaresOf returns one square for each digit 1 of mask, row by row.
func squaresOf(mask, width int) []api.Rect {
	var l []api.Rect
	for k := 0; mask>>k > 0; k++ {
		if x, y := k%width, k/width; mask>>k&1 == 1 {
			l = append(l, rect(x, y, x+1, y+1))
		}
	}
	return l
}

// mustFit reports an error unless all that is said about one list is as it is defined.
func mustFit(t *testing.T, l []api.Rect) {
	t.Helper()
	s := setOf(l)
	normal := s.normal()
	mustBeList(t, rects.Norm(l), normal, "Norm", l)
	mustBe(t, rects.Area(l), len(s), "Area", l)
	mustBeLists(t, rects.Pieces(l), setOf(l).pieces(), "Pieces", l)
}

func TestAllSetsOfSixteenSquares(t *testing.T) {
	for mask := range 1 << 16 {
		mustFit(t, squaresOf(mask, 4))
	}
}

func TestAllFlatAndSteepSets(t *testing.T) {
	for mask := range 1 << 12 {
		for _, width := range []int{2, 6, 12} {
			mustFit(t, squaresOf(mask, width))
		}
	}
}

func TestAllPairsOfSetsOfNineSquares(t *testing.T) {
	const sets = 1 << 9
	var given, normal [sets][]api.Rect
	for mask := range sets {
		given[mask] = squaresOf(mask, 3)
		normal[mask] = setOf(given[mask]).normal()
	}
	for a := range sets {
		for b := range sets {
			// One of the lists has a rectangle for each square, the other one is normal.
			p, q := given[a], normal[b]
			mustBeList(t, rects.Join(p, q), normal[a|b], "Join", p, q)
			mustBeList(t, rects.Less(p, q), normal[a&^b], "Less", p, q)
			mustBeList(t, rects.Less(q, p), normal[b&^a], "Less", q, p)
			mustBeList(t, rects.Meet(q, p), normal[a&b], "Meet", q, p)
		}
	}
}

func TestAllPairsOfRectangles(t *testing.T) {
	var all []api.Rect
	for k := range 4 * 5 {
		x0, y0 := k%4, k/4
		for x1 := x0 + 1; x1 <= 4; x1++ {
			for y1 := y0 + 1; y1 <= 5; y1++ {
				all = append(all, rect(x0, y0, x1, y1))
			}
		}
	}
	mustBe(t, len(all), 150, "rectangles")
	for _, p := range all {
		for _, q := range all {
			mustFit(t, []api.Rect{p, q})
		}
	}
}

// mustCombine reports an error unless all that is said about two lists is as it is defined.
func mustCombine(t *testing.T, a, b []api.Rect) {
	t.Helper()
	p, q := setOf(a), setOf(b)
	join := where(p, q, func(inA, inB bool) bool { return inA || inB })
	less := where(p, q, func(inA, inB bool) bool { return inA && !inB })
	meet := where(p, q, func(inA, inB bool) bool { return inA && inB })
	mustBeList(t, rects.Join(a, b), join.normal(), "Join", a, b)
	mustBeList(t, rects.Less(a, b), less.normal(), "Less", a, b)
	mustBeList(t, rects.Meet(a, b), meet.normal(), "Meet", a, b)
}

// someLists returns lists of few and many, small and large rectangles.
func someLists(d *dice) [][]api.Rect {
	var all [][]api.Rect
	for _, n := range []int{1, 2, 3, 5, 9, 20, 60, 200} {
		for _, size := range []int{3, 6, 12, 40} {
			for _, side := range []int{1, 3, 40} {
				all = append(all, d.some(n, size, side))
			}
		}
	}
	return all
}

func TestLists(t *testing.T) {
	d := dice(1)
	found := map[int]int{}
	for range 12 {
		all := someLists(&d)
		for k, l := range all {
			mustFit(t, l)
			found[min(len(rects.Pieces(l)), 3)]++
			mustCombine(t, l, all[(k*5+1)%len(all)])
		}
	}
	for n := 1; n <= 3; n++ {
		mustBe(t, found[n] > 50, true, "lists with pieces", n)
	}
}

func TestHasOfAllSquares(t *testing.T) {
	d := dice(2)
	for range 3 {
		for _, l := range someLists(&d) {
			s := setOf(l)
			for x := -1; x <= 13; x++ {
				for y := -1; y <= 13; y++ {
					mustBe(t, rects.Has(l, x, y), s[api.Point{X: x, Y: y}], "Has", l, x, y)
				}
			}
		}
	}
}

// Many rectangles, some of which are in long pieces.
func TestWideSets(t *testing.T) {
	d := dice(3)
	found := map[string]int{}
	for _, c := range [][2]int{{60, 1}, {80, 1}, {100, 2}, {120, 2}, {140, 3}, {160, 4}, {200, 5}, {220, 6}, {230, 6}, {240, 6}, {260, 7}, {280, 7}} {
		l := d.some(long, c[0], c[1])
		mustFit(t, l)
		for _, p := range rects.Pieces(l) {
			if len(p) == 0 {
				found["too long"]++
			} else if len(p) > 100 {
				found["long"]++
			}
		}
		mustCombine(t, l[:long/2], d.some(long/4, c[0], 3))
	}
	mustBe(t, found["long"] > 5 && found["too long"] > 2, true, "long pieces", found)
	mustFit(t, ladder(70, 75))
	mustFit(t, append(ladder(40, 101), rect(-1, -1, 0, 0)))
}

// stretched returns the list with other numbers, which are in the same order.
func stretched(l []api.Rect, xs, ys []int) []api.Rect {
	l = slices.Clone(l)
	for k, r := range l {
		l[k] = rect(xs[r.X0], ys[r.Y0], xs[r.X1], ys[r.Y1])
	}
	return l
}

// farNumbers returns 13 numbers from -2^30 to 2^30, in increasing order.
func farNumbers(d *dice) []int {
	for {
		all := []int{-most, 1 - most, most - 1, most}
		for len(all) < 13 {
			all = append(all, d.upTo(2*most)-most)
		}
		slices.Sort(all)
		if len(slices.Compact(slices.Clone(all))) == 13 {
			return all
		}
	}
}

// squares counts those of a normal list with package big.
func squares(l []api.Rect) *big.Int {
	sum := new(big.Int)
	for _, r := range l {
		x, y := big.NewInt(int64(r.X1-r.X0)), big.NewInt(int64(r.Y1-r.Y0))
		sum.Add(sum, x.Mul(x, y))
	}
	return sum
}

// What a set looks like does not change if its numbers move apart, as long as they stay in their order.
func TestFarLists(t *testing.T) {
	d := dice(4)
	for range 400 {
		a, b := d.some(1+d.upTo(11), 12, 6), d.some(1+d.upTo(11), 12, 12)
		xs, ys := farNumbers(&d), farNumbers(&d)
		far := func(l []api.Rect) []api.Rect { return stretched(l, xs, ys) }
		p, q := far(a), far(b)
		mustBe(t, rects.Right(p), true, "Right", p)
		mustBeList(t, rects.Norm(p), far(setOf(a).normal()), "Norm", p)
		mustBeList(t, rects.Join(p, q), far(rects.Join(a, b)), "Join", p, q)
		mustBeList(t, rects.Less(p, q), far(rects.Less(a, b)), "Less", p, q)
		mustBeList(t, rects.Meet(p, q), far(rects.Meet(a, b)), "Meet", p, q)
		mustBe(t, squares(rects.Norm(p)).Cmp(big.NewInt(int64(rects.Area(p)))), 0, "Area", p)
		var pieces [][]api.Rect
		for _, piece := range setOf(a).pieces() {
			pieces = append(pieces, far(piece))
		}
		mustBeLists(t, rects.Pieces(p), pieces, "Pieces", p)
	}
}
