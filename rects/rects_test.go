package rects_test

import (
	"math"
	"slices"
	"testing"

	"etchant/api"
	"etchant/rects"
)

// P11.1

func TestRight(t *testing.T) {
	for _, l := range lists(
		nil, list(0, 0, 1, 1), list(0, 0, 1, 1, 0, 0, 1, 1), list(5, 5, 6, 6, 0, 0, 9, 9), list(-3, -4, -2, 7),
		list(-most, -most, most, most), list(most-1, 0, most, 1), list(0, most-1, 1, most), list(-most, 0, 1-most, 1), list(0, -most, 1, 1-most),
		slices.Repeat(list(0, 0, 1, 1), long), stairs(long), stairs(long-1),
	) {
		mustBe(t, rects.Right(l), true, "Right", len(l), l[:min(len(l), 3)])
	}
	for _, l := range oddLists() {
		mustBe(t, rects.Right(l), false, "Right", len(l), l[:min(len(l), 3)])
	}
}

func TestNorm(t *testing.T) {
	for _, c := range []struct{ l, want []api.Rect }{
		{nil, nil},
		{list(3, 4, 5, 7), list(3, 4, 5, 7)},
		{list(0, 0, 2, 2, 1, 1, 3, 3), list(0, 0, 2, 1, 0, 1, 3, 2, 1, 2, 3, 3)},
		{list(0, 1, 2, 2, 0, 0, 2, 1), list(0, 0, 2, 2)},
		{list(0, 0, 1, 1, 1, 0, 2, 1, 3, 0, 4, 1), list(0, 0, 2, 1, 3, 0, 4, 1)},
		{list(3, 0, 4, 1, 1, 0, 2, 1, 0, 0, 1, 1), list(0, 0, 2, 1, 3, 0, 4, 1)},
		{list(0, 0, 0, 1), nil},
		// Rows that are the same, but not neighbours, are two bands.
		{list(0, 0, 2, 1, 0, 2, 2, 3), list(0, 0, 2, 1, 0, 2, 2, 3)},
		{list(0, 0, 1, 3, 5, 1, 6, 2), list(0, 0, 1, 1, 0, 1, 1, 2, 5, 1, 6, 2, 0, 2, 1, 3)},
		// Rectangles within others, and those that overlap, are not seen.
		{list(0, 0, 9, 9, 2, 2, 3, 3, 0, 0, 9, 9, 8, 0, 9, 9), list(0, 0, 9, 9)},
		{list(0, 0, 5, 2, 3, 0, 9, 2, 4, 1, 6, 2), list(0, 0, 9, 2)},
		{list(0, 0, 9, 1, 2, 0, 3, 1, 5, 0, 9, 1, 11, 0, 12, 1), list(0, 0, 9, 1, 11, 0, 12, 1)},
		// Rows with as many ranges, of which one differs.
		{list(0, 0, 1, 2, 3, 0, 4, 1, 3, 1, 5, 2), list(0, 0, 1, 1, 3, 0, 4, 1, 0, 1, 1, 2, 3, 1, 5, 2)},
		{list(0, 0, 1, 2, 4, 0, 5, 1, 3, 1, 5, 2), list(0, 0, 1, 1, 4, 0, 5, 1, 0, 1, 1, 2, 3, 1, 5, 2)},
		// Corners join no rows.
		{list(0, 0, 1, 1, 1, 1, 2, 2), list(0, 0, 1, 1, 1, 1, 2, 2)},
		{list(1, 0, 2, 1, 0, 1, 1, 2), list(1, 0, 2, 1, 0, 1, 1, 2)},
		// Two columns of different rectangles.
		{list(0, 0, 1, 3, 2, 0, 3, 2, 2, 2, 3, 3), list(0, 0, 1, 3, 2, 0, 3, 3)},
		{list(-5, -5, -4, -3, -4, -4, -3, -3), list(-5, -5, -4, -4, -5, -4, -3, -3)},
		{list(-2, -2, 0, 0, 0, 0, 2, 2), list(-2, -2, 0, 0, 0, 0, 2, 2)},
		{list(-most, -most, most, most, 0, 0, 1, 1), list(-most, -most, most, most)},
		{list(-most, -most, 0, 0, 0, 0, most, most), list(-most, -most, 0, 0, 0, 0, most, most)},
		{list(-most, -most, 0, most, 0, -most, most, most), list(-most, -most, most, most)},
		{list(most-1, most-1, most, most, -most, -most, 1-most, 1-most), list(-most, -most, 1-most, 1-most, most-1, most-1, most, most)},
		{slices.Repeat(list(0, 0, 2, 3), long), list(0, 0, 2, 3)},
		{stairs(long), stairs(long)},
	} {
		mustBeList(t, rects.Norm(c.l), c.want, "Norm", c.l)
	}
	for _, l := range oddLists() {
		mustBeList(t, rects.Norm(l), nil, "Norm", len(l), l[:min(len(l), 3)])
	}
}

// P11.2

func TestCombine(t *testing.T) {
	ring := list(0, 0, 3, 1, 0, 1, 1, 2, 2, 1, 3, 2, 0, 2, 3, 3)
	for _, c := range []struct{ a, b, join, less, meet []api.Rect }{
		{nil, nil, nil, nil, nil},
		{list(0, 0, 2, 2), nil, list(0, 0, 2, 2), list(0, 0, 2, 2), nil},
		{nil, list(0, 0, 2, 2), list(0, 0, 2, 2), nil, nil},
		{list(0, 0, 3, 3), list(1, 1, 2, 2), list(0, 0, 3, 3), ring, list(1, 1, 2, 2)},
		{list(1, 1, 2, 2), list(0, 0, 3, 3), list(0, 0, 3, 3), nil, list(1, 1, 2, 2)},
		{ring, list(1, 1, 2, 2), list(0, 0, 3, 3), ring, nil},
		{list(0, 0, 3, 3), ring, list(0, 0, 3, 3), list(1, 1, 2, 2), ring},
		{list(0, 0, 2, 2), list(1, 1, 3, 3), list(0, 0, 2, 1, 0, 1, 3, 2, 1, 2, 3, 3), list(0, 0, 2, 1, 0, 1, 1, 2), list(1, 1, 2, 2)},
		{list(0, 0, 1, 1), list(1, 0, 2, 1), list(0, 0, 2, 1), list(0, 0, 1, 1), nil},
		{list(0, 0, 1, 1), list(0, 1, 1, 2), list(0, 0, 1, 2), list(0, 0, 1, 1), nil},
		{list(0, 0, 1, 1), list(1, 1, 2, 2), list(0, 0, 1, 1, 1, 1, 2, 2), list(0, 0, 1, 1), nil},
		{list(0, 0, 1, 1), list(7, 9, 8, 10), list(0, 0, 1, 1, 7, 9, 8, 10), list(0, 0, 1, 1), nil},
		{list(7, 9, 8, 10), list(0, 0, 1, 1), list(0, 0, 1, 1, 7, 9, 8, 10), list(7, 9, 8, 10), nil},
		{list(0, 0, 4, 1), list(0, 0, 1, 1, 2, 0, 3, 1), list(0, 0, 4, 1), list(1, 0, 2, 1, 3, 0, 4, 1), list(0, 0, 1, 1, 2, 0, 3, 1)},
		{list(0, 0, 2, 1, 3, 0, 6, 1), list(1, 0, 4, 1, 5, 0, 7, 1), list(0, 0, 7, 1), list(0, 0, 1, 1, 4, 0, 5, 1), list(1, 0, 2, 1, 3, 0, 4, 1, 5, 0, 6, 1)},
		// What is left is one band again.
		{list(0, 0, 1, 1, 0, 0, 2, 3), list(1, 0, 2, 3), list(0, 0, 2, 3), list(0, 0, 1, 3), list(1, 0, 2, 3)},
		{list(0, 0, 1, 3, 5, 1, 6, 2), list(5, 0, 9, 9), list(0, 0, 1, 3, 5, 0, 9, 3, 5, 3, 9, 9), list(0, 0, 1, 3), list(5, 1, 6, 2)},
		// What is taken has rows that are equal, and a row between them that has nothing.
		{list(0, 0, 2, 3), list(0, 1, 2, 2), list(0, 0, 2, 3), list(0, 0, 2, 1, 0, 2, 2, 3), list(0, 1, 2, 2)},
		{list(-most, -most, most, most), list(0, -most, most, most), list(-most, -most, most, most), list(-most, -most, 0, most), list(0, -most, most, most)},
		{list(-most, -most, most, most), list(-most, 0, most, most), list(-most, -most, most, most), list(-most, -most, most, 0), list(-most, 0, most, most)},
	} {
		mustBeList(t, rects.Join(c.a, c.b), c.join, "Join", c.a, c.b)
		mustBeList(t, rects.Less(c.a, c.b), c.less, "Less", c.a, c.b)
		mustBeList(t, rects.Meet(c.a, c.b), c.meet, "Meet", c.a, c.b)
	}
}

func TestCombineNothing(t *testing.T) {
	some := list(0, 0, 2, 2, 1, 1, 3, 3)
	normal := list(0, 0, 2, 1, 0, 1, 3, 2, 1, 2, 3, 3)
	for _, odd := range oddLists() {
		what := []any{len(odd), odd[:min(len(odd), 3)]}
		mustBeList(t, rects.Join(some, odd), normal, "Join of some and", what)
		mustBeList(t, rects.Join(odd, some), normal, "Join of", what, "and some")
		mustBeList(t, rects.Join(odd, odd), nil, "Join of twice", what)
		mustBeList(t, rects.Less(some, odd), normal, "Less of some and", what)
		mustBeList(t, rects.Less(odd, some), nil, "Less of", what, "and some")
		mustBeList(t, rects.Less(odd, odd), nil, "Less of twice", what)
		mustBeList(t, rects.Meet(some, odd), nil, "Meet of some and", what)
		mustBeList(t, rects.Meet(odd, some), nil, "Meet of", what, "and some")
		mustBeList(t, rects.Meet(odd, odd), nil, "Meet of twice", what)
	}
}

// A result that is too long for an argument is returned all the same.
func TestLongResults(t *testing.T) {
	bars, rungs := ladder(100, 0), ladder(1, 100)[1:]
	for k := range bars {
		bars[k].Y1 = 201
	}
	for k := range rungs {
		rungs[k].X1 = 199
	}
	whole := rects.Join(bars, rungs)
	mustBeList(t, whole, setOf(ladder(100, 100)).normal(), "Join")
	mustBe(t, len(whole), 100*101+100, "length of Join")
	mustBeList(t, rects.Norm(ladder(100, 100)), whole, "Norm")
	mustBe(t, len(rects.Less(bars, rungs)), 100*101, "length of Less")
	mustBe(t, len(rects.Meet(bars, rungs)), 100*100, "length of Meet")
	// As an argument, it stands for the empty set.
	mustBe(t, rects.Right(whole), false, "Right")
	mustBe(t, rects.Area(whole), 0, "Area")
	mustBeList(t, rects.Join(whole, list(0, 0, 1, 1)), list(0, 0, 1, 1), "Join with a square")
	mustBe(t, rects.Area(ladder(100, 100)), 100*201+100*199-100*100, "Area of the ladder")
}

// Both lists may have 4096 elements.
func TestTwoLongLists(t *testing.T) {
	a, b := stairs(long), stairs(2 * long)[long:]
	mustBeList(t, rects.Join(a, b), stairs(2*long), "Join")
	mustBeList(t, rects.Join(b, a), stairs(2*long), "Join")
	mustBeList(t, rects.Less(a, b), a, "Less")
	mustBeList(t, rects.Meet(a, a), a, "Meet")
	mustBeList(t, rects.Meet(a, b), nil, "Meet")
}

// P11.3

func TestArea(t *testing.T) {
	for _, c := range []struct {
		l    []api.Rect
		want int
	}{
		{nil, 0}, {list(0, 0, 1, 1), 1}, {list(2, 3, 5, 7), 12}, {list(-5, -7, -2, 4), 33},
		{list(0, 0, 2, 2, 1, 1, 3, 3), 7}, {list(0, 0, 2, 2, 0, 0, 2, 2), 4}, {list(0, 0, 2, 2, 5, 5, 6, 8), 7},
		{slices.Repeat(list(1, 1, 3, 4), long), 6}, {stairs(long), long},
		{list(-most, -most, most, most), 4 * most * most},
		{list(-most, -most, most, most, 0, 0, 9, 9), 4 * most * most},
		{list(-most, -most, 0, most, 1, -most, most, most), 4*most*most - 2*most},
	} {
		mustBe(t, rects.Area(c.l), c.want, "Area", c.l)
	}
	for _, l := range oddLists() {
		mustBe(t, rects.Area(l), 0, "Area", len(l), l[:min(len(l), 3)])
	}
}

func TestHas(t *testing.T) {
	for _, c := range []struct {
		l    []api.Rect
		x, y int
		want bool
	}{
		{nil, 0, 0, false},
		{list(0, 0, 2, 2), 0, 0, true}, {list(0, 0, 2, 2), 1, 1, true}, {list(0, 0, 2, 2), 1, 0, true}, {list(0, 0, 2, 2), 0, 1, true},
		{list(0, 0, 2, 2), 2, 1, false}, {list(0, 0, 2, 2), 1, 2, false}, {list(0, 0, 2, 2), -1, 0, false}, {list(0, 0, 2, 2), 0, -1, false},
		{list(0, 0, 2, 2, 4, 4, 5, 5), 4, 4, true}, {list(0, 0, 2, 2, 4, 4, 5, 5), 1, 1, true}, {list(0, 0, 2, 2, 4, 4, 5, 5), 4, 1, false}, {list(0, 0, 2, 2, 4, 4, 5, 5), 3, 3, false},
		{list(0, 0, 3, 3, 1, 1, 2, 2), 1, 1, true}, {list(-3, -2, -1, 9), -1, 0, false}, {list(-3, -2, -1, 9), -3, -2, true},
		{list(-most, -most, most, most), -most, -most, true}, {list(-most, -most, most, most), most - 1, most - 1, true},
		{list(-most, -most, most, most), most, 0, false}, {list(-most, -most, most, most), 0, most, false},
		{list(-most, -most, most, most), -most - 1, 0, false}, {list(-most, -most, most, most), 0, -most - 1, false},
		{list(-most, -most, most, most), math.MaxInt, math.MaxInt, false}, {list(-most, -most, most, most), math.MinInt, math.MinInt, false},
		{stairs(long), long - 1, long - 1, true}, {stairs(long), long, long, false}, {stairs(long), 5, 6, false},
	} {
		mustBe(t, rects.Has(c.l, c.x, c.y), c.want, "Has", c.l[:min(len(c.l), 4)], c.x, c.y)
	}
	for _, l := range oddLists() {
		for _, r := range l[:min(len(l), 9)] {
			mustBe(t, rects.Has(l, r.X0, r.Y0), false, "Has", len(l), r)
		}
		mustBe(t, rects.Has(l, 0, 0), false, "Has", len(l), l[0])
	}
}

// P11.4

func TestPieces(t *testing.T) {
	for _, c := range []struct {
		l    []api.Rect
		want [][]api.Rect
	}{
		{nil, nil},
		{list(2, 3, 4, 5), lists(list(2, 3, 4, 5))},
		{list(0, 0, 1, 1, 1, 1, 2, 2, 3, 0, 4, 1), lists(list(0, 0, 1, 1, 1, 1, 2, 2), list(3, 0, 4, 1))},
		// The other diagonal, and squares beside and above each other, are neighbours, too.
		{list(1, 0, 2, 1, 0, 1, 1, 2), lists(list(1, 0, 2, 1, 0, 1, 1, 2))},
		{list(0, 0, 1, 1, 0, 1, 1, 2), lists(list(0, 0, 1, 2))},
		{list(0, 0, 1, 1, 1, 0, 2, 1), lists(list(0, 0, 2, 1))},
		// Those with a gap between them are not.
		{list(0, 0, 1, 1, 2, 0, 3, 1), lists(list(0, 0, 1, 1), list(2, 0, 3, 1))},
		{list(0, 0, 1, 1, 0, 2, 1, 3), lists(list(0, 0, 1, 1), list(0, 2, 1, 3))},
		{list(0, 0, 1, 1, 2, 1, 3, 2), lists(list(0, 0, 1, 1), list(2, 1, 3, 2))},
		{list(2, 0, 3, 1, 0, 1, 1, 2), lists(list(2, 0, 3, 1), list(0, 1, 1, 2))},
		{list(0, 0, 1, 1, 1, 2, 2, 3), lists(list(0, 0, 1, 1), list(1, 2, 2, 3))},
		// The order is that of the first rectangles.
		{list(5, 0, 6, 1, 0, 0, 1, 1, 3, -1, 4, 0), lists(list(3, -1, 4, 0), list(0, 0, 1, 1), list(5, 0, 6, 1))},
		{list(0, 5, 9, 6, 8, 0, 9, 5, 0, 0, 1, 1), lists(list(0, 0, 1, 1), list(8, 0, 9, 5, 0, 5, 9, 6))},
		// Pieces that begin apart come together, also those of several steps.
		{list(0, 0, 1, 3, 2, 0, 3, 3, 0, 3, 3, 4), lists(list(0, 0, 1, 3, 2, 0, 3, 3, 0, 3, 3, 4))},
		{list(0, 0, 1, 3, 2, 0, 3, 3, 4, 0, 5, 2, 2, 2, 5, 3, 0, 3, 2, 4), lists(list(0, 0, 1, 2, 2, 0, 3, 2, 4, 0, 5, 2, 0, 2, 1, 3, 2, 2, 5, 3, 0, 3, 2, 4))},
		// A piece has bands of its own: rows that differ in another piece are one band.
		{list(0, 0, 1, 3, 5, 1, 6, 2), lists(list(0, 0, 1, 3), list(5, 1, 6, 2))},
		{list(0, 0, 7, 1, 0, 6, 7, 7, 0, 1, 1, 6, 6, 1, 7, 6, 3, 3, 4, 4), lists(list(0, 0, 7, 1, 0, 1, 1, 6, 6, 1, 7, 6, 0, 6, 7, 7), list(3, 3, 4, 4))},
		{list(-most, -most, most, most), lists(list(-most, -most, most, most))},
		{list(-most, -most, 0, 0, 0, 0, most, most), lists(list(-most, -most, 0, 0, 0, 0, most, most))},
		{list(-most, -most, 0, 0, 1, 0, most, most), lists(list(-most, -most, 0, 0), list(1, 0, most, most))},
	} {
		mustBeLists(t, rects.Pieces(c.l), c.want, "Pieces", c.l)
	}
	for _, l := range oddLists() {
		mustBeLists(t, rects.Pieces(l), nil, "Pieces", len(l), l[:min(len(l), 3)])
	}
}

func TestLongPieces(t *testing.T) {
	before, behind := list(-9, -2, -8, -1), list(-9, 900, -8, 901)
	right := ladder(16, 240)
	longer := append(list(-1, 481, 0, 482), right...)
	normal := setOf(right).normal()
	mustBe(t, len(normal), long, "rectangles")
	mustBeLists(t, rects.Pieces(right), lists(normal), "Pieces of 4096")
	mustBeLists(t, rects.Pieces(longer), lists(nil), "Pieces of 4097")
	mustBeLists(t, rects.Pieces(slices.Concat(behind, right, before)), lists(before, normal, behind), "Pieces with 4096")
	mustBeLists(t, rects.Pieces(slices.Concat(behind, longer, before)), lists(before, nil, behind), "Pieces with 4097")
	mustBeLists(t, rects.Pieces(slices.Concat(ladder(90, 90), before)), lists(before, nil), "Pieces with more")
	mustBeLists(t, rects.Pieces(stairs(long)), lists(stairs(long)), "Pieces of stairs")
}

// What counts are the rectangles that the normal list of the whole set has of a piece.
func TestPiecesBesideSteps(t *testing.T) {
	bar, steps := rect(0, 0, 1, 8000), []api.Rect(nil)
	for k := range long - 96 {
		steps = append(steps, rect(5, 2*k, 6, 2*k+1))
	}
	for _, c := range []struct {
		steps int
		bar   []api.Rect
	}{{long / 2, list(0, 0, 1, 8000)}, {long/2 + 1, nil}, {long - 96, nil}} {
		l := append(slices.Clone(steps[:c.steps]), bar)
		got := rects.Pieces(l)
		mustBe(t, len(got), c.steps+1, "pieces")
		mustBeList(t, got[0], c.bar, "bar beside", c.steps)
		for k, s := range steps[:c.steps] {
			mustBeList(t, got[k+1], []api.Rect{s}, "step", k)
		}
	}
}
