package gap_test

import (
	"math"
	"slices"
	"testing"

	"etchant/api"
	"etchant/edge"
	"etchant/gap"
	"etchant/root"
	"etchant/shape"
)

// The examples of the chapter

func TestExamples(t *testing.T) {
	outline := rect(0, 0, 4, 4)
	a, b := disc(0, 0, 2), disc(6, 8, 3)
	g, ok := gap.Of(a, b)
	mustBeGap(t, g, ok, api.Gap{Dist: rooted(-5, 100, 1), A: end(0, 0), B: end(6, 8)})
	mustBe(t, gap.Least(a, b, 5), true, "5")
	mustBe(t, gap.Least(a, b, 6), false, "6")
	mustBe(t, gap.Touch(a, b), false, "discs")
	a, b = disc(0, 0, 5), path(0, line(5, 0, 9, 0))
	g, ok = gap.Of(a, b)
	mustBeGap(t, g, ok, api.Gap{Dist: rooted(-5, 25, 1), A: end(0, 0), B: end(5, 0)})
	mustBe(t, gap.Touch(a, b), true, "a disc and a path")
	g, ok = gap.Of(outline, rect(1, 1, 2, 2))
	mustBeGap(t, g, ok, api.Gap{Meet: true, Dist: whole(0)})
	mustBe(t, gap.Touch(outline, rect(1, 1, 2, 2)), true, "rectangles")
	g, ok = gap.Border(outline, disc(2, 2, 1))
	mustBeGap(t, g, ok, api.Gap{Dist: rooted(-1, 4, 1), A: foot(at(0, 0), at(4, 0), 8, 16), B: end(2, 2)})
	mustBe(t, gap.Holds(outline, disc(2, 2, 1), 1), true, "1")
	mustBe(t, gap.Holds(outline, disc(2, 2, 1), 2), false, "2")
	mustBe(t, gap.Holds(outline, disc(2, 2, 3), -1), true, "-1")
	g, ok = gap.Border(outline, disc(2, 2, 3))
	mustBeGap(t, g, ok, api.Gap{Dist: rooted(-3, 4, 1), A: foot(at(0, 0), at(4, 0), 8, 16), B: end(2, 2)})
	for _, need := range needs() {
		mustBe(t, gap.Holds(outline, disc(9, 2, 1), need), false, need)
	}
	for _, s := range []api.Shape{circle(0, 0, 5), path(0, quarters(0, 0, 5)[0])} {
		g, ok = gap.Of(s, dot(at(9, 12)))
		mustBeGap(t, g, ok, api.Gap{Dist: rooted(-5, 225, 1), A: api.Spot{At: at(0, 0), Dir: at(9, 12), Len: 5}, B: end(9, 12)}, s)
	}
}

// P10.1

// meeting is two shapes that meet, with the sum of both R.
type meeting struct {
	name string
	a, b api.Shape
	sum  int
}

// meetings returns shapes that meet in every way.
func meetings() []meeting {
	square := rect(0, 0, 10, 10)
	return []meeting{
		{"crossed", path(1, line(0, 0, 4, 4)), path(2, line(0, 4, 4, 0)), 3},
		{"one end on the other", path(0, line(0, 0, 4, 4)), path(3, line(2, 2, 9, 2)), 3},
		{"common ends", path(thick, line(0, 0, 4, 4)), path(thick, line(9, 0, 4, 4)), 2 * thick},
		{"one in the other", path(0, line(0, 0, 9, 9)), path(0, line(2, 2, 7, 7)), 0},
		{"equal points", disc(3, 3, 5), disc(3, 3, 1), 6},
		{"equal paths", stairs(9, 0, 0, 3, 2), stairs(9, 0, 0, 3, 2), 4},
		{"the last edges", path(1, lines(at(0, 0), at(9, 0), at(9, 9))...), path(1, lines(at(20, 20), at(30, 8), at(9, 4))...), 2},
		{"the last and the first edge", path(1, lines(at(0, 0), at(9, 0), at(9, 9))...), path(1, lines(at(9, 4), at(30, 8), at(20, 20))...), 2},
		{"an arc", path(1, quarters(0, 0, 5)[0]), path(0, line(0, 0, 3, 4)), 1},
		{"two arcs", path(1, quarters(0, 0, 5)[0]), path(0, quarters(5, 5, 5)[2]), 1},
		{"point on an edge", square, dot(at(10, 3)), 0},
		{"point in an area", square, dot(at(9, 3)), 0},
		{"path in an area", square, path(7, line(3, 3, 4, 9)), 7},
		{"path out of an area", square, path(7, line(3, 3, 40, 9)), 7},
		{"path into an area", square, path(7, line(40, 9, 3, 3)), 7},
		{"path across an area", square, path(7, line(40, 9, -3, 3)), 7},
		{"area in an area", square, rect(1, 1, 2, 2), 0},
		{"areas across", square, rect(-3, 3, 13, 4), 0},
		{"areas with a common side", square, rect(10, 2, 20, 30), 0},
		{"areas with a common corner", square, rect(10, 10, 20, 30), 0},
		{"equal areas", square, square, 0},
		{"around an area, by a line", ring(0, 0, 20, 30), path(1, line(0, 25, 25, 0)), 1},
		{"circle and point", circle(0, 0, 5), dot(at(3, 4)), 0},
		{"circle and its centre", circle(0, 0, 5), disc(0, 0, 1), 1},
		{"there and back", area(line(0, 0, 8, 4), line(8, 4, 0, 0)), dot(at(4, 2)), 0},
		{"areas that are points", area(dots(2)...), area(dots(3)...), 0},
		{"far out", path(thick, line(-far, -far, far, far)), path(thick, line(far, -far, -far, far)), 2 * thick},
	}
}

func TestOfShapesThatMeet(t *testing.T) {
	for _, m := range meetings() {
		want := api.Gap{Meet: true, Dist: whole(-m.sum)}
		g, ok := gap.Of(m.a, m.b)
		mustBeGap(t, g, ok, want, m.name)
		g, ok = gap.Of(m.b, m.a)
		mustBeGap(t, g, ok, want, m.name, "the other way round")
		mustBe(t, gap.Touch(m.a, m.b) && gap.Touch(m.b, m.a), true, "Touch", m.name)
		mustBe(t, gap.Least(m.a, m.b, -m.sum) && gap.Least(m.b, m.a, -m.sum), true, "Least", m.name)
		mustBe(t, gap.Least(m.a, m.b, 1-m.sum) || gap.Least(m.b, m.a, 1-m.sum), false, "Least", m.name)
	}
}

// apartCase is two shapes that do not meet, with their gap.
type apartCase struct {
	name string
	a, b api.Shape
	want api.Gap
}

func TestOfShapesThatDoNotMeet(t *testing.T) {
	square, bracket := rect(0, 0, 10, 10), lines(at(0, 0), at(9, 0), at(9, 9), at(0, 9))
	for _, c := range []apartCase{
		{"points", dot(at(0, 0)), dot(at(1, 0)), api.Gap{Dist: rooted(0, 1, 1), A: end(0, 0), B: end(1, 0)}},
		{"discs", disc(-3, 1, 4), disc(1, 4, 1), api.Gap{Dist: rooted(-5, 25, 1), A: end(-3, 1), B: end(1, 4)}},
		{"discs, one in the other", disc(-3, 1, 40), disc(1, 4, 1), api.Gap{Dist: rooted(-41, 25, 1), A: end(-3, 1), B: end(1, 4)}},
		{"slanting", path(0, line(0, 0, 4, 4)), dot(at(4, 0)), api.Gap{Dist: rooted(0, 8, 1), A: foot(at(0, 0), at(4, 4), 16, 32), B: end(4, 0)}},
		{"rational", path(0, line(0, 0, 2, 1)), disc(0, 1, 1), api.Gap{Dist: rooted(-1, 4, 5), A: foot(at(0, 0), at(2, 1), 1, 5), B: end(0, 1)}},
		{"beside", path(1, line(0, 0, 10, 0)), path(2, line(5, 7, 5, 9)), api.Gap{Dist: rooted(-3, 49, 1), A: foot(at(0, 0), at(10, 0), 50, 100), B: end(5, 7)}},
		{"the pens touch, the lines do not", path(4, line(0, 0, 10, 0)), path(4, line(0, 8, 10, 8)), api.Gap{Dist: rooted(-8, 64, 1), A: end(0, 0), B: end(0, 8)}},
		{"a point beside an area", square, disc(13, 14, 2), api.Gap{Dist: rooted(-2, 25, 1), A: end(10, 10), B: end(13, 14)}},
		{"within a disc around it", rect(1, 1, 2, 2), disc(9, 2, 100), api.Gap{Dist: rooted(-100, 49, 1), A: end(2, 2), B: end(9, 2)}},
		{"what a path goes around is not of it", path(1, square.Edges...), disc(4, 5, 1), api.Gap{Dist: rooted(-2, 16, 1), A: foot(at(0, 10), at(0, -10), 50, 100), B: end(4, 5)}},
		{"in the hole of an area", ring(0, 0, 20, 30), disc(5, -12, 3), api.Gap{Dist: api.Root{Add: 17, Sign: -1, N: rooted(0, 169, 1).N, D: rooted(0, 169, 1).D}, A: api.Spot{At: at(0, 0), Dir: at(5, -12), Len: 20}, B: end(5, -12)}},
		{"the last edges", path(0, bracket...), path(0, lines(at(0, 40), at(3, 30), at(3, 12))...), api.Gap{Dist: rooted(0, 9, 1), A: foot(at(9, 9), at(-9, 0), 54, 81), B: end(3, 12)}},
		{"the last and the first edge", path(0, bracket...), path(0, lines(at(3, 12), at(3, 30), at(0, 40))...), api.Gap{Dist: rooted(0, 9, 1), A: foot(at(9, 9), at(-9, 0), 54, 81), B: end(3, 12)}},
		{"the first and the last edge", path(0, bracket...), path(0, lines(at(3, -30), at(30, -20), at(2, -2))...), api.Gap{Dist: rooted(0, 4, 1), A: foot(at(0, 0), at(9, 0), 18, 81), B: end(2, -2)}},
		{"a line and an arc", path(3, line(20, 0, 0, 20)), circle(0, 0, 10), api.Gap{Dist: rooted(-13, 200, 1), A: foot(at(20, 0), at(-20, 20), 400, 800), B: api.Spot{At: at(0, 0), Dir: at(20, 20), Len: 10}}},
		{"circles", circle(0, 0, 5), circle(9, 12, 9), api.Gap{Dist: rooted(-14, 225, 1), A: api.Spot{At: at(0, 0), Dir: at(9, 12), Len: 5}, B: api.Spot{At: at(9, 12), Dir: at(-9, -12), Len: 9}}},
		{"far out", disc(-far, -far, thick), disc(far, far, thick), api.Gap{Dist: rooted(-2*thick, 8*far*far, 1), A: end(-far, -far), B: end(far, far)}},
	} {
		g, ok := gap.Of(c.a, c.b)
		mustBeGap(t, g, ok, c.want, c.name)
		mustAgree(t, c.a, c.b, c.want)
		g, ok = gap.Of(c.b, c.a)
		mustBeGap(t, g, ok, api.Gap{Dist: c.want.Dist, A: c.want.B, B: c.want.A}, c.name, "the other way round")
		mustAgree(t, c.b, c.a, c.want)
	}
}

// Of several nearest pairs, the first one counts: in the order of the edges of a, and for each of them in that of b.
func TestOfTies(t *testing.T) {
	low, high := lines(at(0, 0), at(4, 0), at(8, 0)), lines(at(8, 3), at(4, 3), at(0, 3))
	for _, c := range []apartCase{
		{"squares", rect(0, 0, 4, 4), rect(7, 0, 11, 4), api.Gap{A: end(4, 0), B: end(7, 0)}},
		{"squares, the other way round", rect(7, 0, 11, 4), rect(0, 0, 4, 4), api.Gap{A: end(7, 0), B: end(4, 0)}},
		{"the first edge of a, the last one of b", path(0, low...), path(0, high...), api.Gap{A: end(4, 0), B: end(4, 3)}},
		{"the first edge of a, the second one of b", path(0, lines(at(-4, 0), at(0, 0), at(8, 0))...), path(0, lines(at(20, 3), at(0, 3), at(0, 9))...), api.Gap{A: end(0, 0), B: end(0, 3)}},
		{"both ways", path(0, low...), path(0, reversed(high)...), api.Gap{A: end(0, 0), B: end(0, 3)}},
		{"b first", path(0, line(0, 0, 9, 0)), path(0, lines(at(8, 20), at(7, 3), at(6, 20), at(5, 3), at(4, 20))...), api.Gap{A: foot(at(0, 0), at(9, 0), 63, 81), B: end(7, 3)}},
	} {
		got, ok := gap.Of(c.a, c.b)
		want := defined(c.a, c.b)
		mustBeGap(t, got, ok, want, c.name)
		if got.A != c.want.A || got.B != c.want.B {
			t.Errorf("%s: at %v and %v, not at %v and %v", c.name, got.A, got.B, c.want.A, c.want.B)
		}
	}
}

// The distance from an arc to what is before it, and from a line, can be equal numbers with different roots.
func TestOfTiesOfDifferentRoots(t *testing.T) {
	bow := quarters(0, 0, 5)[0] // from (5, 0) to (0, 5)
	a := path(1, bow, line(0, 5, 0, 100))
	point, beside := at(6, 8), at(5, 60)
	for _, c := range []apartCase{
		{"the arc first", a, path(0, between(point, point), between(point, beside)), api.Gap{Dist: rooted(-6, 100, 1), A: api.Spot{At: at(0, 0), Dir: point, Len: 5}, B: end(6, 8)}},
		{"the line first", path(1, line(0, 100, 0, 5), edge.Reverse(bow)), path(0, line(5, 60, 200, 60), line(200, 60, 12, 16), line(12, 16, 6, 8)), api.Gap{Dist: rooted(-1, 25, 1), A: foot(at(0, 100), at(0, -95), 95*40, 95*95), B: end(5, 60)}},
	} {
		g, ok := gap.Of(c.a, c.b)
		mustBeGap(t, g, ok, c.want, c.name)
		mustBeGap(t, defined(c.a, c.b), true, c.want, c.name, "by its definition")
	}
}

func TestOfManyEdges(t *testing.T) {
	a, b := stairs(40, 0, 0, 10, 3), stairs(40, 9, -9, 10, 4)
	g, ok := gap.Of(a, b)
	mustBeGap(t, g, ok, defined(a, b))
	mustBe(t, root.Text(g.Dist), "-7+r81", "stairs")
	a, b = stairs(40, 0, 0, 10, 3), disc(203, 204, 1)
	g, ok = gap.Of(a, b)
	mustBeGap(t, g, ok, api.Gap{Dist: rooted(-4, 25, 1), A: end(200, 200), B: end(203, 204)}, "beside the last edge")
	g, ok = gap.Of(path(1, dots(40)...), area(dots(40)...))
	mustBeGap(t, g, ok, api.Gap{Meet: true, Dist: whole(-1)}, "points")
}

// Wrong shapes, for all functions

// allFalse reports an error unless all functions return false, and zero values, for two shapes.
func allFalse(t *testing.T, a, b api.Shape) {
	t.Helper()
	g, ok := gap.Of(a, b)
	mustBeNone(t, g, ok, "Of", a, b)
	g, ok = gap.Border(a, b)
	mustBeNone(t, g, ok, "Border", a, b)
	mustBe(t, gap.Touch(a, b), false, "Touch", a, b)
	for _, need := range needs() {
		mustBe(t, gap.Least(a, b, need), false, "Least", a, b, need)
		mustBe(t, gap.Holds(a, b, need), false, "Holds", a, b, need)
	}
}

func TestWrongShapes(t *testing.T) {
	wrong := wrongShapes()
	for k, s := range wrong {
		for _, r := range []api.Shape{rect(0, 0, 9, 9), rect(-90, -90, 90, 90), disc(1, 1, 3), disc(far, far, 0), wrong[len(wrong)-1-k]} {
			allFalse(t, s, r)
			allFalse(t, r, s)
		}
		allFalse(t, s, s)
	}
}

// P10.2

func TestTouchOfDiscs(t *testing.T) {
	for _, r := range []int{0, 1, 5, thick} {
		for _, s := range []int{0, 3, thick} {
			for _, d := range []int{r + s, r + s + 1, r + s - 1, 0, far} {
				if d < 0 {
					continue
				}
				a, b := disc(0, 0, r), disc(d, 0, s)
				mustBe(t, gap.Touch(a, b), d <= r+s, "Touch", r, s, d)
				for _, need := range []int{d - r - s, d - r - s - 1, math.MinInt} {
					mustBe(t, gap.Least(a, b, need), true, "Least", r, s, d, need)
				}
				for _, need := range []int{d - r - s + 1, math.MaxInt} {
					mustBe(t, gap.Least(a, b, need), false, "Least", r, s, d, need)
				}
			}
		}
	}
}

// Shapes whose boxes overlap, or are nearer than the shapes, need not be near.
func TestBoxesAreNotShapes(t *testing.T) {
	a := path(0, line(0, 0, 300, 400))
	for _, c := range []struct {
		s     api.Shape
		touch bool
		least int
	}{
		{disc(200, 100, 99), false, 1}, // 100 from the line
		{disc(200, 100, 100), true, 0},
		{disc(200, 100, 101), true, -1},
		{disc(100, 300, 99), false, 1},
		{disc(100, 300, 100), true, 0},
		{disc(303, 404, 4), false, 1},
		{disc(303, 404, 5), true, 0},
		{path(0, line(301, 399, 600, -1)), false, 1},
		{path(1, line(301, 399, 600, -1)), false, 0},
		{path(2, line(301, 399, 600, -1)), true, -1},
	} {
		mustBe(t, gap.Touch(a, c.s), c.touch, "Touch", c.s)
		mustBe(t, gap.Touch(c.s, a), c.touch, "Touch", c.s)
		for _, need := range append(needs(), c.least, c.least+1) {
			mustBe(t, gap.Least(a, c.s, need), need <= c.least, "Least", c.s, need)
			mustBe(t, gap.Least(c.s, a, need), need <= c.least, "Least", c.s, need)
		}
	}
}

// P10.3

func TestBorder(t *testing.T) {
	square := rect(0, 0, 10, 10)
	for _, c := range []apartCase{
		{"inside", square, disc(4, 7, 2), api.Gap{Dist: rooted(-2, 9, 1), A: foot(at(10, 10), at(-10, 0), 60, 100), B: end(4, 7)}},
		{"outside", square, disc(4, 17, 2), api.Gap{Dist: rooted(-2, 49, 1), A: foot(at(10, 10), at(-10, 0), 60, 100), B: end(4, 17)}},
		{"across", square, path(3, line(5, 5, 15, 5)), api.Gap{Meet: true, Dist: whole(-3)}},
		{"on it", square, disc(10, 5, 3), api.Gap{Meet: true, Dist: whole(-3)}},
		{"along it", square, path(0, line(2, 10, 9, 10)), api.Gap{Meet: true, Dist: whole(0)}},
		{"the pen goes across", square, disc(4, 7, 20), api.Gap{Dist: rooted(-20, 9, 1), A: foot(at(10, 10), at(-10, 0), 60, 100), B: end(4, 7)}},
		{"an area inside", square, rect(2, 3, 5, 5), api.Gap{Dist: rooted(0, 4, 1), A: foot(at(0, 10), at(0, -10), 70, 100), B: end(2, 3)}},
		{"itself", square, square, api.Gap{Meet: true, Dist: whole(0)}},
		{"an area around it", square, rect(-2, -2, 12, 13), api.Gap{Meet: true, Dist: whole(0)}},
		{"an area beside it", square, rect(12, 0, 20, 10), api.Gap{Dist: rooted(0, 4, 1), A: end(10, 0), B: end(12, 0)}},
		{"a path around it", square, path(1, rect(-3, -3, 13, 13).Edges...), api.Gap{Dist: rooted(-1, 9, 1), A: end(0, 0), B: foot(at(-3, -3), at(16, 0), 48, 256)}},
		{"in a hole", ring(0, 0, 20, 30), dot(at(0, 13)), api.Gap{Dist: rooted(0, 49, 1), A: end(0, 20), B: end(0, 13)}},
		{"the centre of a circle", circle(3, 4, 5), dot(at(3, 4)), api.Gap{Dist: rooted(0, 25, 1), A: end(8, 4), B: end(3, 4)}},
	} {
		g, ok := gap.Border(c.a, c.b)
		mustBeGap(t, g, ok, c.want, c.name)
	}
}

// A path has no border, even if it is closed.
func TestBorderOfPaths(t *testing.T) {
	for _, outline := range []api.Shape{path(0, rect(0, 0, 10, 10).Edges...), path(9, line(0, 0, 9, 9)), disc(3, 3, 30), stairs(40, 0, 0, 1, 1)} {
		for _, s := range []api.Shape{disc(2, 3, 1), rect(1, 1, 2, 2), outline} {
			g, ok := gap.Border(outline, s)
			mustBeNone(t, g, ok, outline, s)
			for _, need := range needs() {
				mustBe(t, gap.Holds(outline, s, need), false, "Holds", outline, s, need)
			}
		}
	}
}

// P10.4

func TestHolds(t *testing.T) {
	square, hole := rect(0, 0, 40, 40), ring(0, 0, 20, 30)
	bay := area(lines(at(0, 0), at(40, 0), at(40, 40), at(30, 40), at(30, 10), at(10, 10), at(10, 40), at(0, 40), at(0, 0))...)
	for _, c := range []struct {
		name    string
		outline api.Shape
		s       api.Shape
		least   int // the greatest need
	}{
		{"a disc in the middle", square, disc(20, 20, 5), 15},
		{"a point", square, dot(at(1, 30)), 1},
		{"a disc at the border", square, disc(35, 35, 5), 0},
		{"a disc a little across", square, disc(38, 20, 5), -3},
		{"a disc far across", square, disc(20, 20, 1000), -980},
		{"a path", square, path(2, lines(at(10, 10), at(30, 10), at(30, 33))...), 5},
		{"an area", square, rect(1, 2, 39, 37), 1},
		{"a circle", square, circle(20, 19, 18), 1},
		{"clockwise", area(reversed(square.Edges)...), area(reversed(rect(4, 5, 30, 30).Edges)...), 4},
		{"between circles", hole, disc(0, 26, 3), 1},
		{"between circles, an arc", hole, path(2, quarters(0, 0, 24)[1]), 2},
		{"in a bay's bottom", bay, path(1, line(5, 5, 35, 5)), 4},
	} {
		for _, need := range append(needs(), c.least, c.least+1) {
			mustBe(t, gap.Holds(c.outline, c.s, need), need <= c.least, c.name, need)
		}
	}
	for _, c := range []struct {
		name    string
		outline api.Shape
		s       api.Shape
	}{
		{"a disc outside", square, disc(60, 20, 5)},
		{"a point on the border", square, dot(at(40, 20))},
		{"a disc that covers it from outside", square, disc(60, 20, 5000)},
		{"a path across", square, path(0, line(20, 20, 60, 20))},
		{"a path into it", square, path(0, line(60, 20, 20, 20))},
		{"a path that ends at the border", square, path(0, line(20, 20, 40, 20))},
		{"an area at the border", square, rect(0, 1, 39, 39)},
		{"itself", square, square},
		{"an area around it", square, rect(-1, -1, 41, 41)},
		{"an area beside it", square, rect(41, 0, 50, 40)},
		{"an area across", square, rect(10, 10, 50, 20)},
		{"a path around it", square, path(0, rect(-1, -1, 41, 41).Edges...)},
		{"in a hole", hole, disc(0, 0, 3)},
		{"from a hole out", hole, path(1, line(0, 0, 0, 40))},
		{"around a hole, across the line", hole, path(1, quarters(0, 0, 25)...)},
		{"the area of a hole", hole, circle(0, 0, 10)},
		{"in a bay", bay, disc(20, 30, 1)},
		{"across a bay", bay, path(0, line(5, 30, 35, 30))},
	} {
		for _, need := range needs() {
			mustBe(t, gap.Holds(c.outline, c.s, need), false, c.name, need)
		}
	}
}

// holds returns what P10.4 says of Holds, word by word.
func holds(outline, s api.Shape, need int) bool {
	g, ok := gap.Border(outline, s)
	if !ok || g.Meet || root.CmpInt(g.Dist, need) < 0 || !shape.Inside(outline, s.Edges[0].A) {
		return false
	}
	return s.Kind != api.ShArea || !shape.Inside(s, outline.Edges[0].A)
}

func TestHoldsByDefinition(t *testing.T) {
	found := tally{}
	for _, outline := range slices.Concat(someShapes(), wideShapes()) {
		for _, s := range someShapes() {
			for _, need := range []int{math.MinInt, -3, 0, 2} {
				want := holds(outline, s, need)
				mustBe(t, gap.Holds(outline, s, need), want, "Holds", outline, s, need)
				if want {
					found["yes"]++
				} else {
					found["no"]++
				}
			}
		}
	}
	found.mustHave(t, 300, "yes", "no")
}
