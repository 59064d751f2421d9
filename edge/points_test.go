package edge_test

import (
	"math"
	"testing"

	"etchant/api"
	"etchant/edge"
)

// a and l are those of the chapter's examples.
func a() api.Edge { return edgeOf(api.EdgeLeft, at(10, 0), at(0, 10), at(0, 0)) }
func l() api.Edge { return line(0, 0, 10, 5) }

// P6.5

func TestOnLines(t *testing.T) {
	for _, c := range []struct {
		e    api.Edge
		p    api.Point
		want bool
	}{
		{l(), at(4, 2), true},
		{l(), at(4, 3), false},
		{l(), at(4, 1), false},
		{l(), at(12, 6), false},
		{l(), at(-2, -1), false},
		{l(), at(0, 0), true},
		{l(), at(10, 5), true},
		{l(), at(5, 2), false}, // the line is half a unit higher
		{l(), at(5, 3), false},
		{line(10, 5, 0, 0), at(4, 2), true},
		{line(10, 5, 0, 0), at(12, 6), false},
		{line(3, 4, 3, 4), at(3, 4), true}, // ends that are equal
		{line(3, 4, 3, 4), at(3, 5), false},
		{line(3, 4, 3, 4), at(2, 4), false},
		{line(0, 0, 0, 0), at(0, 0), true},
		{line(2, 7, 9, 7), at(5, 7), true}, // level and upright
		{line(2, 7, 9, 7), at(2, 7), true},
		{line(2, 7, 9, 7), at(1, 7), false},
		{line(2, 7, 9, 7), at(10, 7), false},
		{line(2, 7, 9, 7), at(5, 6), false},
		{line(2, 7, 2, -7), at(2, 0), true},
		{line(2, 7, 2, -7), at(2, -7), true},
		{line(2, 7, 2, -7), at(2, -8), false},
		{line(2, 7, 2, -7), at(2, 8), false},
		{line(2, 7, 2, -7), at(1, 0), false},
		{line(-far, -far, far, far), at(far-1, far-1), true}, // far out
		{line(-far, -far, far, far), at(far, far-1), false},
		{line(-far, -far, far, far), at(far+1, far+1), false},
		{line(-far, -far, far, far), at(-far-1, -far-1), false},
		{line(-far, -far, far-1, far), at(0, 1), false},
		{line(-far, far, far, -far), at(-1, 1), true},
		{line(-1, 0, 1, 0), at(math.MinInt, 0), false},
		{line(-1, 0, 1, 0), at(math.MaxInt, 0), false},
		{line(0, -1, 0, 1), at(0, math.MinInt), false},
		{line(0, -1, 0, 1), at(0, math.MaxInt), false},
		{line(0, 0, 1<<20, 0), at(1<<10, 1<<44), false}, // its product becomes 0 by wrapping around
		{line(0, 0, 0, 1<<20), at(1<<44, 1<<10), false},
	} {
		mustBe(t, edge.On(c.e, c.p), c.want, "On of", c.e, c.p)
	}
}

func TestOnArcs(t *testing.T) {
	all := quarters(100, 200, 25)
	for _, c := range []struct {
		e    api.Edge
		p    api.Point
		want bool
	}{
		{a(), at(6, 8), true},
		{a(), at(8, 6), true},
		{a(), at(6, -8), false},
		{a(), at(-6, 8), false},
		{a(), at(-6, -8), false},
		{a(), at(7, 7), false},
		{a(), at(8, 7), false},
		{a(), at(10, 0), true},
		{a(), at(0, 10), true},
		{a(), at(-10, 0), false},
		{a(), at(0, -10), false},
		{a(), at(0, 0), false},
		{a(), at(10, 10), false},
		{a(), at(5, 5), false}, // in the middle between the ends
		{edge.Reverse(a()), at(6, 8), true},
		{edge.Reverse(a()), at(6, -8), false},
		{all[0], at(107, 224), true},
		{all[0], at(93, 224), false},
		{all[1], at(93, 224), true},
		{all[1], at(107, 224), false},
		{all[1], at(93, 223), false},
		{all[2], at(80, 185), true},
		{all[2], at(80, 215), false},
		{all[2], at(80, 186), false},
		{all[3], at(120, 185), true},
		{all[3], at(120, 215), false},
		{all[3], at(121, 185), false},
		{all[3], at(100, 200), false},
		{a(), at(1<<32+6, 8), false},
		{a(), at(1<<32, 10), false}, // its square becomes 0 by wrapping around
		{a(), at(10, 1<<32), false},
		{a(), at(math.MinInt, 10), false},
		{a(), at(10, math.MinInt), false},
		{a(), at(math.MaxInt, math.MaxInt), false},
	} {
		mustBe(t, edge.On(c.e, c.p), c.want, "On of", c.e, c.p)
	}
}

// mustLie reports an error unless On says of p what its definition says.
func mustLie(t *testing.T, e api.Edge, p api.Point) {
	t.Helper()
	mustBe(t, edge.On(e, p), lies(e, p), "On of", e, p)
}

func TestOnOfSmallEdges(t *testing.T) {
	points := grid(upTo(3))
	for _, start := range points {
		for _, end := range points {
			for _, p := range grid(upTo(4)) {
				mustLie(t, line(start.X, start.Y, end.X, end.Y), p)
			}
		}
	}
	for _, r := range []int{1, 2, 3, 5, 8, 13, 25} {
		for _, e := range arcs(2, -5, r) {
			for _, p := range grid(upTo(r + 6)) {
				mustLie(t, e, p)
			}
		}
	}
}

func TestOnFarOut(t *testing.T) {
	for _, e := range stretched() {
		x, y := e.B.X-e.A.X, e.B.Y-e.A.Y
		for _, p := range []api.Point{e.A, e.B, at(e.A.X+x/2, e.A.Y+y/2), at(e.A.X+x/3, e.A.Y+y/3), at(e.B.X-x/far, e.B.Y-y/far)} {
			for _, q := range around(p) {
				mustLie(t, e, q)
			}
		}
	}
	met := 0
	for e, points := range wide() {
		for _, p := range points {
			mustBe(t, edge.On(e, p), true, "On of", e, p)
			met++
			for _, q := range around(p) {
				mustLie(t, e, q)
				mustLie(t, e, at(2*e.C.X-q.X, q.Y))
				mustLie(t, e, at(q.X, 2*e.C.Y-q.Y))
			}
		}
	}
	if met < 40 {
		t.Errorf("only %d points of arcs", met)
	}
}

func TestOnOfFarPoints(t *testing.T) {
	list := append(arcs(0, 0, 25), line(0, 0, 24, 7), line(-3, 4, -3, 4), line(0, 0, 1<<26, 0), line(5, -9, 5, 9), line(far, far, -far, -far))
	for _, e := range list {
		for _, p := range beside(at(7, 24)) {
			mustLie(t, e, p)
		}
		for _, p := range grid(extremes()) {
			mustLie(t, e, p)
		}
	}
}

func TestOnOfWrongEdges(t *testing.T) {
	for _, c := range wrongEdges() {
		for _, p := range []api.Point{c.e.A, c.e.B, c.e.C, at(0, 0), at(5, 5), at(6, 8), at(0, 5), at(0, 10), at(math.MinInt, 0)} {
			mustBe(t, edge.On(c.e, p), false, "On of", c.e, p)
		}
	}
}

// P6.6

func TestRayOfLines(t *testing.T) {
	for _, c := range []struct {
		e    api.Edge
		p    api.Point
		want int
	}{
		{l(), at(3, 2), 1},
		{l(), at(4, 2), 0},
		{l(), at(5, 2), 0},
		{l(), at(0, 0), 0},
		{l(), at(-1, 0), 1}, // at the height of the lower end, but not of the upper one
		{l(), at(-1, 5), 0},
		{l(), at(9, 5), 0},
		{l(), at(-1, -1), 0},
		{l(), at(-1, 6), 0},
		{l(), at(7, 4), 1},
		{l(), at(8, 4), 0},
		{line(10, 5, 0, 0), at(3, 2), -1},
		{line(10, 5, 0, 0), at(4, 2), 0},
		{line(10, 5, 0, 0), at(-1, 0), -1},
		{line(10, 5, 0, 0), at(-1, 5), 0},
		{line(10, 0, 0, 5), at(7, 1), 1}, // to the left: 8, 6, 4 and 2
		{line(10, 0, 0, 5), at(8, 1), 0},
		{line(10, 0, 0, 5), at(9, 0), 1},
		{line(10, 0, 0, 5), at(10, 0), 0},
		{line(0, 5, 10, 0), at(1, 4), -1},
		{line(0, 5, 10, 0), at(2, 4), 0},
		{line(0, 0, 3, 2), at(1, 1), 1}, // at one and a half
		{line(0, 0, 3, 2), at(2, 1), 0},
		{line(0, 0, -3, 2), at(-2, 1), 1},
		{line(0, 0, -3, 2), at(-1, 1), 0},
		{line(-3, 2, 0, 0), at(-2, 1), -1},
		{line(-3, 2, 0, 0), at(-1, 1), 0},
		{line(2, -7, 2, 7), at(1, 0), 1}, // upright and level
		{line(2, -7, 2, 7), at(2, 0), 0},
		{line(2, -7, 2, 7), at(3, 0), 0},
		{line(2, 7, 2, -7), at(1, -7), -1},
		{line(2, 7, 2, -7), at(1, 7), 0},
		{line(2, 7, 9, 7), at(0, 7), 0},
		{line(9, 7, 2, 7), at(0, 7), 0},
		{line(4, 4, 4, 4), at(0, 4), 0},
		{line(-far, -far, far, far), at(far-2, far-1), 1}, // far out
		{line(-far, -far, far, far), at(far-1, far-1), 0},
		{line(-far, -far, far-1, far), at(-1, 0), 1}, // half a unit to the left of 0
		{line(-far, -far, far-1, far), at(0, 0), 0},
		{line(far, far, -far, -far), at(-far-1, -far), -1},
		{l(), at(math.MinInt, 2), 1},
		{l(), at(math.MaxInt, 2), 0},
		{l(), at(-1<<62, 2), 1},
		{l(), at(1<<62, 2), 0},
		{l(), at(0, math.MinInt), 0},
		{l(), at(0, math.MaxInt), 0},
		{line(0, 0, 1<<20, 1<<20), at(1<<44, 1<<10), 0},
	} {
		mustBe(t, edge.Ray(c.e, c.p), c.want, "Ray of", c.e, c.p)
	}
	mustBe(t, edge.Ray(edge.Reverse(l()), at(3, 2)), -1, "Ray of Reverse of l")
}

func TestRayOfArcs(t *testing.T) {
	all := quarters(0, 0, 10)
	for _, c := range []struct {
		e    api.Edge
		p    api.Point
		want int
	}{
		{a(), at(7, 6), 1},
		{a(), at(8, 6), 0},
		{a(), at(9, 6), 0},
		{a(), at(0, 0), 1},
		{a(), at(0, 10), 0},
		{a(), at(-1, 10), 0},
		{a(), at(9, 0), 1},
		{a(), at(10, 0), 0},
		{a(), at(-50, 6), 1},
		{a(), at(-8, 6), 1},
		{a(), at(0, -1), 0},
		{a(), at(8, 5), 1}, // at the root of 75
		{a(), at(9, 5), 0},
		{edge.Reverse(a()), at(7, 6), -1},
		{edge.Reverse(a()), at(8, 6), 0},
		{edge.Reverse(a()), at(0, 0), -1},
		{edge.Reverse(a()), at(0, 10), 0},
		{all[1], at(-9, 6), -1},
		{all[1], at(-8, 6), 0},
		{all[1], at(-7, 6), 0},
		{all[1], at(8, 6), 0},
		{all[1], at(-11, 0), -1},
		{all[1], at(-10, 0), 0},
		{all[1], at(-1, 10), 0},
		{all[1], at(-9, 5), -1},
		{all[1], at(-8, 5), 0},
		{all[2], at(-9, -6), -1},
		{all[2], at(-8, -6), 0},
		{all[2], at(-1, -10), -1},
		{all[2], at(0, -10), 0},
		{all[2], at(-11, 0), 0},
		{all[2], at(-11, -11), 0},
		{all[2], at(0, -6), 0},
		{all[3], at(7, -6), 1},
		{all[3], at(8, -6), 0},
		{all[3], at(-1, -10), 1},
		{all[3], at(0, -10), 0},
		{all[3], at(9, 0), 0},
		{all[3], at(-9, -6), 1},
		{edge.Reverse(all[2]), at(-9, -6), 1},
		{edge.Reverse(all[3]), at(7, -6), -1},
		{a(), at(math.MinInt, 6), 1},
		{a(), at(math.MaxInt, 6), 0},
		{a(), at(-1<<62, 6), 1},
		{a(), at(1<<62, 6), 0},
		{a(), at(1<<32, 6), 0}, // its square becomes 0 by wrapping around
		{all[1], at(-1<<32, 6), -1},
		{all[1], at(math.MinInt, 6), -1},
		{all[1], at(math.MaxInt, 6), 0},
		{a(), at(0, math.MinInt), 0},
		{a(), at(0, math.MaxInt), 0},
	} {
		mustBe(t, edge.Ray(c.e, c.p), c.want, "Ray of", c.e, c.p)
	}
}

// mustCross reports an error unless Ray says of p what its definition says.
func mustCross(t *testing.T, e api.Edge, p api.Point) {
	t.Helper()
	mustBe(t, edge.Ray(e, p), crosses(e, p), "Ray of", e, p)
}

func TestRayOfSmallEdges(t *testing.T) {
	points := grid(upTo(3))
	for _, start := range points {
		for _, end := range points {
			for _, p := range grid(upTo(4)) {
				mustCross(t, line(start.X, start.Y, end.X, end.Y), p)
			}
		}
	}
	for _, r := range []int{1, 2, 3, 5, 8, 13, 25} {
		for _, e := range arcs(2, -5, r) {
			for _, p := range grid(upTo(r + 6)) {
				mustCross(t, e, p)
			}
		}
	}
}

func TestRayFarOut(t *testing.T) {
	for _, e := range stretched() {
		x, y := e.B.X-e.A.X, e.B.Y-e.A.Y
		for _, p := range []api.Point{e.A, e.B, at(e.A.X+x/2, e.A.Y+y/2), at(e.A.X+x/3, e.A.Y+y/3), at(e.B.X-x/far, e.B.Y-y/far)} {
			for _, q := range around(p) {
				mustCross(t, e, q)
			}
		}
	}
	for e, points := range wide() {
		for _, p := range points {
			for _, q := range around(p) {
				mustCross(t, e, q)
				mustCross(t, e, at(2*e.C.X-q.X, q.Y))
				mustCross(t, e, at(q.X, 2*e.C.Y-q.Y))
			}
		}
	}
}

func TestRayOfFarPoints(t *testing.T) {
	list := append(arcs(0, 0, 25), line(0, 0, 7, 24), line(8, 30, 6, 0), line(0, 0, 0, 1<<26), line(-9, 5, 9, 5), line(far, far, -far, -far))
	for _, e := range list {
		for _, p := range beside(at(7, 24)) {
			mustCross(t, e, p)
		}
		for _, p := range beside(at(-15, -20)) {
			mustCross(t, e, p)
		}
		for _, p := range grid(extremes()) {
			mustCross(t, e, p)
		}
	}
}

func TestRayOfWrongEdges(t *testing.T) {
	for _, c := range wrongEdges() {
		for _, y := range []int{c.e.A.Y, c.e.B.Y, c.e.A.Y + 1, c.e.A.Y - 1, c.e.A.Y/2 + c.e.B.Y/2, 0, 1, -1} {
			for _, x := range []int{math.MinInt, -2 * far, -11, -1, 0, 1, 5} {
				mustBe(t, edge.Ray(c.e, at(x, y)), 0, "Ray of", c.e, x, y)
			}
		}
	}
}
