package shape_test

import (
	"math"
	"slices"
	"testing"

	"etchant/api"
	"etchant/edge"
	"etchant/shape"
)

// s and h are those of the chapter's examples.
func s() api.Shape { return path(2, line(0, 0, 10, 0), quarters(10, 5, 5)[3]) }
func h() api.Shape { return area(quarters(0, 0, 5)[0], line(0, 5, 0, 0), line(0, 0, 5, 0)) }

// square returns a closed chain around 0.
func square() []api.Edge { return lines(at(-3, -3), at(3, -3), at(3, 3), at(-3, 3), at(-3, -3)) }

// P9.1

func TestCheck(t *testing.T) {
	withR := func(r int, edges ...api.Edge) api.Shape {
		return api.Shape{Kind: api.ShArea, Edges: edges, R: r}
	}
	for _, c := range []struct {
		s    api.Shape
		want api.Errno
	}{
		{s(), api.OK},
		{path(2, s().Edges[1:]...), api.OK},
		{h(), api.OK},
		{area(h().Edges[:2]...), api.ErrShape},
		{withR(1, h().Edges...), api.ErrRange},
		{path(-1, s().Edges...), api.ErrRange},
		{path(0), api.ErrShape},
		{area(), api.ErrShape},
		{path(2, s().Edges[0]), api.OK},
		{path(0, line(4, 5, 4, 5)), api.OK}, // a single point
		{path(7, arcs(3, 4, 5)[6]), api.OK},
		{path(7, arcs(3, 4, 5)...), api.ErrShape},
		{path(7, quarters(3, 4, 5)...), api.OK}, // closed paths are paths
		{path(7, line(0, 0, 5, 5), line(5, 5, 0, 0), line(0, 0, 5, 5)), api.OK},
		{path(7, line(0, 0, 5, 5), line(5, 5, 0, 0), line(5, 5, 0, 0)), api.ErrShape},
		{path(7, line(5, 5, 0, 0), line(5, 5, 9, 9)), api.ErrShape}, // both begin at one point
		{path(7, line(0, 0, 5, 5), line(9, 9, 5, 5)), api.ErrShape}, // both end at one point
		{path(7, line(5, 5, 9, 9), line(0, 0, 5, 5)), api.ErrShape}, // in the wrong order
		{area(quarters(3, 4, 5)...), api.OK},
		{area(reversed(quarters(3, 4, 5))...), api.OK},
		{area(quarters(3, 4, 5)[:3]...), api.ErrShape},
		{area(line(1, 1, 1, 1)), api.ErrShape}, // closed, but a single edge
		{area(line(1, 1, 1, 1), line(1, 1, 1, 1)), api.OK},
		{area(line(1, 1, 4, 5), line(4, 5, 1, 1)), api.OK},
		{area(line(1, 1, 4, 5), line(1, 1, 4, 5)), api.ErrShape},
		{area(quarters(0, 0, 5)[0], line(0, 5, 5, 0)), api.OK},
		{area(line(0, 5, 5, 0), quarters(0, 0, 5)[0]), api.OK},
		{area(quarters(0, 0, 5)[0], line(5, 0, 0, 5)), api.ErrShape},
		{area(joined(square(), quarters(-8, -3, 5))...), api.OK}, // two loops that share a point
		{area(joined(square(), quarters(8, 8, 5))...), api.ErrShape},
		{area(lines(at(-far, -far), at(far, -far), at(far, far), at(-far, -far))...), api.OK},
		{area(wide()[0], line(0, 0, 1, 1)), api.ErrShape},
		{api.Shape{}, api.ErrShape},
	} {
		mustBe(t, shape.Check(c.s), c.want, "Check of", c.s)
	}
}

func TestCheckOfKinds(t *testing.T) {
	for _, kind := range []int{0, 3, -1, -2, 4, 1<<32 + 1, 1<<32 + 2, math.MaxInt, math.MinInt} {
		for _, edges := range [][]api.Edge{nil, square(), dots(1), dots(41), {{}, {}}} {
			for _, r := range []int{0, -1, math.MaxInt} {
				mustBe(t, shape.Check(api.Shape{Kind: kind, Edges: edges, R: r}), api.ErrShape, "Check of", kind, edges, r)
			}
		}
	}
}

// Paths have from 1 to 40 edges, areas from 2.
func TestCheckOfCounts(t *testing.T) {
	for _, n := range []int{0, 1, 2, 3, 39, 40, 41, 42, 80, 1000, 1 << 18} {
		ofPath, ofArea := api.OK, api.OK
		if n == 0 {
			ofPath = api.ErrShape
		}
		if n < 2 {
			ofArea = api.ErrShape
		}
		if n > 40 {
			ofPath, ofArea = api.ErrMany, api.ErrMany
		}
		mustBe(t, shape.Check(path(3, dots(n)...)), ofPath, "Check of a path of edges", n)
		mustBe(t, shape.Check(area(dots(n)...)), ofArea, "Check of an area of edges", n)
	}
}

// R of a path goes from 0 to 4194304; R of an area is 0.
func TestCheckOfR(t *testing.T) {
	for _, r := range []int{0, 1, 2, 4194303, 4194304, 4194305, -1, -4194304, 1 << 32, 1<<32 + 7, math.MaxInt, math.MinInt} {
		ofPath, ofArea := api.OK, api.OK
		if r < 0 || r > 4194304 {
			ofPath = api.ErrRange
		}
		if r != 0 {
			ofArea = api.ErrRange
		}
		mustBe(t, shape.Check(path(r, square()...)), ofPath, "Check of a path with R", r)
		mustBe(t, shape.Check(api.Shape{Kind: api.ShArea, Edges: square(), R: r}), ofArea, "Check of an area with R", r)
	}
}

// Every edge must be valid; the first one that is not says what is wrong.
func TestCheckOfEdges(t *testing.T) {
	for _, kind := range []int{api.ShPath, api.ShArea} {
		for _, wrong := range wrongEdges() {
			want := edge.Check(wrong)
			for k := range 40 {
				edges := dots(40)
				edges[k] = wrong
				mustBe(t, shape.Check(api.Shape{Kind: kind, Edges: edges}), want, "Check of", kind, k, wrong)
			}
			if kind == api.ShPath {
				mustBe(t, shape.Check(path(1, wrong)), want, "Check of a path of", wrong)
			}
			mustBe(t, shape.Check(api.Shape{Kind: kind, Edges: []api.Edge{wrong, wrong}}), want, "Check of", kind, wrong)
		}
		low, high := between(at(1, 1), at(far+1, 1)), edgeOf(9, at(1, 1), at(1, 1), at(0, 0))
		for k := range 40 {
			for i := range k {
				edges := dots(40)
				edges[i], edges[k] = low, high
				mustBe(t, shape.Check(api.Shape{Kind: kind, Edges: edges}), api.ErrPoint, "Check of", kind, i, k)
				edges[i], edges[k] = high, low
				mustBe(t, shape.Check(api.Shape{Kind: kind, Edges: edges}), api.ErrEdge, "Check of", kind, i, k)
			}
		}
	}
}

// Where two edges do not join, even by 1 in one coordinate, there is no chain; between the last and the first one that matters to areas only.
func TestCheckOfChains(t *testing.T) {
	for n := 2; n <= 40; n++ {
		loop := make([]api.Point, n+1)
		for k := range n {
			loop[k] = at(k*k%37-11, 5*k)
		}
		loop[n] = loop[0]
		mustBe(t, shape.Check(area(lines(loop...)...)), api.OK, "Check of a loop of", n)
		mustBe(t, shape.Check(path(1, lines(loop...)...)), api.OK, "Check of a loop of", n)
		for k := range n {
			for _, d := range []api.Point{at(1, 0), at(-1, 0), at(0, 1), at(0, -1), at(1, 1), at(far-200, 0)} {
				edges := lines(loop...)
				edges[k].A.X += d.X
				edges[k].A.Y += d.Y
				want := api.ErrShape
				if k == 0 {
					want = api.OK
				}
				mustBe(t, shape.Check(path(1, edges...)), want, "Check of a path that breaks at", n, k, d)
				mustBe(t, shape.Check(area(edges...)), api.ErrShape, "Check of an area that breaks at", n, k, d)
			}
		}
	}
}

// Of several things that are wrong, that which the contract mentions first counts.
func TestFirstErrorCounts(t *testing.T) {
	broken := edgeOf(api.EdgeLine, at(1, 1), at(1, 2), at(0, 0))
	for _, kind := range []int{api.ShPath, api.ShArea} {
		for bits := range 32 {
			has := func(k int) bool { return bits>>k&1 > 0 }
			s, want := api.Shape{Kind: kind, Edges: dots(5)}, api.OK
			if has(4) {
				s.R, want = thick+1, api.ErrRange
			}
			if has(3) {
				s.Edges[1], want = broken, api.ErrShape
			}
			if has(2) {
				s.Edges[3], want = edgeOf(api.EdgeLeft, at(1, 1), at(1, 1), at(0, 0)), api.ErrEdge
			}
			if has(1) {
				s.Edges, want = append(s.Edges, dots(36)...), api.ErrMany
			}
			if has(0) {
				s.Kind, want = 7-kind, api.ErrShape
			}
			mustBe(t, shape.Check(s), want, "Check of", s)
		}
	}
	mustBe(t, shape.Check(path(-1)), api.ErrShape, "Check of a path without edges, and a wrong R")
	mustBe(t, shape.Check(area(edgeOf(0, at(1, 1), at(1, 1), at(far+1, 0)))), api.ErrShape, "Check of an area with one wrong edge")
}

// P9.2

func TestDisc(t *testing.T) {
	for _, p := range append(grid(extremes()), at(3, 4), at(-7, 2)) {
		for _, r := range []int{0, 1, 5, thick, thick + 1, -1, math.MaxInt, math.MinInt} {
			mustEqual(t, shape.Disc(p, r), api.Shape{Kind: 1, R: r, Edges: []api.Edge{{Kind: 1, A: p, B: p}}}, "Disc of", p, r)
		}
	}
	mustBe(t, shape.Check(shape.Disc(at(3, 4), 5)), api.OK, "Check of a Disc")
	mustBe(t, shape.Check(shape.Disc(at(-far, far), thick)), api.OK, "Check of a Disc")
	mustBe(t, shape.Check(shape.Disc(at(far+1, 4), 5)), api.ErrPoint, "Check of a Disc")
	mustBe(t, shape.Check(shape.Disc(at(3, 4), thick+1)), api.ErrRange, "Check of a Disc")
}

func TestRect(t *testing.T) {
	mustEqual(t, shape.Rect(api.Rect{X0: 1, Y0: 2, X1: 3, Y1: 4}), area(line(1, 2, 3, 2), line(3, 2, 3, 4), line(3, 4, 1, 4), line(1, 4, 1, 2)), "Rect")
	mustEqual(t, shape.Rect(api.Rect{X0: 3, Y0: 4, X1: 1, Y1: 2}), area(line(3, 4, 1, 4), line(1, 4, 1, 2), line(1, 2, 3, 2), line(3, 2, 3, 4)), "Rect")
	mustEqual(t, shape.Rect(api.Rect{}), area(slices.Repeat([]api.Edge{line(0, 0, 0, 0)}, 4)...), "Rect")
	corners := grid([]int{0, -5, 9, far, -far, far + 1, math.MaxInt, math.MinInt})
	for _, p := range corners {
		for _, q := range corners {
			r := api.Rect{X0: p.X, Y0: p.Y, X1: q.X, Y1: q.Y}
			got, want := shape.Rect(r), area(lines(p, at(q.X, p.Y), q, at(p.X, q.Y), p)...)
			mustEqual(t, got, want, "Rect of", r)
			right := api.OK
			if !bounded(p) || !bounded(q) {
				right = api.ErrPoint
			}
			mustBe(t, shape.Check(got), right, "Check of Rect of", r)
		}
	}
}

// P9.3

func TestMove(t *testing.T) {
	for _, c := range []struct {
		s    api.Shape
		m    api.Motion
		want api.Shape
	}{
		{s(), api.Motion{}, s()},
		{s(), api.Motion{At: at(100, 0), Mirror: true}, path(2, line(100, 0, 90, 0), edgeOf(api.EdgeRight, at(90, 0), at(85, 5), at(90, 5)))},
		{s(), api.Motion{At: at(1, 2), Turn: 1}, path(2, line(1, 2, 1, 12), edgeOf(api.EdgeLeft, at(1, 12), at(-4, 17), at(-4, 12)))},
		{h(), api.Motion{Turn: -2}, area(quarters(0, 0, 5)[2], line(0, -5, 0, 0), line(0, 0, -5, 0))},
		{api.Shape{Kind: 9, R: -8, Edges: dots(2)}, api.Motion{At: at(4, 5)}, api.Shape{Kind: 9, R: -8, Edges: slices.Repeat([]api.Edge{line(5, 6, 5, 6)}, 2)}},
		{api.Shape{Kind: 2, R: 3}, api.Motion{At: at(4, 5)}, api.Shape{Kind: 2, R: 3}},
		{api.Shape{}, api.Motion{Turn: 1}, api.Shape{}},
		{path(5, line(far, 0, far, 1)), api.Motion{At: at(1, 0)}, path(5, line(far+1, 0, far+1, 1))},
		{path(5, line(math.MaxInt, 0, 0, math.MinInt)), api.Motion{At: at(1, -1)}, path(5, line(math.MinInt, -1, 1, math.MaxInt))},
	} {
		mustEqual(t, shape.Move(c.s, c.m), c.want, "Move of", c.s, c.m)
	}
}

func TestMoveOfAny(t *testing.T) {
	d := dice(5)
	for range 3000 {
		s, m := anyShape(&d), api.Motion{At: anyPoint(&d), Turn: d.any(), Mirror: d.upTo(1) > 0}
		want := api.Shape{Kind: s.Kind, R: s.R}
		for _, e := range s.Edges {
			want.Edges = append(want.Edges, edge.Move(e, m))
		}
		mustEqual(t, shape.Move(s, m), want, "Move of", s, m)
	}
	many := api.Shape{Kind: 1, Edges: someChain(5000, 900, &d)}
	moved := shape.Move(many, api.Motion{At: at(1, 2), Turn: 3})
	for k, e := range many.Edges {
		mustBe(t, moved.Edges[k], edge.Move(e, api.Motion{At: at(1, 2), Turn: 3}), "Move of", e)
	}
	mustBe(t, len(moved.Edges), 5000, "edges of Move")
}

// P9.4

func TestBox(t *testing.T) {
	rect := func(x0, y0, x1, y1 int) api.Rect { return api.Rect{X0: x0, Y0: y0, X1: x1, Y1: y1} }
	for _, c := range []struct {
		s    api.Shape
		want api.Rect
	}{
		{s(), rect(-2, -2, 17, 7)},
		{h(), rect(0, 0, 5, 5)},
		{path(0, line(3, 4, 1, 8)), rect(1, 4, 3, 8)},
		{path(9, line(3, 4, 1, 8)), rect(-8, -5, 12, 17)},
		{path(9, line(1, 8, 1, 8), line(3, 4, 3, 4)), rect(-8, -5, 12, 17)},
		{path(9, line(3, 4, 3, 4), line(1, 8, 1, 8)), rect(-8, -5, 12, 17)},
		{path(0, quarters(50, 60, 10)[1]), rect(40, 60, 50, 70)}, // without the centre's other side
		{path(1, quarters(50, 60, 10)...), rect(39, 49, 61, 71)},
		{area(lines(at(0, 0), at(-7, 2), at(3, -9), at(8, 1), at(2, 30), at(0, 0))...), rect(-7, -9, 8, 30)},
		{path(0, line(5, 5, 5, 5)), rect(5, 5, 5, 5)},
		{path(0, line(-5, -5, -5, -5)), rect(-5, -5, -5, -5)},
		{path(3), api.Rect{}}, // no edges
		{area(), api.Rect{}},
		{api.Shape{}, api.Rect{}},
		{api.Shape{R: math.MaxInt, Edges: []api.Edge{}}, api.Rect{}},
		{path(-2, line(0, 0, 10, 20)), rect(2, 2, 8, 18)}, // shapes that are not valid
		{path(-20, line(0, 0, 10, 20)), rect(20, 20, -10, 0)},
		{api.Shape{Kind: 2, R: 4, Edges: square()}, rect(-7, -7, 7, 7)},
		{api.Shape{Kind: 0, R: 4, Edges: []api.Edge{{}}}, rect(-4, -4, 4, 4)},
		{api.Shape{Kind: 8, Edges: []api.Edge{edgeOf(7, at(1, 9), at(5, -2), at(100, 200)), edgeOf(-1, at(0, 0), at(0, 0), at(-300, 400))}}, rect(0, -2, 5, 9)},
		{path(thick, line(-far, far, far, -far)), rect(-far-thick, -far-thick, far+thick, far+thick)},
		{path(1, line(math.MaxInt, 0, 3, math.MinInt)), rect(2, math.MaxInt, math.MinInt, 1)}, // wraps around
		{path(math.MinInt, line(0, 1, 2, 3)), rect(math.MinInt, math.MinInt+1, math.MinInt+2, math.MinInt+3)},
		{path(math.MaxInt, line(0, 1, 2, 3)), rect(-math.MaxInt, 1-math.MaxInt, math.MinInt+1, math.MinInt+2)},
	} {
		mustBe(t, shape.Box(c.s), c.want, "Box of", c.s)
	}
}

func TestBoxOfAny(t *testing.T) {
	d := dice(6)
	for range 5000 {
		s := anyShape(&d)
		var x, y []int
		for _, e := range s.Edges {
			x, y = append(x, e.A.X, e.B.X), append(y, e.A.Y, e.B.Y)
		}
		want := api.Rect{}
		if len(x) > 0 {
			want = api.Rect{X0: slices.Min(x) - s.R, Y0: slices.Min(y) - s.R, X1: slices.Max(x) + s.R, Y1: slices.Max(y) + s.R}
		}
		mustBe(t, shape.Box(s), want, "Box of", s)
	}
	long := api.Shape{Kind: 2, Edges: dots(1 << 16)}
	long.Edges[60000].B = at(-9, 70)
	mustBe(t, shape.Box(long), api.Rect{X0: -9, Y0: 1, X1: 1, Y1: 70}, "Box of many edges")
}

// P9.6

func TestSame(t *testing.T) {
	base := path(2, line(0, 0, 10, 0), quarters(10, 5, 5)[3], line(15, 5, 3, 3))
	for _, s := range []api.Shape{base, s(), h(), area(square()...), {}, {Kind: -5, R: math.MinInt, Edges: wrongEdges()}, path(4, dots(5000)...)} {
		twin := api.Shape{Kind: s.Kind, R: s.R, Edges: slices.Clone(s.Edges)}
		mustBe(t, shape.Same(s, s), true, "Same of a shape and itself", s)
		mustBe(t, shape.Same(s, twin), true, "Same of a shape and its twin", s)
	}
	others := []api.Shape{
		{},
		{Kind: 2, Edges: base.Edges, R: 2},
		{Kind: 0, Edges: base.Edges, R: 2},
		{Kind: 1, Edges: base.Edges},
		{Kind: 1, Edges: base.Edges, R: 3},
		{Kind: 1, Edges: base.Edges, R: -2},
		{Kind: 1, Edges: base.Edges, R: 1<<32 + 2},
		{Kind: 1, R: 2},
		path(2, base.Edges[:2]...),
		path(2, base.Edges[1:]...),
		path(2, append(slices.Clone(base.Edges), base.Edges[2])...),
		path(2, append(slices.Clone(base.Edges[:1]), base.Edges...)...),
		path(2, base.Edges[1], base.Edges[0], base.Edges[2]), // in another order
		path(2, base.Edges[2], base.Edges[0], base.Edges[1]),
		path(2, reversed(base.Edges)...), // with the same points
		path(2, base.Edges[0], edge.Reverse(base.Edges[1]), base.Edges[2]),
	}
	for k := range base.Edges {
		for i := range 7 {
			for _, n := range []int{1, -1, 1 << 32, math.MinInt} {
				edges := slices.Clone(base.Edges)
				e := &edges[k]
				*[]*int{&e.Kind, &e.A.X, &e.A.Y, &e.B.X, &e.B.Y, &e.C.X, &e.C.Y}[i] += n
				others = append(others, path(2, edges...))
			}
		}
	}
	for _, s := range others {
		mustBe(t, shape.Same(base, s), false, "Same of", base, s)
		mustBe(t, shape.Same(s, base), false, "Same of", s, base)
	}
}

// A nil list of edges is an empty one (R1).
func TestNilIsEmpty(t *testing.T) {
	for _, kind := range []int{0, 1, 2} {
		none, empty := api.Shape{Kind: kind, R: 3}, api.Shape{Kind: kind, R: 3, Edges: []api.Edge{}}
		mustBe(t, shape.Same(none, empty), true, "Same of nil and empty", kind)
		mustBe(t, shape.Same(empty, none), true, "Same of empty and nil", kind)
		for _, s := range []api.Shape{none, empty} {
			mustBe(t, shape.Check(s), api.ErrShape, "Check of", s)
			mustBe(t, shape.Box(s), api.Rect{}, "Box of", s)
			mustBe(t, shape.Inside(s, at(0, 0)), false, "Inside of", s)
			mustEqual(t, shape.Move(s, api.Motion{At: at(1, 2)}), none, "Move of", s)
		}
	}
}
