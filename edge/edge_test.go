package edge_test

import (
	"math"
	"testing"

	"etchant/api"
	"etchant/edge"
	"etchant/vec"
)

// P6.1

func TestCheck(t *testing.T) {
	for _, c := range []struct {
		e    api.Edge
		want api.Errno
	}{
		{edgeOf(api.EdgeLeft, at(10, 0), at(0, 10), at(0, 0)), api.OK},
		{edgeOf(api.EdgeRight, at(10, 0), at(0, 10), at(0, 0)), api.ErrEdge},
		{edgeOf(api.EdgeLeft, at(10, 0), at(0, 10), at(1, 0)), api.ErrEdge},
		{edgeOf(api.EdgeLine, at(0, 0), at(10, 5), at(1, 0)), api.ErrEdge},
		{line(0, 0, 10, 5), api.OK},
		{line(10, 5, 0, 0), api.OK},
		{line(0, 0, 0, 0), api.OK},
		{line(-7, 3, -7, 3), api.OK},
		{line(2, 1, 8, 1), api.OK},
		{line(2, 1, 2, -9), api.OK},
		{line(-far, -far, far, far), api.OK},
		{line(far, -far, far, -far), api.OK},
		{edgeOf(api.EdgeRight, at(8, 7), at(3, 2), at(3, 7)), api.OK},
		{edgeOf(api.EdgeLeft, at(3, 2), at(8, 7), at(3, 7)), api.OK},
		{edgeOf(api.EdgeLeft, at(1, 0), at(0, 1), at(0, 0)), api.OK},
		{edgeOf(api.EdgeLeft, at(-far, far), at(far, -far), at(far, far)), api.OK},
		{edgeOf(api.EdgeRight, at(far, far), at(-far, -far), at(-far, far)), api.OK},
	} {
		mustBe(t, edge.Check(c.e), c.want, "Check of", c.e)
	}
	for _, c := range wrongEdges() {
		mustBe(t, edge.Check(c.e), c.want, "Check of", c.e)
	}
}

// Of all edges with small coordinates, just the lines without a centre and the arcs of all circles are valid.
func TestCheckOfAll(t *testing.T) {
	points := grid(upTo(2))
	valid := map[api.Edge]bool{}
	for _, c := range points {
		for r := 1; r <= 4; r++ {
			for _, e := range arcs(c.X, c.Y, r) {
				valid[e] = true
			}
		}
		for _, d := range points {
			valid[line(c.X, c.Y, d.X, d.Y)] = true
		}
	}
	count := 0
	for kind := -1; kind <= 5; kind++ {
		for _, a := range points {
			for _, b := range points {
				for _, c := range points {
					e, want := edgeOf(kind, a, b, c), api.ErrEdge
					if valid[e] {
						want = api.OK
						count++
					}
					mustBe(t, edge.Check(e), want, "Check of", e)
				}
			}
		}
	}
	mustBe(t, count, 25*25+8*(16+9+4+1), "valid edges")
}

// Each coordinate of each point may go up to the limits, and no further.
func TestCheckAtTheLimits(t *testing.T) {
	for _, e := range []api.Edge{line(1, 2, 3, 4), edgeOf(api.EdgeLine, at(1, 2), at(3, 4), at(5, 6)), edgeOf(api.EdgeLeft, at(1, 2), at(3, 4), at(5, 6)), edgeOf(api.EdgeRight, at(1, 2), at(3, 4), at(5, 6))} {
		for _, n := range append(extremes(), far-1, 1-far) {
			for k := range 6 {
				moved, want := e, api.ErrEdge
				*[]*int{&moved.A.X, &moved.A.Y, &moved.B.X, &moved.B.Y, &moved.C.X, &moved.C.Y}[k] = n
				if moved.Kind == api.EdgeLine && moved.C == at(0, 0) {
					want = api.OK
				}
				if n < -67108864 || n > 67108864 {
					want = api.ErrPoint
				}
				mustBe(t, edge.Check(moved), want, "Check of", moved)
			}
		}
	}
	for _, e := range stretched() {
		mustBe(t, edge.Check(e), api.OK, "Check of", e)
	}
	for e := range wide() {
		mustBe(t, edge.Check(e), api.OK, "Check of", e)
	}
	for _, c := range grid([]int{-far, 0, far}) {
		for _, e := range arcs(c.X, c.Y, 7) {
			want := api.OK
			if !bounded(e.A) || !bounded(e.B) {
				want = api.ErrPoint
			}
			mustBe(t, edge.Check(e), want, "Check of", e)
		}
	}
}

// P6.2

func TestRadius(t *testing.T) {
	mustBe(t, edge.Radius(edgeOf(api.EdgeLeft, at(10, 0), at(0, 10), at(0, 0))), 10, "Radius of a")
	mustBe(t, edge.Radius(line(0, 0, 10, 5)), 0, "Radius of l")
	for _, c := range grid([]int{-12, 0, 5}) {
		for _, r := range []int{1, 2, 10, 65, far - 12} {
			for _, e := range arcs(c.X, c.Y, r) {
				want := r
				if !bounded(e.A) || !bounded(e.B) {
					want = 0
				}
				mustBe(t, edge.Radius(e), want, "Radius of", e)
			}
		}
	}
	mustBe(t, edge.Radius(edgeOf(api.EdgeLeft, at(-far, far), at(far, -far), at(far, far))), 134217728, "the greatest Radius")
	for _, c := range wrongEdges() {
		mustBe(t, edge.Radius(c.e), 0, "Radius of", c.e)
	}
	for _, e := range stretched() {
		mustBe(t, edge.Radius(e), 0, "Radius of", e)
	}
}

// P6.3

func TestReverse(t *testing.T) {
	for _, c := range []struct{ e, want api.Edge }{
		{line(0, 0, 10, 5), line(10, 5, 0, 0)},
		{line(3, 4, 3, 4), line(3, 4, 3, 4)},
		{edgeOf(api.EdgeLeft, at(10, 0), at(0, 10), at(0, 0)), edgeOf(api.EdgeRight, at(0, 10), at(10, 0), at(0, 0))},
		{edgeOf(api.EdgeRight, at(8, 7), at(3, 2), at(3, 7)), edgeOf(api.EdgeLeft, at(3, 2), at(8, 7), at(3, 7))},
		{edgeOf(api.EdgeLine, at(1, 2), at(3, 4), at(5, 6)), edgeOf(api.EdgeLine, at(3, 4), at(1, 2), at(5, 6))},
		{edgeOf(api.EdgeLeft, at(1, 2), at(3, 4), at(5, 6)), edgeOf(api.EdgeRight, at(3, 4), at(1, 2), at(5, 6))},
		{api.Edge{}, api.Edge{}},
		{edgeOf(0, at(1, 2), at(3, 4), at(5, 6)), edgeOf(0, at(3, 4), at(1, 2), at(5, 6))},
		{edgeOf(4, at(1, 2), at(3, 4), at(5, 6)), edgeOf(4, at(3, 4), at(1, 2), at(5, 6))},
		{edgeOf(5, at(1, 2), at(3, 4), at(5, 6)), edgeOf(5, at(3, 4), at(1, 2), at(5, 6))},
		{edgeOf(-2, at(1, 2), at(3, 4), at(5, 6)), edgeOf(-2, at(3, 4), at(1, 2), at(5, 6))},
		{edgeOf(math.MaxInt, at(math.MinInt, 2), at(3, math.MaxInt), at(5, 6)), edgeOf(math.MaxInt, at(3, math.MaxInt), at(math.MinInt, 2), at(5, 6))},
		{edgeOf(math.MinInt, at(1, 2), at(3, 4), at(math.MinInt, 6)), edgeOf(math.MinInt, at(3, 4), at(1, 2), at(math.MinInt, 6))},
	} {
		mustBe(t, edge.Reverse(c.e), c.want, "Reverse of", c.e)
	}
}

func TestMove(t *testing.T) {
	a := edgeOf(api.EdgeLeft, at(10, 0), at(0, 10), at(0, 0))
	for _, c := range []struct {
		e    api.Edge
		m    api.Motion
		want api.Edge
	}{
		{a, api.Motion{}, a},
		{a, api.Motion{At: at(10, 20), Turn: 1}, edgeOf(api.EdgeLeft, at(10, 30), at(0, 20), at(10, 20))},
		{a, api.Motion{At: at(10, 20), Turn: -2}, edgeOf(api.EdgeLeft, at(0, 20), at(10, 10), at(10, 20))},
		{a, api.Motion{Mirror: true}, edgeOf(api.EdgeRight, at(-10, 0), at(0, 10), at(0, 0))},
		{a, api.Motion{At: at(1, 2), Turn: 3, Mirror: true}, edgeOf(api.EdgeRight, at(1, 12), at(11, 2), at(1, 2))},
		{edge.Reverse(a), api.Motion{Mirror: true}, edgeOf(api.EdgeLeft, at(0, 10), at(-10, 0), at(0, 0))},
		{edge.Reverse(a), api.Motion{At: at(5, 5)}, edgeOf(api.EdgeRight, at(5, 15), at(15, 5), at(5, 5))},
		{line(1, 2, 3, 4), api.Motion{At: at(10, 20), Turn: 2}, line(9, 18, 7, 16)},
		{line(1, 2, 3, 4), api.Motion{At: at(10, 20), Turn: 1, Mirror: true}, line(8, 19, 6, 17)},
		{edgeOf(api.EdgeLine, at(1, 2), at(3, 4), at(5, 6)), api.Motion{At: at(10, 20), Turn: 1, Mirror: true}, edgeOf(api.EdgeLine, at(8, 19), at(6, 17), at(5, 6))},
		{edgeOf(api.EdgeLeft, at(1, 2), at(3, 4), at(5, 6)), api.Motion{At: at(10, 20)}, edgeOf(api.EdgeLeft, at(11, 22), at(13, 24), at(15, 26))},
		{edgeOf(0, at(1, 2), at(3, 4), at(5, 6)), api.Motion{At: at(10, 20)}, edgeOf(0, at(11, 22), at(13, 24), at(15, 26))},
		{edgeOf(0, at(1, 2), at(3, 4), at(5, 6)), api.Motion{Mirror: true}, edgeOf(0, at(-1, 2), at(-3, 4), at(-5, 6))},
		{edgeOf(4, at(1, 2), at(3, 4), at(5, 6)), api.Motion{Mirror: true}, edgeOf(4, at(-1, 2), at(-3, 4), at(-5, 6))},
		{edgeOf(5, at(1, 2), at(3, 4), at(5, 6)), api.Motion{Turn: 1, Mirror: true}, edgeOf(5, at(-2, -1), at(-4, -3), at(-6, -5))},
		{edgeOf(-1, at(1, 2), at(3, 4), at(5, 6)), api.Motion{Turn: 1}, edgeOf(-1, at(-2, 1), at(-4, 3), at(-6, 5))},
		{api.Edge{}, api.Motion{At: at(1, 2)}, edgeOf(0, at(1, 2), at(1, 2), at(1, 2))},
		{line(math.MaxInt, 0, 0, math.MinInt), api.Motion{At: at(1, -1)}, line(math.MinInt, -1, 1, math.MaxInt)},
		{edgeOf(api.EdgeRight, at(math.MinInt, 0), at(math.MaxInt, 0), at(0, math.MinInt)), api.Motion{At: at(0, -1), Mirror: true}, edgeOf(api.EdgeLeft, at(math.MinInt, -1), at(-math.MaxInt, -1), at(0, math.MaxInt))},
		{line(far, far, -far, far), api.Motion{At: at(1, 0)}, line(far+1, far, 1-far, far)},
	} {
		mustBe(t, edge.Move(c.e, c.m), c.want, "Move of", c.e, c.m)
	}
}

// moved returns what Move must return.
func moved(e api.Edge, m api.Motion) api.Edge {
	kinds := map[int]int{api.EdgeLeft: api.EdgeRight, api.EdgeRight: api.EdgeLeft}
	kind, c := e.Kind, e.C
	if other, found := kinds[kind]; found && m.Mirror {
		kind = other
	}
	if e.Kind != api.EdgeLine {
		c = vec.Apply(m, c)
	}
	return edgeOf(kind, vec.Apply(m, e.A), vec.Apply(m, e.B), c)
}

func TestMoveOfAny(t *testing.T) {
	for seed := range uint64(20000) {
		n := someInts(12, seed)
		m := api.Motion{At: at(n[0], n[1]), Turn: n[2], Mirror: n[3]&1 > 0}
		for _, kind := range []int{api.EdgeLine, api.EdgeLeft, api.EdgeRight, n[4]} {
			e := edgeOf(kind, at(n[5], n[6]), at(n[7], n[8]), at(n[9], n[10]))
			mustBe(t, edge.Move(e, m), moved(e, m), "Move of", e, m)
		}
	}
}

// P6.4

func TestBox(t *testing.T) {
	for _, c := range []struct {
		e    api.Edge
		want api.Rect
	}{
		{line(3, 4, 1, 8), api.Rect{X0: 1, Y0: 4, X1: 3, Y1: 8}},
		{line(1, 8, 3, 4), api.Rect{X0: 1, Y0: 4, X1: 3, Y1: 8}},
		{line(-5, -6, 2, -1), api.Rect{X0: -5, Y0: -6, X1: 2, Y1: -1}},
		{line(2, -1, -5, -6), api.Rect{X0: -5, Y0: -6, X1: 2, Y1: -1}},
		{line(7, 9, 7, 9), api.Rect{X0: 7, Y0: 9, X1: 7, Y1: 9}},
		{line(7, 9, -7, 9), api.Rect{X0: -7, Y0: 9, X1: 7, Y1: 9}},
		{edgeOf(api.EdgeLeft, at(10, 0), at(0, 10), at(0, 0)), api.Rect{X1: 10, Y1: 10}},
		{edgeOf(api.EdgeLeft, at(0, 10), at(-10, 0), at(0, 0)), api.Rect{X0: -10, X1: 0, Y1: 10}},
		{edgeOf(api.EdgeRight, at(8, 7), at(3, 2), at(3, 7)), api.Rect{X0: 3, Y0: 2, X1: 8, Y1: 7}},
		{edgeOf(api.EdgeLeft, at(1, 2), at(3, -4), at(50, 60)), api.Rect{X0: 1, Y0: -4, X1: 3, Y1: 2}},
		{edgeOf(0, at(1, 2), at(3, -4), at(-50, 60)), api.Rect{X0: 1, Y0: -4, X1: 3, Y1: 2}},
		{edgeOf(9, at(math.MaxInt, 2), at(3, math.MinInt), at(0, 0)), api.Rect{X0: 3, Y0: math.MinInt, X1: math.MaxInt, Y1: 2}},
		{line(math.MinInt, math.MaxInt, math.MaxInt, math.MinInt), api.Rect{X0: math.MinInt, Y0: math.MinInt, X1: math.MaxInt, Y1: math.MaxInt}},
		{api.Edge{}, api.Rect{}},
	} {
		mustBe(t, edge.Box(c.e), c.want, "Box of", c.e)
	}
	ends := grid(extremes())
	for _, a := range ends {
		for _, b := range ends {
			e := edgeOf(a.X&3, a, b, at(b.Y, a.X))
			mustBe(t, edge.Box(e), api.Rect{X0: min(a.X, b.X), Y0: min(a.Y, b.Y), X1: max(a.X, b.X), Y1: max(a.Y, b.Y)}, "Box of", e)
		}
	}
}
