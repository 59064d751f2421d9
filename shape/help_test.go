package shape_test

import (
	"math"
	"math/big"
	"slices"
	"testing"

	"etchant/api"
	"etchant/edge"
	"etchant/shape"
	"etchant/vec"
)

// far is the greatest coordinate of right points, thick the greatest R of paths.
const (
	far   = 67108864
	thick = 4194304
)

// at returns a point.
func at(x, y int) api.Point { return api.Point{X: x, Y: y} }

// line returns a line.
func line(x0, y0, x1, y1 int) api.Edge { return between(at(x0, y0), at(x1, y1)) }

// between returns the line from a to b.
func between(a, b api.Point) api.Edge { return edgeOf(api.EdgeLine, a, b, at(0, 0)) }

// edgeOf returns any edge.
func edgeOf(kind int, a, b, c api.Point) api.Edge { return api.Edge{Kind: kind, A: a, B: b, C: c} }

// quarters returns those of a circle, to the left, beginning at the right.
func quarters(x, y, r int) []api.Edge {
	c, right, top, left, bottom := at(x, y), at(x+r, y), at(x, y+r), at(x-r, y), at(x, y-r)
	return []api.Edge{
		edgeOf(api.EdgeLeft, right, top, c),
		edgeOf(api.EdgeLeft, top, left, c),
		edgeOf(api.EdgeLeft, left, bottom, c),
		edgeOf(api.EdgeLeft, bottom, right, c),
	}
}

// arcs returns the quarters of a circle in both directions.
func arcs(x, y, r int) []api.Edge {
	list := quarters(x, y, r)
	for _, e := range quarters(x, y, r) {
		list = append(list, edge.Reverse(e))
	}
	return list
}

// reversed returns a chain that leads back.
func reversed(edges []api.Edge) []api.Edge {
	var list []api.Edge
	for _, e := range slices.Backward(edges) {
		list = append(list, edge.Reverse(e))
	}
	return list
}

// lines returns those from each of the points to the next one.
func lines(points ...api.Point) []api.Edge {
	var list []api.Edge
	for k := range points[1:] {
		list = append(list, between(points[k], points[k+1]))
	}
	return list
}

// joined returns all edges of some lists.
func joined(lists ...[]api.Edge) []api.Edge { return slices.Concat(lists...) }

// dots returns n lines that lead from (1, 1) to (1, 1).
func dots(n int) []api.Edge { return slices.Repeat([]api.Edge{line(1, 1, 1, 1)}, n) }

// path and area return shapes.
func path(r int, edges ...api.Edge) api.Shape {
	return api.Shape{Kind: api.ShPath, Edges: edges, R: r}
}
func area(edges ...api.Edge) api.Shape { return api.Shape{Kind: api.ShArea, Edges: edges} }

// upTo returns the ints from -n to n.
func upTo(n int) []int {
	var list []int
	for k := -n; k <= n; k++ {
		list = append(list, k)
	}
	return list
}

// grid returns all points with these coordinates.
func grid(coords []int) []api.Point {
	var list []api.Point
	for _, x := range coords {
		for _, y := range coords {
			list = append(list, at(x, y))
		}
	}
	return list
}

// around returns p and the points next to it.
func around(p api.Point) []api.Point {
	var list []api.Point
	for _, d := range grid(upTo(1)) {
		list = append(list, vec.Add(p, d))
	}
	return list
}

// extremes returns ints of many sizes, among them those whose differences and products wrap around.
func extremes() []int {
	return []int{0, 1, -1, far, -far, far + 1, -far - 1, far + thick, -far - thick, 2 * far, 1 << 32, -1 << 32, 3037000500, 1 << 62, -1 << 62, math.MaxInt, math.MinInt, math.MinInt + 1}
}

// beside returns p, and points at its height and below and above it that lie so far out that differences and products wrap around.
func beside(p api.Point) []api.Point {
	list := []api.Point{p}
	for _, n := range extremes() {
		list = append(list, at(n, p.Y), at(p.X, n), at(p.X+n, p.Y), at(p.X, p.Y+n), at(p.X+n, p.Y+n))
	}
	return list
}

// bounded reports whether p is right.
func bounded(p api.Point) bool {
	return max(-far, min(far, p.X)) == p.X && max(-far, min(far, p.Y)) == p.Y
}

// stretched returns lines that lead from one end of the right points to another one, and from the middle.
func stretched() []api.Edge {
	var list []api.Edge
	ends := grid([]int{-far, 1 - far, -1, 0, far - 1, far})
	for _, a := range ends {
		for _, b := range ends {
			list = append(list, between(a, b))
		}
	}
	return list
}

// wide returns arcs of great radii, the greatest one among them.
func wide() []api.Edge {
	var list []api.Edge
	for _, r := range []int{2 * far, 2*far - 3, far, far - 4, thick + 1, thick, thick - 1} {
		for _, c := range grid([]int{-far, 1 - far, 0, far}) {
			for _, e := range arcs(c.X, c.Y, r) {
				if bounded(e.A) && bounded(e.B) {
					list = append(list, e)
				}
			}
		}
	}
	return list
}

// dice returns ints that depend only on its seed.
type dice uint64

// upTo returns the next int, from -n to n.
func (d *dice) upTo(n int) int {
	*d = *d*6364136223846793005 + 1442695040888963407
	return int(*d>>20)%(2*n+1) - n
}

// any returns the next int, of any size.
func (d *dice) any() int {
	size := d.upTo(31) + 31
	return int(uint64(d.upTo(math.MaxInt32))<<32+uint64(d.upTo(math.MaxInt32))) >> size
}

// someChain returns a chain of n edges with coordinates up to size.
func someChain(n, size int, d *dice) []api.Edge {
	list := make([]api.Edge, n)
	a := at(d.upTo(size), d.upTo(size))
	for k := range list {
		list[k] = between(a, at(d.upTo(size), d.upTo(size)))
		e := arcs(0, 0, d.upTo(size/4)+size/4+1)[d.upTo(3)+3]
		e = edge.Move(e, api.Motion{At: vec.Sub(a, e.A)})
		if room := max(e.B.X, -e.B.X, e.B.Y, -e.B.Y) <= size; room && d.upTo(1) > 0 {
			list[k] = e
		}
		a = list[k].B
	}
	return list
}

// someLoop returns a closed chain of n edges with coordinates up to size.
func someLoop(n, size int, d *dice) []api.Edge {
	list := someChain(n-1, size, d)
	return append(list, between(list[n-2].B, list[0].A))
}

// anyEdge and anyPoint return what need not be right in any way.
func anyEdge(d *dice) api.Edge {
	return edgeOf(d.upTo(2)+2, anyPoint(d), anyPoint(d), anyPoint(d))
}
func anyPoint(d *dice) api.Point { return at(d.any(), d.any()) }

// anyShape returns a shape that need not be right in any way.
func anyShape(d *dice) api.Shape {
	s := api.Shape{Kind: d.upTo(2) + 1, R: d.any()}
	for range d.upTo(3) + 3 {
		s.Edges = append(s.Edges, anyEdge(d))
	}
	return s
}

// wrongEdges returns edges that are not valid in one way, or in several.
func wrongEdges() []api.Edge {
	o, right, top := at(0, 0), at(5, 0), at(0, 5)
	list := []api.Edge{
		{},
		edgeOf(api.EdgeLine, o, at(9, 9), at(1, 0)), // a line with a centre
		edgeOf(api.EdgeLeft, right, top, at(1, 0)),  // a centre that does not fit
		edgeOf(api.EdgeRight, right, top, o),        // the other way around
		edgeOf(api.EdgeLeft, right, at(-5, 0), o),   // half of a circle, and none of it
		edgeOf(api.EdgeLeft, right, right, o),
		edgeOf(api.EdgeLeft, right, at(0, 6), o), // different distances from the centre
		edgeOf(api.EdgeLeft, at(far+1, 0), at(far-4, 5), at(far-4, 0)),
	}
	for _, kind := range []int{0, 4, -1, math.MaxInt, math.MinInt} {
		list = append(list, edgeOf(kind, o, at(9, 9), o), edgeOf(kind, right, top, o))
	}
	for _, n := range []int{far + 1, -far - 1, 1 << 32, math.MaxInt, math.MinInt} {
		for _, p := range []api.Point{at(n, 0), at(0, n)} {
			list = append(list, between(o, p), between(p, right), between(p, p), edgeOf(api.EdgeLeft, p, top, o), edgeOf(api.EdgeRight, right, top, p))
		}
	}
	return list
}

// whole returns a number that does not wrap around.
func whole(n int) *big.Int { return big.NewInt(int64(n)) }

func plus(n, m *big.Int) *big.Int  { return new(big.Int).Add(n, m) }
func minus(n, m *big.Int) *big.Int { return new(big.Int).Sub(n, m) }
func times(n, m *big.Int) *big.Int { return new(big.Int).Mul(n, m) }

// vector is a vector whose coordinates do not wrap around.
type vector struct{ x, y *big.Int }

// from returns the vector from a to b.
func from(a, b api.Point) vector {
	return vector{minus(whole(b.X), whole(a.X)), minus(whole(b.Y), whole(a.Y))}
}

func (v vector) dot(w vector) *big.Int   { return plus(times(v.x, w.x), times(v.y, w.y)) }
func (v vector) cross(w vector) *big.Int { return minus(times(v.x, w.y), times(v.y, w.x)) }
func (v vector) square() *big.Int        { return v.dot(v) }

// drawn reports whether p is at most r away from some point of a valid edge, and how that was found.
func drawn(e api.Edge, r int, p api.Point) (bool, string) {
	square, d, a, b := times(whole(r), whole(r)), from(e.A, e.B), from(e.A, p), from(e.B, p)
	if e.Kind == api.EdgeLine && d.dot(a).Sign() > 0 && d.dot(b).Sign() < 0 {
		foot := new(big.Rat).SetFrac(d.dot(a), d.square()) // how much of the line leads to what is nearest
		x := new(big.Rat).Mul(foot, new(big.Rat).SetInt(d.x))
		y := new(big.Rat).Mul(foot, new(big.Rat).SetInt(d.y))
		x.Sub(x, new(big.Rat).SetInt(a.x))
		y.Sub(y, new(big.Rat).SetInt(a.y))
		return x.Mul(x, x).Add(x, y.Mul(y, y)).Cmp(new(big.Rat).SetInt(square)) <= 0, "beside a line"
	}
	v, toA, toB := from(e.C, p), from(e.C, e.A), from(e.C, e.B)
	if e.Kind != api.EdgeLine && v.dot(toA).Sign() >= 0 && v.dot(toB).Sign() >= 0 { // not more than a quarter away from both ends
		radius := new(big.Int).Sqrt(toA.square())
		outer, inner := plus(radius, whole(r)), minus(radius, whole(r))
		switch {
		case v.square().Cmp(toA.square()) >= 0:
			return v.square().Cmp(times(outer, outer)) <= 0, "outside of an arc"
		case inner.Sign() <= 0:
			return true, "around the centre of an arc"
		}
		return v.square().Cmp(times(inner, inner)) >= 0, "inside of an arc"
	}
	return a.square().Cmp(square) <= 0 || b.square().Cmp(square) <= 0, "at an end"
}

// above reports whether the point of a valid edge straight below or above p, which is one between its ends, lies above p.
func above(e api.Edge, p api.Point) bool {
	if e.Kind == api.EdgeLine {
		d, a := from(e.A, e.B), from(e.A, p)
		y := new(big.Rat).SetFrac(times(d.y, a.x), d.x)
		return y.Cmp(new(big.Rat).SetInt(a.y)) > 0
	}
	v, a, b := from(e.C, p), from(e.C, e.A), from(e.C, e.B)
	beyond := v.square().Cmp(a.square()) > 0
	if plus(a.y, b.y).Sign() > 0 { // above the centre
		return v.y.Sign() < 0 || !beyond
	}
	return v.y.Sign() < 0 && beyond
}

// turns returns how often a closed chain goes around p, which is none of its points, to the left: how often it crosses what lies straight above p.
func turns(edges []api.Edge, p api.Point) int {
	sum := 0
	for _, e := range edges {
		switch {
		case e.B.X <= p.X && p.X < e.A.X && above(e, p):
			sum++
		case e.A.X <= p.X && p.X < e.B.X && above(e, p):
			sum--
		}
	}
	return sum
}

// within reports whether p is a point of a valid shape, and how that was found.
func within(s api.Shape, p api.Point) (bool, string) {
	way := ""
	for _, e := range s.Edges {
		near, how := drawn(e, s.R, p)
		if near && s.Kind == api.ShArea {
			how = "on an edge"
		}
		if near {
			return true, how
		}
		way = "not " + how
	}
	if s.Kind == api.ShPath {
		return false, way
	}
	n := turns(s.Edges, p)
	return n != 0, "around " + string(rune('0'+min(9, max(n, -n))))
}

// mustInside reports an error unless Inside says of a valid shape and p what its definition says, and returns how that was found.
func mustInside(t *testing.T, s api.Shape, p api.Point) string {
	t.Helper()
	want, way := within(s, p)
	mustBe(t, shape.Inside(s, p), want, "Inside of", s, p)
	return way
}

// tally counts what was found in each way.
type tally map[string]int

// mustHave reports an error unless what was found in each of these ways was found at least so often.
func (n tally) mustHave(t *testing.T, least int, ways ...string) {
	t.Helper()
	for _, way := range ways {
		if n[way] < least {
			t.Errorf("%s: only %d times, of %v", way, n[way], n)
		}
	}
}

// mustBe reports an error unless got is want.
func mustBe[T comparable](t *testing.T, got, want T, what ...any) {
	t.Helper()
	if got != want {
		t.Errorf("%v: %+v, not %+v", what, got, want)
	}
}

// mustEqual reports an error unless two shapes are equal.
func mustEqual(t *testing.T, got, want api.Shape, what ...any) {
	t.Helper()
	if got.Kind != want.Kind || got.R != want.R || len(got.Edges) != len(want.Edges) {
		t.Errorf("%v: %+v, not %+v", what, got, want)
		return
	}
	for k, e := range want.Edges {
		mustBe(t, got.Edges[k], e, append(what, k)...)
	}
}
