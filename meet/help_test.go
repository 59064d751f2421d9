package meet_test

import (
	"math"
	"math/big"
	"testing"

	"etchant/api"
	"etchant/edge"
	"etchant/meet"
	"etchant/vec"
)

// far is the greatest coordinate of right points.
const far = 67108864

// at returns a point.
func at(x, y int) api.Point { return api.Point{X: x, Y: y} }

// line returns a line.
func line(x0, y0, x1, y1 int) api.Edge { return between(at(x0, y0), at(x1, y1)) }

// between returns the line from a to b.
func between(a, b api.Point) api.Edge { return edgeOf(api.EdgeLine, a, b, at(0, 0)) }

// left returns the arc that leads to the left around (x, y).
func left(x0, y0, x1, y1, x, y int) api.Edge {
	return edgeOf(api.EdgeLeft, at(x0, y0), at(x1, y1), at(x, y))
}

// edgeOf returns any edge.
func edgeOf(kind int, a, b, c api.Point) api.Edge { return api.Edge{Kind: kind, A: a, B: b, C: c} }

// quarters returns those of a circle, to the left, beginning at the right.
func quarters(x, y, r int) []api.Edge {
	return []api.Edge{
		left(x+r, y, x, y+r, x, y),
		left(x, y+r, x-r, y, x, y),
		left(x-r, y, x, y-r, x, y),
		left(x, y-r, x+r, y, x, y),
	}
}

// q is the arc of the chapter's examples.
func q() api.Edge { return left(5, 0, 0, 5, 0, 0) }

// upTo returns the ints from -n to n.
func upTo(n int) []int {
	var list []int
	for k := -n; k <= n; k++ {
		list = append(list, k)
	}
	return list
}

// grid returns all points with these coordinates.
func grid(coords []int) []api.Point {
	var list []api.Point
	for _, x := range coords {
		for _, y := range coords {
			list = append(list, at(x, y))
		}
	}
	return list
}

// around returns p and the points next to it.
func around(p api.Point) []api.Point {
	var list []api.Point
	for _, d := range grid(upTo(1)) {
		list = append(list, vec.Add(p, d))
	}
	return list
}

// scaled returns p, k times as far from the origin.
func scaled(p api.Point, k int) api.Point { return at(p.X*k, p.Y*k) }

// bounded reports whether p is right.
func bounded(p api.Point) bool { return max(p.X, -p.X) <= far && max(p.Y, -p.Y) <= far }

// stretched returns lines that lead from one end of the right points to another one, and from the middle.
func stretched() []api.Edge {
	var list []api.Edge
	ends := grid([]int{-far, 1 - far, -1, 0, far - 1, far})
	for _, a := range ends {
		for _, b := range ends {
			list = append(list, between(a, b))
		}
	}
	return list
}

// wide returns arcs of great radii, the greatest one among them.
func wide() []api.Edge {
	var list []api.Edge
	for _, r := range []int{2 * far, 2*far - 3, far, far - 4, 1 << 20} {
		for _, c := range grid([]int{-far, 1 - far, 0, far}) {
			for _, e := range quarters(c.X, c.Y, r) {
				if bounded(e.A) && bounded(e.B) {
					list = append(list, e)
				}
			}
		}
	}
	return list
}

// someInts returns n ints from -size to size that depend only on seed.
func someInts(n, size int, seed uint64) []int {
	list := make([]int, n)
	for k := range list {
		seed = seed*6364136223846793005 + 1442695040888963407
		list[k] = int(seed>>20)%(2*size+1) - size
	}
	return list
}

// someEdge returns a line or an arc with coordinates up to three times size, as n says, which has 4 elements.
func someEdge(n []int, arc bool) api.Edge {
	if !arc {
		return line(n[0], n[1], n[2], n[3])
	}
	e := quarters(n[0], n[1], max(n[2], -n[2])+1)[n[3]&3]
	if n[3]&4 > 0 {
		return edge.Reverse(e)
	}
	return e
}

// wrongEdges returns edges that are not right in one way, or in several; many of them would meet q if they were.
func wrongEdges() []api.Edge {
	o, right, top := at(0, 0), at(5, 0), at(0, 5)
	list := []api.Edge{
		{},
		edgeOf(api.EdgeLine, o, at(9, 9), at(1, 0)), // lines with centres
		edgeOf(api.EdgeLine, right, top, at(0, -1)),
		edgeOf(api.EdgeLine, right, right, right),
		edgeOf(api.EdgeLeft, right, top, at(1, 0)), // centres that do not fit
		edgeOf(api.EdgeLeft, right, top, at(5, 5)),
		edgeOf(api.EdgeRight, right, top, o), // the other way around
		edgeOf(api.EdgeLeft, top, right, o),
		edgeOf(api.EdgeLeft, right, at(-5, 0), o), // half of a circle, all and none of it
		edgeOf(api.EdgeRight, top, at(0, -5), o),
		edgeOf(api.EdgeLeft, right, right, o),
		edgeOf(api.EdgeLeft, right, right, right),
		edgeOf(api.EdgeLeft, right, at(0, 6), o), // different distances from the centre
		edgeOf(api.EdgeLeft, at(6, 0), top, o),
		edgeOf(api.EdgeLeft, at(4, 3), at(-3, 4), o), // a quarter, but askew
		edgeOf(api.EdgeLeft, at(far+1, 0), at(far-4, 5), at(far-4, 0)),
		edgeOf(api.EdgeRight, at(5, far-4), at(0, far+1), at(0, far-4)),
	}
	for _, kind := range []int{0, 4, 5, -1, -2, 1<<32 + 1, 1<<32 + 2, math.MaxInt, math.MinInt} {
		list = append(list, edgeOf(kind, o, at(9, 9), o), edgeOf(kind, right, top, o), edgeOf(kind, top, right, o), edgeOf(kind, right, right, o))
	}
	for _, n := range []int{far + 1, -far - 1, 2 * far, 1 << 32, -1 << 32, 1<<62 + 5, math.MaxInt, math.MinInt} {
		for _, p := range []api.Point{at(n, 0), at(0, n), at(n, n)} {
			list = append(list, between(o, p), between(p, right), between(p, p), edgeOf(api.EdgeLeft, p, top, o), edgeOf(api.EdgeLeft, right, p, o), edgeOf(api.EdgeLeft, right, top, p))
		}
		list = append(list, quarters(n, 0, 5)...)
		list = append(list, quarters(0, n, 5)...)
		list = append(list, quarters(0, 0, n)...)
	}
	return list
}

// mustMeet reports an error unless a and b have so many points in common, whichever is named first.
func mustMeet(t *testing.T, a, b api.Edge, want int) {
	t.Helper()
	if got, turned := meet.Count(a, b), meet.Count(b, a); got != want || turned != want {
		t.Errorf("Count of %v and %v: %d, and %d in the other order, not %d", a, b, got, turned, want)
	}
	if got, turned := meet.Edges(a, b), meet.Edges(b, a); got != (want != 0) || turned != (want != 0) {
		t.Errorf("Edges of %v and %v: %v, and %v in the other order, with the Count %d", a, b, got, turned, want)
	}
}

// mustAgree reports an error unless Count and Edges say of a and b what measuring them says, and returns what that is.
func mustAgree(t *testing.T, a, b api.Edge) int {
	t.Helper()
	want := measured(a, b)
	mustMeet(t, a, b, want)
	return want
}

// precision is how many bits the measures have that the answers are checked against. Those that are not 0 are at least 2^-apart: each is a number with one root, the product of which with its conjugate is a fraction with a known denominator.
const (
	precision = 900
	apart     = 400
)

// float returns n with many bits.
func float(n int) *big.Float { return new(big.Float).SetPrec(precision).SetInt64(int64(n)) }

func plus(f, g *big.Float) *big.Float  { return new(big.Float).Add(f, g) }
func minus(f, g *big.Float) *big.Float { return new(big.Float).Sub(f, g) }
func times(f, g *big.Float) *big.Float { return new(big.Float).Mul(f, g) }
func over(f, g *big.Float) *big.Float  { return new(big.Float).Quo(f, g) }
func root(f *big.Float) *big.Float     { return new(big.Float).Sqrt(f) }

// signum returns the sign of f, where one that is too close to 0 to be anything else is 0.
func signum(f *big.Float) int {
	if f.Sign() == 0 || f.MantExp(nil) < -apart {
		return 0
	}
	return f.Sign()
}

// vector is a point, or a vector, with many bits.
type vector struct{ x, y *big.Float }

// from returns the vector from a to b.
func from(a, b api.Point) vector { return vector{float(b.X - a.X), float(b.Y - a.Y)} }

func (v vector) plus(w vector) vector       { return vector{plus(v.x, w.x), plus(v.y, w.y)} }
func (v vector) minus(w vector) vector      { return vector{minus(v.x, w.x), minus(v.y, w.y)} }
func (v vector) times(f *big.Float) vector  { return vector{times(v.x, f), times(v.y, f)} }
func (v vector) dot(w vector) *big.Float    { return plus(times(v.x, w.x), times(v.y, w.y)) }
func (v vector) cross(w vector) *big.Float  { return minus(times(v.x, w.y), times(v.y, w.x)) }
func (v vector) turned() vector             { return vector{new(big.Float).Neg(v.y), v.x} }
func (v vector) length() *big.Float         { return root(v.dot(v)) }
func (v vector) along(w vector) *big.Float  { return over(v.dot(w), w.length()) }
func (v vector) beside(w vector) *big.Float { return over(w.cross(v), w.length()) }

// lies reports whether p is a point of a right edge: of a line, if it is an end or sees the ends in opposite directions; of an arc, if it has the distance of the ends from the centre, and is not more than a quarter away from both.
func lies(e api.Edge, p vector) bool {
	o := at(0, 0)
	if e.Kind == api.EdgeLine {
		a, b, d := p.minus(from(o, e.A)), p.minus(from(o, e.B)), from(e.A, e.B)
		if e.A == e.B {
			return signum(a.dot(a)) == 0
		}
		return signum(a.cross(d)) == 0 && signum(a.dot(d)) >= 0 && signum(b.dot(d)) <= 0
	}
	v, a, b := p.minus(from(o, e.C)), from(e.C, e.A), from(e.C, e.B)
	return signum(minus(v.dot(v), a.dot(a))) == 0 && signum(v.dot(a)) >= 0 && signum(v.dot(b)) >= 0
}

// measured returns what Count must return for two right edges.
func measured(a, b api.Edge) int {
	o := at(0, 0)
	switch {
	case a.A == a.B:
		return lone(b, from(o, a.A))
	case b.A == b.B:
		return lone(a, from(o, b.A))
	case a.Kind == api.EdgeLine && b.Kind == api.EdgeLine:
		return measuredLines(a, b)
	case a.Kind != api.EdgeLine && b.Kind != api.EdgeLine:
		return measuredArcs(a, b)
	case a.Kind == api.EdgeLine:
		a, b = b, a
	}
	v, d := from(b.A, a.C), from(b.A, b.B) // from the line to the arc
	foot := from(o, b.A).plus(d.times(over(v.along(d), d.length())))
	return pair(a, b, foot, d, v.beside(d))
}

// lone returns 1 if p is a point of e, and 0 otherwise.
func lone(e api.Edge, p vector) int {
	if lies(e, p) {
		return 1
	}
	return 0
}

// pair counts the points of an arc and an edge that lie beside foot, in the direction of way and in the opposite one, where foot is as far from the centre as away says.
func pair(arc, e api.Edge, foot, way vector, away *big.Float) int {
	r := from(arc.C, arc.A)
	square := minus(r.dot(r), times(away, away))
	half := float(0)
	switch signum(square) {
	case -1:
		return 0
	case 1:
		half = over(root(square), way.length())
	}
	first, second := foot.plus(way.times(half)), foot.minus(way.times(half))
	count := 0
	if lies(arc, first) && lies(e, first) {
		count++
	}
	if half.Sign() != 0 && lies(arc, second) && lies(e, second) {
		count++
	}
	return count
}

// measuredLines returns what Count must return for two lines with different ends.
func measuredLines(a, b api.Edge) int {
	d, w := from(a.A, a.B), from(b.A, b.B)
	v := from(a.A, b.A)
	if across := d.cross(w); across.Sign() != 0 {
		p := from(at(0, 0), a.A).plus(d.times(over(v.cross(w), across)))
		if lies(a, p) && lies(b, p) {
			return 1
		}
		return 0
	}
	if v.cross(d).Sign() != 0 {
		return 0
	}
	start, end := v.dot(d), from(a.A, b.B).dot(d) // of b, where a is from 0 to the square of d
	if start.Cmp(end) > 0 {
		start, end = end, start
	}
	switch square := d.dot(d); {
	case end.Sign() < 0 || start.Cmp(square) > 0:
		return 0
	case end.Sign() == 0 || start.Cmp(square) == 0:
		return 1
	}
	return -1
}

// measuredArcs returns what Count must return for two arcs.
func measuredArcs(a, b api.Edge) int {
	r, s, d := from(a.C, a.A), from(b.C, b.A), from(a.C, b.C)
	if a.C != b.C { // by the triangle of both centres and a common point
		away := over(minus(plus(d.dot(d), r.dot(r)), s.dot(s)), times(float(2), d.length()))
		foot := from(at(0, 0), a.C).plus(d.times(over(away, d.length())))
		return pair(a, b, foot, d.turned(), away)
	}
	if r.dot(r).Cmp(s.dot(s)) != 0 {
		return 0
	}
	m, n := r.plus(from(a.C, a.B)), s.plus(from(b.C, b.B)) // to the middles of the arcs
	switch side := m.dot(n).Sign(); {
	case side > 0:
		return -1
	case side == 0:
		return 1
	}
	return 0
}
