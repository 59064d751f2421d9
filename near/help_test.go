package near_test

import (
	"math"
	"math/big"
	"slices"
	"strconv"
	"testing"

	"etchant/api"
	"etchant/edge"
	"etchant/meet"
	"etchant/near"
	"etchant/root"
	"etchant/vec"
)

// far is the greatest coordinate of right points.
const far = 67108864

// at returns a point.
func at(x, y int) api.Point { return api.Point{X: x, Y: y} }

// line returns a line.
func line(x0, y0, x1, y1 int) api.Edge { return between(at(x0, y0), at(x1, y1)) }

// between returns the line from a to b.
func between(a, b api.Point) api.Edge { return edgeOf(api.EdgeLine, a, b, at(0, 0)) }

// left returns the arc that leads to the left around (x, y).
func left(x0, y0, x1, y1, x, y int) api.Edge {
	return edgeOf(api.EdgeLeft, at(x0, y0), at(x1, y1), at(x, y))
}

// edgeOf returns any edge.
func edgeOf(kind int, a, b, c api.Point) api.Edge { return api.Edge{Kind: kind, A: a, B: b, C: c} }

// quarters returns those of a circle, to the left, beginning at the right.
func quarters(x, y, r int) []api.Edge {
	return []api.Edge{
		left(x+r, y, x, y+r, x, y),
		left(x, y+r, x-r, y, x, y),
		left(x-r, y, x, y-r, x, y),
		left(x, y-r, x+r, y, x, y),
	}
}

// arcs returns the quarters of a circle in both directions.
func arcs(x, y, r int) []api.Edge {
	list := quarters(x, y, r)
	for _, e := range quarters(x, y, r) {
		list = append(list, edge.Reverse(e))
	}
	return list
}

// end, foot and round return the spots of an end, of a point inside of a line, and of a point of an arc.
func end(x, y int) api.Spot                  { return api.Spot{At: at(x, y), Q: 1} }
func foot(a, d api.Point, p, q int) api.Spot { return api.Spot{At: a, Dir: d, P: p, Q: q} }
func round(c, d api.Point, r int) api.Spot   { return api.Spot{At: c, Dir: d, Len: r} }

// upTo returns the ints from -n to n.
func upTo(n int) []int {
	var list []int
	for k := -n; k <= n; k++ {
		list = append(list, k)
	}
	return list
}

// grid returns all points with these coordinates.
func grid(coords []int) []api.Point {
	var list []api.Point
	for _, x := range coords {
		for _, y := range coords {
			list = append(list, at(x, y))
		}
	}
	return list
}

// around returns p and the points next to it.
func around(p api.Point) []api.Point {
	var list []api.Point
	for _, d := range grid(upTo(1)) {
		list = append(list, vec.Add(p, d))
	}
	return list
}

// scaled returns p, k times as far from the origin.
func scaled(p api.Point, k int) api.Point { return at(p.X*k, p.Y*k) }

// bounded reports whether p is right.
func bounded(p api.Point) bool { return max(p.X, -p.X) <= far && max(p.Y, -p.Y) <= far }

// stretched returns lines that lead from one end of the right points to another one, and from the middle.
func stretched() []api.Edge {
	var list []api.Edge
	ends := grid([]int{-far, 1 - far, -1, 0, far - 1, far})
	for _, a := range ends {
		for _, b := range ends {
			list = append(list, between(a, b))
		}
	}
	return list
}

// wide returns arcs of great radii, the greatest one among them.
func wide() []api.Edge {
	var list []api.Edge
	for _, r := range []int{2 * far, 2*far - 3, far, far - 4, 1 << 20} {
		for _, c := range grid([]int{-far, 1 - far, 0, far}) {
			for k, e := range arcs(c.X, c.Y, r) {
				if bounded(e.A) && bounded(e.B) && k%3 > 0 {
					list = append(list, e)
				}
			}
		}
	}
	return list
}

// someInts returns n ints from -size to size that depend only on seed.
func someInts(n, size int, seed uint64) []int {
	list := make([]int, n)
	for k := range list {
		seed = seed*6364136223846793005 + 1442695040888963407
		list[k] = int(seed>>20)%(2*size+1) - size
	}
	return list
}

// someEdge returns a line or an arc with coordinates up to three times size, as n says, which has 4 elements.
func someEdge(n []int, arc bool) api.Edge {
	if !arc {
		return line(n[0], n[1], n[2], n[3])
	}
	return arcs(n[0], n[1], max(n[2], -n[2])+1)[n[3]&7]
}

// someEdges returns right edges of all directions, some of which meet, and among which are single points.
func someEdges() []api.Edge {
	list := append(arcs(0, 0, 5), quarters(30, 4, 7)...)
	list = append(list, quarters(6, 8, 20)...)
	list = append(list, arcs(-1, -2, 1)[2:6]...)
	for _, p := range []api.Point{at(0, 0), at(4, 0), at(0, 4), at(6, 3), at(-6, 4), at(-2, -8), at(15, -15)} {
		list = append(list, between(at(13, 4), vec.Add(p, at(13, 4))), between(vec.Sub(p, at(9, 0)), at(-9, 0)))
	}
	return append(list, between(at(-3, -3), at(-3, -3)), between(at(1, 2), at(1, 2)))
}

// wrongEdges returns edges that are not right in one way, or in several.
func wrongEdges() []api.Edge {
	o, right, top := at(0, 0), at(5, 0), at(0, 5)
	list := []api.Edge{
		{},
		edgeOf(api.EdgeLine, o, at(9, 9), at(1, 0)), // lines with centres
		edgeOf(api.EdgeLine, right, right, right),
		edgeOf(api.EdgeLeft, right, top, at(1, 0)), // centres that do not fit
		edgeOf(api.EdgeLeft, right, top, at(5, 5)),
		edgeOf(api.EdgeRight, right, top, o), // the other way around
		edgeOf(api.EdgeLeft, top, right, o),
		edgeOf(api.EdgeLeft, right, at(-5, 0), o), // half of a circle, all and none of it
		edgeOf(api.EdgeLeft, right, right, o),
		edgeOf(api.EdgeLeft, right, right, right),
		edgeOf(api.EdgeLeft, right, at(0, 6), o),     // different distances from the centre
		edgeOf(api.EdgeLeft, at(4, 3), at(-3, 4), o), // a quarter, but askew
		edgeOf(api.EdgeLeft, at(far+1, 0), at(far-4, 5), at(far-4, 0)),
		edgeOf(api.EdgeRight, at(5, far-4), at(0, far+1), at(0, far-4)),
	}
	for _, kind := range []int{0, 4, -1, 1<<32 + 1, math.MaxInt, math.MinInt} {
		list = append(list, edgeOf(kind, o, at(9, 9), o), edgeOf(kind, right, top, o), edgeOf(kind, top, right, o))
	}
	for _, n := range []int{far + 1, -far - 1, 1 << 32, math.MaxInt, math.MinInt} {
		for _, p := range []api.Point{at(n, 0), at(0, n), at(n, n)} {
			list = append(list, between(o, p), between(p, right), between(p, p), edgeOf(api.EdgeLeft, p, top, o), edgeOf(api.EdgeLeft, right, p, o), edgeOf(api.EdgeLeft, right, top, p))
		}
		list = append(list, quarters(n, 0, 5)...)
		list = append(list, quarters(0, 0, n)...)
	}
	return list
}

// wrongPoints returns points that are not right.
func wrongPoints() []api.Point {
	var list []api.Point
	for _, n := range []int{far + 1, -far - 1, 1 << 32, math.MaxInt, math.MinInt} {
		list = append(list, at(n, 0), at(0, n), at(n, n), at(far, n))
	}
	return list
}

// isZero reports whether a distance, and all spots, are zero values.
func isZero(dist api.Root, spots ...api.Spot) bool {
	none := dist.Add == 0 && dist.Sign == 0 && !dist.N.Neg && !dist.D.Neg && len(dist.N.D) == 0 && len(dist.D.D) == 0
	return none && !slices.ContainsFunc(spots, func(s api.Spot) bool { return s != api.Spot{} })
}

// precision is how many bits the measures have that the answers are checked against. Two distances that are not equal are at least 2^-apart from each other: the product of their difference with its conjugates is a fraction with a known denominator.
const (
	precision = 900
	apart     = 400
)

// float returns n with many bits.
func float(n int) *big.Float { return new(big.Float).SetPrec(precision).SetInt64(int64(n)) }

func plus(f, g *big.Float) *big.Float  { return new(big.Float).Add(f, g) }
func minus(f, g *big.Float) *big.Float { return new(big.Float).Sub(f, g) }
func times(f, g *big.Float) *big.Float { return new(big.Float).Mul(f, g) }
func over(f, g *big.Float) *big.Float  { return new(big.Float).Quo(f, g) }

// rat returns f, which is a whole number, as a fraction.
func rat(f *big.Float) *big.Rat {
	n, _ := f.Rat(nil)
	return n
}

// signum returns the sign of f, where one that is too close to 0 to be anything else is 0.
func signum(f *big.Float) int {
	if f.Sign() == 0 || f.MantExp(nil) < -apart {
		return 0
	}
	return f.Sign()
}

// vector is a point, or a vector, with many bits.
type vector struct{ x, y *big.Float }

// from returns the vector from a to b.
func from(a, b api.Point) vector { return vector{float(b.X - a.X), float(b.Y - a.Y)} }

// seen returns p as a vector.
func seen(p api.Point) vector { return from(at(0, 0), p) }

func (v vector) plus(w vector) vector      { return vector{plus(v.x, w.x), plus(v.y, w.y)} }
func (v vector) minus(w vector) vector     { return vector{minus(v.x, w.x), minus(v.y, w.y)} }
func (v vector) times(f *big.Float) vector { return vector{times(v.x, f), times(v.y, f)} }
func (v vector) dot(w vector) *big.Float   { return plus(times(v.x, w.x), times(v.y, w.y)) }
func (v vector) cross(w vector) *big.Float { return minus(times(v.x, w.y), times(v.y, w.x)) }
func (v vector) length() *big.Float        { return new(big.Float).Sqrt(v.dot(v)) }

// place returns where a spot is.
func place(s api.Spot) vector {
	if s.Len == 0 {
		return seen(s.At).plus(seen(s.Dir).times(over(float(s.P), float(s.Q))))
	}
	d := seen(s.Dir)
	return seen(s.At).plus(d.times(over(float(s.Len), d.length())))
}

// lies reports whether p is a point of a right edge: of a line, if it is an end or sees the ends in opposite directions; of an arc, if it has the distance of the ends from the centre, and is not more than a quarter away from both.
func lies(e api.Edge, p vector) bool {
	if e.Kind == api.EdgeLine {
		a, b, d := p.minus(seen(e.A)), p.minus(seen(e.B)), from(e.A, e.B)
		if e.A == e.B {
			return signum(a.dot(a)) == 0
		}
		return signum(a.cross(d)) == 0 && signum(a.dot(d)) >= 0 && signum(b.dot(d)) <= 0
	}
	v, a, b := p.minus(seen(e.C)), from(e.C, e.A), from(e.C, e.B)
	return signum(minus(v.dot(v), a.dot(a))) == 0 && signum(v.dot(a)) >= 0 && signum(v.dot(b)) >= 0
}

// value returns the number that a right root stands for.
func value(r api.Root) *big.Float {
	digits := func(n api.Num) *big.Float {
		total := float(0)
		for _, d := range slices.Backward(n.D) {
			total = plus(times(total, float(1<<32)), float(int(d)))
		}
		return total
	}
	return plus(float(r.Add), times(float(r.Sign), new(big.Float).Sqrt(over(digits(r.N), digits(r.D)))))
}

// answer is two points that may be the nearest ones, or one of them: their distance is add + sign √under.
type answer struct {
	way       string // how it was found, for tallies
	add, sign int
	under     *big.Rat
	a, b      api.Spot
}

// text returns what root.Text returns for the distance.
func (n answer) text() string {
	shown := strconv.Itoa(n.add)
	switch {
	case n.under.Sign() == 0:
		return shown
	case n.sign < 0:
		return shown + "-r" + n.under.RatString()
	}
	return shown + "+r" + n.under.RatString()
}

// distance returns the distance with many bits.
func (n answer) distance() *big.Float {
	under := new(big.Float).SetPrec(precision).SetRat(n.under)
	return plus(float(n.add), times(float(n.sign), under.Sqrt(under)))
}

// reach returns the radius of an arc.
func reach(e api.Edge) int {
	a := vec.Sub(e.A, e.C)
	return max(a.X, -a.X) + max(a.Y, -a.Y)
}

// toward reports whether an arc crosses what leads in the direction v from its centre: it is less than a quarter away from both ends, or from one of them, and a quarter from the other one.
func toward(e api.Edge, v vector) bool {
	a, b := v.dot(from(e.C, e.A)).Sign(), v.dot(from(e.C, e.B)).Sign()
	return a >= 0 && b >= 0 && a+b > 0
}

// measuredPoint returns what Point must return for a right edge and a right point, with the spot as a.
func measuredPoint(e api.Edge, p api.Point) answer {
	a, b, d := from(e.A, p), from(e.B, p), from(e.A, e.B)
	first, second := rat(a.dot(a)), rat(b.dot(b))
	switch {
	case e.Kind == api.EdgeLine && a.dot(d).Sign() > 0 && b.dot(d).Sign() < 0:
		square, beside := rat(d.dot(d)), rat(times(a.cross(d), a.cross(d)))
		along, _ := a.dot(d).Int64()
		length, _ := d.dot(d).Int64()
		return answer{"foot", 0, 1, beside.Quo(beside, square), foot(e.A, vec.Sub(e.B, e.A), int(along), int(length)), api.Spot{}}
	case e.Kind != api.EdgeLine && toward(e, from(e.C, p)):
		r, v := reach(e), from(e.C, p)
		spot := round(e.C, vec.Sub(p, e.C), r)
		if v.dot(v).Cmp(float(r*r)) < 0 {
			return answer{"inside", r, -1, rat(v.dot(v)), spot, api.Spot{}}
		}
		return answer{"outside", -r, 1, rat(v.dot(v)), spot, api.Spot{}}
	case first.Cmp(second) <= 0:
		return answer{"first end", 0, 1, first, end(e.A.X, e.A.Y), api.Spot{}}
	}
	return answer{"second end", 0, 1, second, end(e.B.X, e.B.Y), api.Spot{}}
}

// measuredEdges returns what Edges must return for two right edges that do not meet: the first one of the nearest pairs, among those with an end and some others.
func measuredEdges(a, b api.Edge) answer {
	var list []answer
	for k, p := range []api.Point{a.A, a.B, b.A, b.B} {
		if k < 2 {
			n := measuredPoint(b, p)
			n.a, n.b = end(p.X, p.Y), n.a
			list = append(list, n)
			continue
		}
		n := measuredPoint(a, p)
		n.b = end(p.X, p.Y)
		list = append(list, n)
	}
	switch lineA, lineB := a.Kind == api.EdgeLine, b.Kind == api.EdgeLine; {
	case lineA && lineB:
	case lineA:
		list = append(list, perpendiculars(a, b)...)
	case lineB:
		for _, n := range perpendiculars(b, a) {
			n.a, n.b = n.b, n.a
			list = append(list, n)
		}
	default:
		list = append(list, throughCentres(a, b)...)
	}
	best := list[0]
	for _, n := range list[1:] {
		if signum(minus(n.distance(), best.distance())) < 0 {
			best = n
		}
	}
	return best
}

// perpendiculars returns the pairs of the foot of the centre of an arc on a line, and the points of the arc before and behind the centre.
func perpendiculars(e, arc api.Edge) []answer {
	n := measuredPoint(e, arc.C)
	if n.way != "foot" || n.under.Sign() == 0 {
		return nil
	}
	d := vec.Sub(e.B, e.A)
	var list []answer
	for _, way := range []api.Point{at(-d.Y, d.X), at(d.Y, -d.X)} {
		if !toward(arc, seen(way)) {
			continue
		}
		r := reach(arc)
		same := place(n.a).minus(seen(arc.C)).dot(seen(way)).Sign() > 0
		n.way, n.add, n.sign = "past the centre", r, 1
		if same {
			n.way, n.add = "before", -r
			if n.distance().Sign() < 0 {
				n.way, n.add, n.sign = "before, from inside", r, -1
			}
		}
		n.b = round(arc.C, way, r)
		list = append(list, n)
	}
	return list
}

// throughCentres returns the pairs of points that two arcs have on the line through both centres.
func throughCentres(a, b api.Edge) []answer {
	var list []answer
	ahead := vec.Sub(b.C, a.C)
	for _, k := range []int{1, -1} {
		for _, m := range []int{1, -1} {
			if ahead == at(0, 0) || !toward(a, seen(scaled(ahead, k))) || !toward(b, seen(scaled(ahead, m))) {
				continue
			}
			n := answer{"apart", m*reach(b) - k*reach(a), 1, rat(float(vec.Dot(ahead, ahead))), round(a.C, scaled(ahead, k), reach(a)), round(b.C, scaled(ahead, m), reach(b))}
			if n.distance().Sign() < 0 {
				n.way, n.add, n.sign = []string{"around the second", "", "around the first"}[k+1], -n.add, -1
			}
			list = append(list, n)
		}
	}
	return list
}

// mustPoint reports an error unless Point says of e and p what measuring them says, and returns how that was found.
func mustPoint(t *testing.T, e api.Edge, p api.Point) string {
	t.Helper()
	want := measuredPoint(e, p)
	dist, spot := near.Point(e, p)
	if !root.Right(dist) || root.Text(dist) != want.text() || spot != want.a {
		t.Errorf("Point of %v and %v: %s, %v, not %s, %v", e, p, root.Text(dist), spot, want.text(), want.a)
	}
	return want.way
}

// mustEdges reports an error unless Edges says of a and b what measuring them says, and returns how that was found.
func mustEdges(t *testing.T, a, b api.Edge) string {
	t.Helper()
	dist, s, u := near.Edges(a, b)
	if meet.Edges(a, b) {
		if !isZero(dist, s, u) {
			t.Errorf("Edges of %v and %v, which meet: %v, %v, %v", a, b, dist, s, u)
		}
		return "meet"
	}
	want := measuredEdges(a, b)
	if !root.Right(dist) || root.Text(dist) != want.text() || s != want.a || u != want.b {
		t.Errorf("Edges of %v and %v: %s, %v, %v, not %s, %v, %v (%s)", a, b, root.Text(dist), s, u, want.text(), want.a, want.b, want.way)
	}
	return want.way
}

// tally counts what was found in each way.
type tally map[string]int

// mustHave reports an error unless what was found in each of these ways was found at least so often.
func (n tally) mustHave(t *testing.T, least int, ways ...string) {
	t.Helper()
	for _, way := range ways {
		if n[way] < least {
			t.Errorf("%s: only %d times", way, n[way])
		}
	}
}
