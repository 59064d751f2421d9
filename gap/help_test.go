package gap_test

import (
	"math"
	"math/big"
	"slices"
	"strconv"
	"testing"

	"etchant/api"
	"etchant/edge"
	"etchant/gap"
	"etchant/meet"
	"etchant/near"
	"etchant/num"
	"etchant/root"
	"etchant/shape"
	"etchant/vec"
)

// far is the greatest coordinate of right points, thick the greatest R of paths.
const (
	far   = 67108864
	thick = 4194304
)

// at returns a point.
func at(x, y int) api.Point { return api.Point{X: x, Y: y} }

// line returns a line.
func line(x0, y0, x1, y1 int) api.Edge { return between(at(x0, y0), at(x1, y1)) }

// between returns the line from a to b.
func between(a, b api.Point) api.Edge { return edgeOf(api.EdgeLine, a, b, at(0, 0)) }

// edgeOf returns any edge.
func edgeOf(kind int, a, b, c api.Point) api.Edge { return api.Edge{Kind: kind, A: a, B: b, C: c} }

// quarters returns those of a circle, to the left, beginning at the right.
func quarters(x, y, r int) []api.Edge {
	c, right, top, left, bottom := at(x, y), at(x+r, y), at(x, y+r), at(x-r, y), at(x, y-r)
	return []api.Edge{
		edgeOf(api.EdgeLeft, right, top, c),
		edgeOf(api.EdgeLeft, top, left, c),
		edgeOf(api.EdgeLeft, left, bottom, c),
		edgeOf(api.EdgeLeft, bottom, right, c),
	}
}

// arcs returns the quarters of a circle in both directions.
func arcs(x, y, r int) []api.Edge {
	list := quarters(x, y, r)
	for _, e := range quarters(x, y, r) {
		list = append(list, edge.Reverse(e))
	}
	return list
}

// reversed returns a chain that leads back.
func reversed(edges []api.Edge) []api.Edge {
	var list []api.Edge
	for _, e := range slices.Backward(edges) {
		list = append(list, edge.Reverse(e))
	}
	return list
}

// lines returns those from each of the points to the next one.
func lines(points ...api.Point) []api.Edge {
	var list []api.Edge
	for k := range points[1:] {
		list = append(list, between(points[k], points[k+1]))
	}
	return list
}

// dots returns n lines that lead from (1, 1) to (1, 1).
func dots(n int) []api.Edge { return slices.Repeat([]api.Edge{line(1, 1, 1, 1)}, n) }

// path, area, disc, dot, rect and circle return shapes.
func path(r int, edges ...api.Edge) api.Shape {
	return api.Shape{Kind: api.ShPath, Edges: edges, R: r}
}
func area(edges ...api.Edge) api.Shape { return api.Shape{Kind: api.ShArea, Edges: edges} }
func disc(x, y, r int) api.Shape       { return shape.Disc(at(x, y), r) }
func dot(p api.Point) api.Shape        { return shape.Disc(p, 0) }
func rect(x0, y0, x1, y1 int) api.Shape {
	return shape.Rect(api.Rect{X0: x0, Y0: y0, X1: x1, Y1: y1})
}
func circle(x, y, r int) api.Shape { return area(quarters(x, y, r)...) }

// ring returns the area between two circles, and a line that leads from one of them to the other.
func ring(x, y, inner, outer int) api.Shape {
	return area(slices.Concat(quarters(x, y, outer), lines(at(x+outer, y), at(x+inner, y)), reversed(quarters(x, y, inner)), lines(at(x+inner, y), at(x+outer, y)))...)
}

// stairs returns the path of n lines from (x, y), up and to the right.
func stairs(n, x, y, step, r int) api.Shape {
	var list []api.Edge
	for k := range n {
		d := at(step, 0)
		if k%2 > 0 {
			d = at(0, step)
		}
		list = append(list, between(at(x, y), vec.Add(at(x, y), d)))
		x, y = x+d.X, y+d.Y
	}
	return path(r, list...)
}

// upTo returns the ints from -n to n.
func upTo(n int) []int {
	var list []int
	for k := -n; k <= n; k++ {
		list = append(list, k)
	}
	return list
}

// grid returns all points with these coordinates.
func grid(coords []int) []api.Point {
	var list []api.Point
	for _, x := range coords {
		for _, y := range coords {
			list = append(list, at(x, y))
		}
	}
	return list
}

// needs returns ints of all sizes.
func needs() []int {
	return []int{math.MinInt, math.MinInt + 1, -far, -12, -6, -5, -4, -3, -1, 0, 1, 2, 3, 4, 5, 10, far, 1 << 32, math.MaxInt - 1, math.MaxInt}
}

// dice returns ints that depend only on its seed.
type dice uint64

// upTo returns the next int, from -n to n.
func (d *dice) upTo(n int) int {
	*d = *d*6364136223846793005 + 1442695040888963407
	return int(*d>>20)%(2*n+1) - n
}

// any returns the next int, of any size.
func (d *dice) any() int {
	size := d.upTo(31) + 31
	return int(uint64(d.upTo(math.MaxInt32))<<32+uint64(d.upTo(math.MaxInt32))) >> size
}

// somePoint returns a point at most size away from c, in X and in Y.
func somePoint(c api.Point, size int, d *dice) api.Point {
	return at(c.X+d.upTo(size), c.Y+d.upTo(size))
}

// someLines returns a chain of n lines around c, which is closed or not.
func someLines(n int, c api.Point, size int, closed bool, d *dice) []api.Edge {
	var list []api.Point
	for range n + 1 {
		list = append(list, somePoint(c, size, d))
	}
	if closed {
		list[n] = list[0]
	}
	return lines(list...)
}

// withArcs returns the edges of a chain, with an arc and a line before some of them, the arc of which is as long as the edge, or less.
func withArcs(edges []api.Edge, d *dice) []api.Edge {
	var list []api.Edge
	for _, e := range edges {
		way := vec.Sub(e.B, e.A)
		size := min(max(way.X, -way.X), max(way.Y, -way.Y))
		if d.upTo(1) > 0 && size > 0 {
			arc := arcs(0, 0, size)[d.upTo(3)+3]
			arc = edge.Move(arc, api.Motion{At: vec.Sub(e.A, arc.A)})
			list = append(list, arc)
			e = between(arc.B, e.B)
		}
		list = append(list, e)
	}
	return list
}

// someShape returns a right shape around c, with at most n edges.
func someShape(n int, c api.Point, size int, d *dice) api.Shape {
	closed := d.upTo(1) > 0
	edges := someLines((n+d.upTo(n))/4+1, c, size, closed, d)
	if d.upTo(1) >= 0 {
		edges = withArcs(edges, d)
	}
	if closed && len(edges) > 1 {
		return area(edges...)
	}
	return path((size+d.upTo(size))/4, edges...)
}

// someShapes returns right shapes of many forms, some of which meet, and among which are single points, and shapes around others.
func someShapes() []api.Shape {
	star := area(lines(at(0, 0), at(10, 10), at(10, 0), at(0, 10), at(0, 0))...)
	bow := path(2, line(0, 0, 10, 0), edgeOf(api.EdgeLeft, at(10, 0), at(15, 5), at(10, 5)))
	wedge := area(quarters(0, 0, 5)[0], line(0, 5, 0, 0), line(0, 0, 5, 0))
	list := []api.Shape{
		star, bow, wedge, disc(0, 0, 2), disc(6, 8, 3), disc(20, -9, 0), disc(-30, 11, 30), rect(0, 0, 4, 4), rect(1, 1, 2, 2), rect(-40, -40, 40, 40),
		circle(0, 0, 5), circle(0, 0, 4), circle(13, 1, 7), ring(0, 0, 20, 30), ring(1, 2, 3, 9), stairs(9, -20, -20, 4, 0), stairs(40, 9, -9, 1, 5),
		path(3, line(-3, 4, 40, 9)), path(0, line(-3, 4, 40, 9)), path(1, quarters(30, 0, 11)[1]), area(line(7, 7, 9, 12), line(9, 12, 7, 7)), area(dots(2)...),
		path(5, quarters(-3, -5, 29)...), path(0, quarters(2, 2, 2)...),
	}
	for k, s := range list[:12] {
		list = append(list, shape.Move(s, api.Motion{At: at(9*k-50, 60-4*k), Turn: k, Mirror: k%2 > 0}))
	}
	return list
}

// wideShapes returns right shapes of the greatest coordinates and radii.
func wideShapes() []api.Shape {
	list := []api.Shape{
		rect(-far, -far, far, far), rect(far-1, -far, far, 5), path(thick, line(-far, -far, far, far)), path(thick, line(-far, far, far, -far+1)), path(0, line(-far, -far, far-2, far-1)),
		circle(0, 0, far), circle(far-9, 0, 9), path(thick, quarters(-far, -far, 2*far)[0]), path(1, quarters(far, far, 2*far-3)[2]), disc(far, far, thick), disc(-far, far, 0), disc(5, far, thick-1),
		ring(0, 0, far-4, far), stairs(40, -far, far-20*999999, 999999, thick), path(7, line(far, -far, far, -far)),
	}
	return list
}

// wrongEdges returns edges that are not right in one way, or in several.
func wrongEdges() []api.Edge {
	o, right, top := at(0, 0), at(5, 0), at(0, 5)
	list := []api.Edge{
		{},
		edgeOf(api.EdgeLine, o, at(9, 9), at(1, 0)), // a line with a centre
		edgeOf(api.EdgeLeft, right, top, at(1, 0)),  // a centre that does not fit
		edgeOf(api.EdgeRight, right, top, o),        // the other way around
		edgeOf(api.EdgeLeft, right, at(-5, 0), o),   // half of a circle
		edgeOf(api.EdgeLeft, at(far+1, 0), at(far-4, 5), at(far-4, 0)),
	}
	for _, kind := range []int{0, 4, -1, math.MaxInt, math.MinInt} {
		list = append(list, edgeOf(kind, o, at(9, 9), o), edgeOf(kind, right, top, o))
	}
	for _, n := range []int{far + 1, -far - 1, math.MaxInt, math.MinInt} {
		for _, p := range []api.Point{at(n, 0), at(0, n)} {
			list = append(list, between(o, p), between(p, right), between(p, p), edgeOf(api.EdgeLeft, p, top, o), edgeOf(api.EdgeRight, right, p, o))
		}
	}
	return list
}

// wrongShapes returns shapes that are not right in one way, or in several.
func wrongShapes() []api.Shape {
	square := rect(0, 0, 9, 9).Edges
	list := []api.Shape{
		{},
		{Kind: api.ShPath},
		{Kind: api.ShArea},
		{Edges: square},
		{Kind: 3, Edges: square},
		{Kind: -1, Edges: square},
		{Kind: api.ShPath, Edges: []api.Edge{}, R: 3},
		{Kind: api.ShArea, Edges: square, R: 1},
		{Kind: api.ShArea, Edges: square, R: -1},
		path(-1, square...),
		path(thick+1, square...),
		path(math.MaxInt, square...),
		path(math.MinInt, square...),
		area(square[:3]...), // open
		area(square[0]),
		area(line(0, 0, 0, 0)),
		path(1, square[0], square[2]),
		path(1, dots(41)...),
		area(dots(41)...),
		path(2, dots(100000)...),
	}
	for _, e := range wrongEdges() {
		list = append(list, path(9, e), area(e, edge.Reverse(e)), path(9, append(dots(1), e)...))
	}
	return list
}

// anyShape returns a shape that need not be right in any way.
func anyShape(d *dice) api.Shape {
	s := api.Shape{Kind: d.upTo(2) + 1, R: d.any()}
	for range d.upTo(3) + 3 {
		s.Edges = append(s.Edges, edgeOf(d.upTo(2)+2, at(d.any(), d.any()), at(d.any(), d.any()), at(d.any(), d.any())))
	}
	return s
}

// whole returns the root that stands for n.
func whole(n int) api.Root { return rooted(n, 0, 1) }

// rooted returns add + √(n/d).
func rooted(add, n, d int) api.Root {
	r, _ := root.Of(add, min(n, 1), num.Of(n), num.Of(d))
	return r
}

// end and foot return the spots of an end, and of a point inside of a line.
func end(x, y int) api.Spot                  { return api.Spot{At: at(x, y), Q: 1} }
func foot(a, d api.Point, p, q int) api.Spot { return api.Spot{At: a, Dir: d, P: p, Q: q} }

// defined returns what P10.1 says of two right shapes, word by word.
func defined(a, b api.Shape) api.Gap {
	met, best := false, api.Gap{}
	for _, x := range a.Edges {
		for _, y := range b.Edges {
			if meet.Edges(x, y) {
				met = true
				continue
			}
			dist, p, q := near.Edges(x, y)
			if !root.Right(best.Dist) || root.Cmp(dist, best.Dist) < 0 {
				best = api.Gap{Dist: dist, A: p, B: q}
			}
		}
	}
	if met || a.Kind == api.ShArea && shape.Inside(a, b.Edges[0].A) || b.Kind == api.ShArea && shape.Inside(b, a.Edges[0].A) {
		return api.Gap{Meet: true, Dist: whole(-a.R - b.R)}
	}
	best.Dist, _ = root.Plus(best.Dist, -a.R-b.R)
	return best
}

// bigOf and what follows compute with numbers that do not wrap around.
func bigOf(n int) *big.Int                    { return big.NewInt(int64(n)) }
func plus(n, m *big.Int) *big.Int             { return new(big.Int).Add(n, m) }
func minus(n, m *big.Int) *big.Int            { return new(big.Int).Sub(n, m) }
func times(n, m *big.Int) *big.Int            { return new(big.Int).Mul(n, m) }
func fraction(n, d *big.Int) *big.Rat         { return new(big.Rat).SetFrac(n, d) }
func dotted(ax, ay, bx, by *big.Int) *big.Int { return plus(times(ax, bx), times(ay, by)) }
func crossed(a, b, c api.Point) *big.Int {
	return minus(times(bigOf(b.X-a.X), bigOf(c.Y-a.Y)), times(bigOf(b.Y-a.Y), bigOf(c.X-a.X)))
}

// fromLine returns the square of the distance of p from the nearest point of a line.
func fromLine(e api.Edge, p api.Point) *big.Rat {
	dx, dy, px, py := bigOf(e.B.X-e.A.X), bigOf(e.B.Y-e.A.Y), bigOf(p.X-e.A.X), bigOf(p.Y-e.A.Y)
	along, square := dotted(dx, dy, px, py), dotted(dx, dy, dx, dy)
	switch {
	case along.Sign() <= 0:
		return fraction(dotted(px, py, px, py), bigOf(1))
	case along.Cmp(square) >= 0:
		qx, qy := bigOf(p.X-e.B.X), bigOf(p.Y-e.B.Y)
		return fraction(dotted(qx, qy, qx, qy), bigOf(1))
	}
	c := crossed(e.A, e.B, p)
	return fraction(times(c, c), square)
}

// apart returns the square of the distance of the nearest points of two lines.
func apart(a, b api.Edge) *big.Rat {
	over := crossed(a.A, a.B, b.A).Sign()*crossed(a.A, a.B, b.B).Sign() < 0
	if over && crossed(b.A, b.B, a.A).Sign()*crossed(b.A, b.B, a.B).Sign() < 0 {
		return new(big.Rat)
	}
	best := fromLine(a, b.A)
	for _, d := range []*big.Rat{fromLine(a, b.B), fromLine(b, a.A), fromLine(b, a.B)} {
		if d.Cmp(best) < 0 {
			best = d
		}
	}
	return best
}

// around reports whether p is a point of the area that lines bound: the lines that cross what lies straight above p lead around it.
func around(edges []api.Edge, p api.Point) bool {
	turns := 0
	for _, e := range edges {
		if fromLine(e, p).Sign() == 0 {
			return true
		}
		side := crossed(e.A, e.B, p).Sign()
		switch {
		case e.B.X <= p.X && p.X < e.A.X && side > 0:
			turns++
		case e.A.X <= p.X && p.X < e.B.X && side < 0:
			turns--
		}
	}
	return turns != 0
}

// measured returns the square of the distance of the lines of two right shapes without arcs, and whether these meet.
func measured(a, b api.Shape) (*big.Rat, bool) {
	best := apart(a.Edges[0], b.Edges[0])
	for _, x := range a.Edges {
		for _, y := range b.Edges {
			if d := apart(x, y); d.Cmp(best) < 0 {
				best = d
			}
		}
	}
	inA := a.Kind == api.ShArea && around(a.Edges, b.Edges[0].A)
	inB := b.Kind == api.ShArea && around(b.Edges, a.Edges[0].A)
	return best, best.Sign() == 0 || inA || inB
}

// textOf returns what root.Text returns for add + √square.
func textOf(add int, square *big.Rat) string {
	if square.Sign() == 0 {
		return strconv.Itoa(add)
	}
	return strconv.Itoa(add) + "+r" + square.RatString()
}

// shown returns a gap as a text.
func shown(g api.Gap) string {
	text := "apart, "
	if g.Meet {
		text = "meet, "
	}
	return text + root.Text(g.Dist) + " at " + spotText(g.A) + " and " + spotText(g.B)
}

// spotText returns a spot as a text.
func spotText(s api.Spot) string {
	text := ""
	for _, n := range []int{s.At.X, s.At.Y, s.Dir.X, s.Dir.Y, s.P, s.Q, s.Len} {
		text += strconv.Itoa(n) + " "
	}
	return text
}

// mustBeGap reports an error unless a call returned the gap that want is, and true.
func mustBeGap(t *testing.T, got api.Gap, ok bool, want api.Gap, what ...any) {
	t.Helper()
	if !ok || !root.Right(got.Dist) || shown(got) != shown(want) {
		t.Errorf("%v: %v, %s, not %s", what, ok, shown(got), shown(want))
	}
}

// mustBeNone reports an error unless a call returned zero values.
func mustBeNone(t *testing.T, got api.Gap, ok bool, what ...any) {
	t.Helper()
	d := got.Dist
	zero := !got.Meet && d.Add == 0 && d.Sign == 0 && !d.N.Neg && !d.D.Neg && len(d.N.D) == 0 && len(d.D.D) == 0 && got.A == api.Spot{} && got.B == api.Spot{}
	if ok || !zero {
		t.Errorf("%v: %v, %v", what, ok, got)
	}
}

// mustBe reports an error unless got is want.
func mustBe[T comparable](t *testing.T, got, want T, what ...any) {
	t.Helper()
	if got != want {
		t.Errorf("%v: %v, not %v", what, got, want)
	}
}

// tally counts what was found in each way.
type tally map[string]int

// mustHave reports an error unless what was found in each of these ways was found at least so often.
func (n tally) mustHave(t *testing.T, least int, ways ...string) {
	t.Helper()
	for _, way := range ways {
		if n[way] < least {
			t.Errorf("%s: only %d times, of %v", way, n[way], n)
		}
	}
}

// mustAgree reports an error unless Touch and Least say of two shapes what their gap says, for needs of all sizes and such as are near to the gap.
func mustAgree(t *testing.T, a, b api.Shape, g api.Gap) {
	t.Helper()
	mustBe(t, gap.Touch(a, b), root.CmpInt(g.Dist, 0) <= 0, "Touch of", a, b)
	low := floor(g.Dist)
	for _, need := range append(needs(), low-1, low, low+1, low+2) {
		mustBe(t, gap.Least(a, b, need), root.CmpInt(g.Dist, need) >= 0, "Least of", a, b, need)
	}
}

// floor returns the greatest int that is not greater than a right root.
func floor(r api.Root) int {
	low, high := -1<<40, 1<<40
	for high-low > 1 {
		if mid := (low + high) / 2; root.CmpInt(r, mid) >= 0 {
			low = mid
		} else {
			high = mid
		}
	}
	return low
}
