package edge_test

import (
	"math"
	"math/big"
	"testing"

	"etchant/api"
)

// far is the greatest coordinate of right points.
const far = 67108864

// at returns a point.
func at(x, y int) api.Point { return api.Point{X: x, Y: y} }

// line returns a line.
func line(x0, y0, x1, y1 int) api.Edge {
	return api.Edge{Kind: api.EdgeLine, A: at(x0, y0), B: at(x1, y1)}
}

// edgeOf returns any edge.
func edgeOf(kind int, a, b, c api.Point) api.Edge { return api.Edge{Kind: kind, A: a, B: b, C: c} }

// quarters returns those of a circle, to the left, beginning at the right.
func quarters(x, y, r int) [4]api.Edge {
	c, right, top, left, bottom := at(x, y), at(x+r, y), at(x, y+r), at(x-r, y), at(x, y-r)
	return [4]api.Edge{
		edgeOf(api.EdgeLeft, right, top, c),
		edgeOf(api.EdgeLeft, top, left, c),
		edgeOf(api.EdgeLeft, left, bottom, c),
		edgeOf(api.EdgeLeft, bottom, right, c),
	}
}

// arcs returns all eight valid arcs of a circle.
func arcs(x, y, r int) []api.Edge {
	c, right, top, left, bottom := at(x, y), at(x+r, y), at(x, y+r), at(x-r, y), at(x, y-r)
	all := quarters(x, y, r)
	return append(all[:],
		edgeOf(api.EdgeRight, top, right, c),
		edgeOf(api.EdgeRight, left, top, c),
		edgeOf(api.EdgeRight, bottom, left, c),
		edgeOf(api.EdgeRight, right, bottom, c),
	)
}

// upTo returns the ints from -n to n.
func upTo(n int) []int {
	var list []int
	for k := -n; k <= n; k++ {
		list = append(list, k)
	}
	return list
}

// grid returns all points with these coordinates.
func grid(coords []int) []api.Point {
	var list []api.Point
	for _, x := range coords {
		for _, y := range coords {
			list = append(list, at(x, y))
		}
	}
	return list
}

// extremes returns ints of many sizes, among them those whose differences and products wrap around.
func extremes() []int {
	return []int{0, 1, -1, far, -far, far + 1, -far - 1, 1 << 32, -1 << 32, 3037000500, 1 << 62, -1 << 62, math.MaxInt, math.MinInt, math.MinInt + 1}
}

// around returns p and the points next to it.
func around(p api.Point) []api.Point {
	var list []api.Point
	for _, d := range grid(upTo(1)) {
		list = append(list, at(p.X+d.X, p.Y+d.Y))
	}
	return list
}

// beside returns p, the points next to it, and those at their heights and below and above them that lie so far out that differences wrap around.
func beside(p api.Point) []api.Point {
	list := around(p)
	for _, q := range list {
		for _, n := range extremes() {
			list = append(list, at(n, q.Y), at(q.X, n), at(q.X+n, q.Y), at(q.X, q.Y+n))
		}
	}
	return list
}

// stretched returns lines that lead from one end of the right points to another one, and from the middle.
func stretched() []api.Edge {
	var list []api.Edge
	ends := grid([]int{-far, 1 - far, -1, 0, far - 1, far})
	for _, a := range ends {
		for _, b := range ends {
			list = append(list, line(a.X, a.Y, b.X, b.Y))
		}
	}
	return list
}

// wide returns arcs of the greatest radii, and their points: for each arc the ends and, for those radii that are 5 k, the two points between with whole coordinates.
func wide() map[api.Edge][]api.Point {
	all := map[api.Edge][]api.Point{}
	for _, r := range []int{2 * far, 2*far - 3, far, far - 4} { // the second one and the last one are 5 k
		k := 0
		if r%5 == 0 {
			k = r / 5
		}
		for _, c := range grid([]int{-far, 0, far}) {
			for _, e := range arcs(c.X, c.Y, r) {
				if !bounded(e.A) || !bounded(e.B) {
					continue
				}
				all[e] = []api.Point{e.A, e.B}
				x, y := e.A.X+e.B.X-2*c.X, e.A.Y+e.B.Y-2*c.Y
				if k > 0 {
					x, y = x/r*k, y/r*k
					all[e] = append(all[e], at(c.X+3*x, c.Y+4*y), at(c.X+4*x, c.Y+3*y))
				}
			}
		}
	}
	return all
}

// bounded reports whether a point is right.
func bounded(p api.Point) bool { return max(p.X, -p.X) <= far && max(p.Y, -p.Y) <= far }

// wrong is an edge that is not valid, with what Check returns for it.
type wrong struct {
	e    api.Edge
	want api.Errno
}

// wrongEdges returns edges that are not valid in one way, or in several.
func wrongEdges() []wrong {
	o, right, top := at(0, 0), at(10, 0), at(0, 10)
	list := []wrong{{api.Edge{}, api.ErrEdge}}
	for _, kind := range []int{0, 4, -1, -2, 5, 1<<32 + 1, 1<<32 + 2, math.MaxInt, math.MinInt} {
		for _, p := range []api.Point{right, at(far+1, 0), at(0, math.MinInt)} {
			list = append(list, wrong{edgeOf(kind, p, top, o), api.ErrEdge}, wrong{edgeOf(kind, o, p, o), api.ErrEdge}, wrong{edgeOf(kind, o, top, p), api.ErrEdge})
		}
	}
	for _, n := range []int{far + 1, -far - 1, 2 * far, 1 << 32, -1 << 32, 1<<62 + 5, math.MaxInt, math.MinInt} {
		for _, p := range []api.Point{at(n, 0), at(0, n), at(n, n)} {
			list = append(list,
				wrong{edgeOf(api.EdgeLine, p, at(3, 10), o), api.ErrPoint},
				wrong{edgeOf(api.EdgeLine, at(3, 10), p, o), api.ErrPoint},
				wrong{edgeOf(api.EdgeLine, o, top, p), api.ErrPoint},
				wrong{edgeOf(api.EdgeLine, p, top, right), api.ErrPoint},
				wrong{edgeOf(api.EdgeLeft, p, top, o), api.ErrPoint},
				wrong{edgeOf(api.EdgeLeft, right, p, o), api.ErrPoint},
				wrong{edgeOf(api.EdgeLeft, right, top, p), api.ErrPoint},
				wrong{edgeOf(api.EdgeRight, top, right, p), api.ErrPoint},
			)
		}
		for _, e := range arcs(n, 0, 10) { // all that fits, beyond the limits
			list = append(list, wrong{e, api.ErrPoint})
		}
	}
	return append(list,
		wrong{edgeOf(api.EdgeLeft, at(far+1, 0), at(far-9, 10), at(far-9, 0)), api.ErrPoint}, // fits, but for one end that is beyond the limits
		wrong{edgeOf(api.EdgeLeft, at(10, far-9), at(0, far+1), at(0, far-9)), api.ErrPoint},
		wrong{edgeOf(api.EdgeRight, at(9-far, -10), at(-far-1, 0), at(9-far, 0)), api.ErrPoint},
		wrong{edgeOf(api.EdgeRight, at(10, 9-far), at(0, -far-1), at(0, 9-far)), api.ErrPoint},
		wrong{edgeOf(api.EdgeLeft, at(1<<62, 0), at(0, math.MinInt), at(math.MinInt, 0)), api.ErrPoint},
		wrong{edgeOf(api.EdgeLine, o, at(0, far), at(1, 0)), api.ErrEdge}, // lines with centres
		wrong{edgeOf(api.EdgeLine, o, at(10, 5), at(0, -1)), api.ErrEdge},
		wrong{edgeOf(api.EdgeLine, o, at(10, 5), at(-far, far)), api.ErrEdge},
		wrong{edgeOf(api.EdgeLine, at(3, 3), at(3, 8), at(3, 3)), api.ErrEdge},
		wrong{edgeOf(api.EdgeLine, right, top, at(10, 10)), api.ErrEdge},
		wrong{edgeOf(api.EdgeLeft, right, top, at(1, 0)), api.ErrEdge}, // centres that do not fit
		wrong{edgeOf(api.EdgeLeft, right, top, at(0, -1)), api.ErrEdge},
		wrong{edgeOf(api.EdgeLeft, right, top, at(10, 10)), api.ErrEdge},
		wrong{edgeOf(api.EdgeLeft, at(far, 0), at(0, far), at(far, far)), api.ErrEdge},
		wrong{edgeOf(api.EdgeRight, right, top, o), api.ErrEdge}, // the other way around
		wrong{edgeOf(api.EdgeLeft, top, right, o), api.ErrEdge},
		wrong{edgeOf(api.EdgeLeft, right, at(0, -10), o), api.ErrEdge},
		wrong{edgeOf(api.EdgeRight, top, at(-10, 0), o), api.ErrEdge},
		wrong{edgeOf(api.EdgeLeft, right, at(-10, 0), o), api.ErrEdge}, // half of a circle, and none of it
		wrong{edgeOf(api.EdgeRight, top, at(0, -10), o), api.ErrEdge},
		wrong{edgeOf(api.EdgeLeft, right, right, o), api.ErrEdge},
		wrong{edgeOf(api.EdgeLeft, right, at(0, 9), o), api.ErrEdge}, // different distances from the centre
		wrong{edgeOf(api.EdgeLeft, right, at(0, 11), o), api.ErrEdge},
		wrong{edgeOf(api.EdgeLeft, right, at(1, 10), o), api.ErrEdge},
		wrong{edgeOf(api.EdgeRight, top, at(10, 1), o), api.ErrEdge},
		wrong{edgeOf(api.EdgeLeft, o, o, o), api.ErrEdge}, // no radius
		wrong{edgeOf(api.EdgeRight, at(4, 5), at(4, 5), at(4, 5)), api.ErrEdge},
		wrong{edgeOf(api.EdgeLeft, at(6, 8), at(-8, 6), o), api.ErrEdge}, // quarters of circles, but askew
		wrong{edgeOf(api.EdgeRight, at(6, 8), at(8, -6), o), api.ErrEdge},
		wrong{edgeOf(api.EdgeLeft, at(far, far), at(-far, far), o), api.ErrEdge},
		wrong{edgeOf(api.EdgeRight, at(1, 1), at(1, -1), o), api.ErrEdge},
	)
}

// someInts returns n ints that depend only on seed, of all sizes.
func someInts(n int, seed uint64) []int {
	list := make([]int, n)
	for k := range list {
		seed = seed*6364136223846793005 + 1442695040888963407
		size := seed >> 58
		seed = seed*6364136223846793005 + 1442695040888963407
		list[k] = int(seed) >> size
	}
	return list
}

// whole returns a number that does not wrap around.
func whole(n int) *big.Int { return big.NewInt(int64(n)) }

// bigVector is a vector whose coordinates do not wrap around.
type bigVector struct{ x, y *big.Int }

// from returns the vector from a to b.
func from(a, b api.Point) bigVector {
	return bigVector{new(big.Int).Sub(whole(b.X), whole(a.X)), new(big.Int).Sub(whole(b.Y), whole(a.Y))}
}

// dot returns the scalar product.
func (v bigVector) dot(w bigVector) *big.Int {
	return new(big.Int).Add(new(big.Int).Mul(v.x, w.x), new(big.Int).Mul(v.y, w.y))
}

// cross returns the cross product.
func (v bigVector) cross(w bigVector) *big.Int {
	return new(big.Int).Sub(new(big.Int).Mul(v.x, w.y), new(big.Int).Mul(v.y, w.x))
}

// lies reports whether p is a point of a valid edge: of a line, if it sees the ends in opposite directions, or is one; of an arc, if it has the distance of the ends from the centre, and is not more than a quarter away from both.
func lies(e api.Edge, p api.Point) bool {
	if e.Kind == api.EdgeLine {
		a, b := from(p, e.A), from(p, e.B)
		return a.cross(b).Sign() == 0 && a.dot(b).Sign() <= 0
	}
	v, a, b := from(e.C, p), from(e.C, e.A), from(e.C, e.B)
	return v.dot(v).Cmp(a.dot(a)) == 0 && v.dot(a).Sign() >= 0 && v.dot(b).Sign() >= 0
}

// crosses returns what Ray must return for a valid edge.
func crosses(e api.Edge, p api.Point) int {
	way := 0
	switch {
	case e.A.Y <= p.Y && p.Y < e.B.Y:
		way = 1
	case e.B.Y <= p.Y && p.Y < e.A.Y:
		way = -1
	}
	if way == 0 || !rightOf(e, p) {
		return 0
	}
	return way
}

// rightOf reports whether the point of e at the height of p, which is one between its ends, lies strictly to the right of p.
func rightOf(e api.Edge, p api.Point) bool {
	if e.Kind == api.EdgeLine {
		d, up := from(e.A, e.B), from(e.A, p)
		x := new(big.Rat).SetFrac(new(big.Int).Mul(d.x, up.y), d.y)
		return x.Cmp(new(big.Rat).SetInt(up.x)) > 0
	}
	v, a, b := from(e.C, p), from(e.C, e.A), from(e.C, e.B)
	square := new(big.Int).Sub(a.dot(a), new(big.Int).Mul(v.y, v.y))
	root := new(big.Int).Sqrt(square) // rounded down
	if new(big.Int).Add(a.x, b.x).Sign() < 0 {
		return root.Neg(root).Cmp(v.x) > 0 // the least int that is not less than the negative root
	}
	if new(big.Int).Mul(root, root).Cmp(square) < 0 {
		root.Add(root, whole(1))
	}
	return root.Cmp(v.x) > 0 // the least int that is not less than the root
}

// mustBe reports an error unless got is want.
func mustBe[T comparable](t *testing.T, got, want T, what ...any) {
	t.Helper()
	if got != want {
		t.Errorf("%v: %+v, not %+v", what, got, want)
	}
}
