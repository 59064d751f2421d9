package edge_test

import (
	"math"
	"slices"
	"sync"
	"testing"

	"etchant/api"
	"etchant/edge"
	"etchant/vec"
)

// someEdges returns valid edges of all directions.
func someEdges() []api.Edge {
	list := append(arcs(0, 0, 5), arcs(3, -2, 13)...)
	list = append(list, arcs(-1, 4, 1)...)
	for _, p := range []api.Point{at(0, 0), at(4, 0), at(0, 4), at(6, 3), at(-6, 4), at(-2, -8), at(5, -5)} {
		list = append(list, line(1, 2, 1+p.X, 2+p.Y), line(p.X, p.Y, 0, 0))
	}
	return list
}

// motions returns motions with all turns, mirrored ones as well as others, to several places.
func motions() []api.Motion {
	var list []api.Motion
	for _, place := range []api.Point{at(0, 0), at(10, -20), at(far-20, 20-far), at(far-2, 0)} {
		for _, turn := range []int{0, 1, 2, 3, -1, 6, math.MinInt, math.MaxInt} {
			list = append(list, api.Motion{At: place, Turn: turn}, api.Motion{At: place, Turn: turn, Mirror: true})
		}
	}
	return list
}

// P6.7

func TestReverseIsItsOwnInverse(t *testing.T) {
	for _, e := range someEdges() {
		mustBe(t, edge.Reverse(edge.Reverse(e)), e, "Reverse of Reverse of", e)
	}
	for _, c := range wrongEdges() {
		mustBe(t, edge.Reverse(edge.Reverse(c.e)), c.e, "Reverse of Reverse of", c.e)
	}
	for seed := range uint64(5000) {
		n := someInts(7, seed)
		for _, kind := range []int{api.EdgeLine, api.EdgeLeft, api.EdgeRight, n[6]} {
			e := edgeOf(kind, at(n[0], n[1]), at(n[2], n[3]), at(n[4], n[5]))
			mustBe(t, edge.Reverse(edge.Reverse(e)), e, "Reverse of Reverse of", e)
		}
	}
}

func TestReverseKeepsPointsAndCheck(t *testing.T) {
	for _, e := range someEdges() {
		back := edge.Reverse(e)
		mustBe(t, edge.Check(back), api.OK, "Check of Reverse of", e)
		mustBe(t, edge.Radius(back), edge.Radius(e), "Radius of Reverse of", e)
		for _, p := range grid(upTo(17)) {
			mustBe(t, edge.On(back, p), edge.On(e, p), "On of Reverse of", e, p)
			mustBe(t, edge.Ray(back, p), -edge.Ray(e, p), "Ray of Reverse of", e, p)
		}
	}
	for _, c := range wrongEdges() {
		mustBe(t, edge.Check(edge.Reverse(c.e)), c.want, "Check of Reverse of", c.e)
	}
	for e, points := range wide() {
		for _, p := range points {
			for _, q := range around(p) {
				mustBe(t, edge.On(edge.Reverse(e), q), edge.On(e, q), "On of Reverse of", e, q)
				mustBe(t, edge.Ray(edge.Reverse(e), q), -edge.Ray(e, q), "Ray of Reverse of", e, q)
			}
		}
	}
}

// within reports whether all points of e are right.
func within(e api.Edge) bool { return bounded(e.A) && bounded(e.B) && bounded(e.C) }

func TestMotionsTakePointsAlong(t *testing.T) {
	for _, m := range motions() {
		for _, e := range someEdges() {
			there := edge.Move(e, m)
			if !within(there) {
				mustBe(t, edge.Check(there), api.ErrPoint, "Check of Move of", e, m)
				continue
			}
			mustBe(t, edge.Check(there), api.OK, "Check of Move of", e, m)
			mustBe(t, edge.Radius(there), edge.Radius(e), "Radius of Move of", e, m)
			for _, p := range grid(upTo(16)) {
				mustBe(t, edge.On(there, vec.Apply(m, p)), edge.On(e, p), "On of Move of", e, m, p)
			}
		}
	}
}

func TestMotionsOfWrongEdges(t *testing.T) {
	for _, c := range wrongEdges() {
		for _, m := range []api.Motion{{Turn: 1}, {Turn: 2, Mirror: true}, {Turn: 7, Mirror: true}} {
			mustBe(t, edge.Check(edge.Move(c.e, m)), c.want, "Check of Move of", c.e, m)
		}
	}
}

func TestTranslationsKeepRay(t *testing.T) {
	for _, place := range []api.Point{at(0, 0), at(7, -9), at(-1, 100), at(far-20, 20-far), at(20-far, far-20)} {
		m := api.Motion{At: place}
		for _, e := range someEdges() {
			for _, p := range grid(upTo(17)) {
				mustBe(t, edge.Ray(edge.Move(e, m), vec.Add(p, place)), edge.Ray(e, p), "Ray of Move of", e, place, p)
			}
		}
	}
}

// P6.8

func TestEndsAndBoxes(t *testing.T) {
	list := append(someEdges(), stretched()...)
	for e := range wide() {
		list = append(list, e)
	}
	for _, e := range list {
		mustBe(t, edge.On(e, e.A), true, "A is on", e)
		mustBe(t, edge.On(e, e.B), true, "B is on", e)
		box := edge.Box(e)
		for _, p := range []api.Point{at(box.X0-1, e.A.Y), at(box.X1+1, e.B.Y), at(e.B.X, box.Y0-1), at(e.A.X, box.Y1+1)} {
			mustBe(t, edge.On(e, p), false, "beside the Box is on", e, p)
		}
	}
	for _, e := range someEdges() {
		box, count := edge.Box(e), 0
		for _, p := range grid(upTo(20)) {
			if edge.On(e, p) {
				count++
				mustBe(t, box.X0 <= p.X && p.X <= box.X1 && box.Y0 <= p.Y && p.Y <= box.Y1, true, "in the Box of", e, p)
			}
		}
		if count < 1 {
			t.Errorf("no points on %v", e)
		}
	}
}

// P6.9

// mustDivide reports an error unless the sum of Ray of both parts of a line is that of the line.
func mustDivide(t *testing.T, e api.Edge, middle, p api.Point) {
	t.Helper()
	first, second := line(e.A.X, e.A.Y, middle.X, middle.Y), line(middle.X, middle.Y, e.B.X, e.B.Y)
	mustBe(t, edge.Ray(first, p)+edge.Ray(second, p), edge.Ray(e, p), "Ray of the parts of", e, middle, p)
}

func TestDividedLines(t *testing.T) {
	for _, d := range grid(upTo(4)) {
		for steps := range 4 {
			e := line(-2, 1, -2+steps*d.X, 1+steps*d.Y)
			for k := range steps + 1 {
				middle := at(-2+k*d.X, 1+k*d.Y)
				mustBe(t, edge.On(e, middle), true, "On of", e, middle)
				for _, p := range grid(upTo(14)) {
					mustDivide(t, e, middle, p)
				}
			}
		}
	}
	for _, e := range []api.Edge{line(-far, -far, far, far), line(far, far, -far, 0), line(-far, far, far-2, -far), line(0, far, 0, -far)} {
		x, y := (e.B.X-e.A.X)/2, (e.B.Y-e.A.Y)/2
		middle := at(e.A.X+x, e.A.Y+y)
		for _, p := range []api.Point{e.A, e.B, middle, at(e.A.X+x/2, e.A.Y+y/2), at(middle.X+x/4, middle.Y+y/4)} {
			for _, q := range beside(p) {
				mustDivide(t, e, middle, q)
			}
		}
	}
}

// mustGoAround reports an error unless the sum of Ray of the four quarters of a circle is 1 inside, and on it to the left of its centre, neither highest nor lowest.
func mustGoAround(t *testing.T, x, y, r int, p api.Point) {
	t.Helper()
	sum := 0
	for _, e := range quarters(x, y, r) {
		sum += edge.Ray(e, p)
	}
	d := from(at(x, y), p)
	order := d.dot(d).Cmp(from(at(0, 0), at(r, 0)).dot(from(at(0, 0), at(r, 0))))
	want := 0
	if order < 0 || order == 0 && p.X < x && p.Y != y+r && p.Y != y-r {
		want = 1
	}
	mustBe(t, sum, want, "Ray of the quarters of", x, y, r, p)
}

func TestCirclesGoAroundTheirInside(t *testing.T) {
	for _, r := range []int{1, 2, 3, 5, 10, 13, 25} {
		for _, p := range grid(upTo(r + 3)) {
			mustGoAround(t, 0, 0, r, p)
			mustGoAround(t, -70, 31, r, vec.Add(p, at(-70, 31)))
		}
	}
	const k = 13421772
	for _, p := range []api.Point{at(3*k, 4*k), at(-4*k, 3*k), at(-3*k, -4*k), at(4*k, -3*k), at(5*k, 0), at(0, 5*k), at(-5*k, 0), at(0, -5*k), at(0, 0)} {
		for _, q := range beside(p) {
			mustGoAround(t, 0, 0, 5*k, q)
			mustGoAround(t, 1, -1, far-1, q)
		}
	}
}

// P1, and the rules R3, R4 and R5 (there are no lists, for R1, and what R2 says of results beside an error does not apply)

// everything calls all functions, and returns their results one after the other.
func everything(e api.Edge, p api.Point, turn int) []int {
	var list []int
	for _, x := range []api.Edge{e, edge.Reverse(e), edge.Move(e, api.Motion{At: p, Turn: turn, Mirror: p.X&1 > 0})} {
		box, on := edge.Box(x), 0
		if edge.On(x, p) {
			on = 1
		}
		list = append(list, x.Kind, x.A.X, x.A.Y, x.B.X, x.B.Y, x.C.X, x.C.Y, box.X0, box.Y0, box.X1, box.Y1, on)
		list = append(list, int(edge.Check(x)), edge.Radius(x), edge.Ray(x, p))
	}
	return list
}

func TestAllArgumentsArePermitted(t *testing.T) {
	few := grid([]int{0, 1, -far, math.MaxInt, math.MinInt})
	for _, kind := range []int{math.MinInt, -1, 0, 1, 2, 3, 4, math.MaxInt} {
		for _, a := range few {
			for _, b := range few {
				for _, p := range few {
					everything(edgeOf(kind, a, b, at(b.Y, a.X)), p, a.Y)
				}
			}
		}
	}
}

// The same calls return the same results, whatever was called in between, and calls at one time do not disturb each other.
func TestCallsRepeat(t *testing.T) {
	list := someEdges()
	for seed := range uint64(1000) {
		n := someInts(6, seed)
		list = append(list, edgeOf(int(seed%5), at(n[0], n[1]), at(n[2], n[3]), at(n[4], n[5])))
	}
	points := append(grid(upTo(2)), at(3, 4), at(-4, 3), at(math.MinInt, 1), at(-2, math.MaxInt))
	var first [][]int
	for k, e := range list {
		for _, p := range points {
			first = append(first, everything(e, p, k))
		}
	}
	var all sync.WaitGroup
	for range 8 {
		all.Go(func() {
			for n, want := range slices.Backward(first) {
				e, p := list[n/len(points)], points[n%len(points)]
				if !slices.Equal(everything(e, p, n/len(points)), want) {
					t.Errorf("calls of %v, %v", e, p)
				}
			}
		})
	}
	all.Wait()
}
