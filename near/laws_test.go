package near_test

import (
	"math"
	"slices"
	"sync"
	"testing"

	"etchant/api"
	"etchant/edge"
	"etchant/meet"
	"etchant/near"
	"etchant/num"
	"etchant/root"
	"etchant/vec"
)

// P8.3

// spread returns many points of a right edge, the ends among them, with a rounding error.
func spread(e api.Edge) [][2]float64 {
	const count = 60
	var list [][2]float64
	for k := range count + 1 {
		part := float64(k) / count
		back := 1 - part
		if e.Kind == api.EdgeLine {
			list = append(list, [2]float64{back*float64(e.A.X) + part*float64(e.B.X), back*float64(e.A.Y) + part*float64(e.B.Y)})
			continue
		}
		a, b := vec.Sub(e.A, e.C), vec.Sub(e.B, e.C)
		sin, cos := math.Sincos(part * math.Pi / 2)
		list = append(list, [2]float64{float64(e.C.X) + cos*float64(a.X) + sin*float64(b.X), float64(e.C.Y) + cos*float64(a.Y) + sin*float64(b.Y)})
	}
	return list
}

// least returns the least distance of two of the points.
func least(list, others [][2]float64) float64 {
	best := math.Inf(1)
	for _, p := range list {
		for _, q := range others {
			best = min(best, math.Hypot(p[0]-q[0], p[1]-q[1]))
		}
	}
	return best
}

// mustBeNearest reports an error unless the distance is that of both spots, and of points of which it is known how near they are at least: not more than slack nearer.
func mustBeNearest(t *testing.T, dist api.Root, s, u vector, found, slack float64, what ...any) {
	t.Helper()
	const rounding = 1e-6
	length := value(dist)
	if signum(minus(length, s.minus(u).length())) != 0 {
		t.Errorf("%v: the spots are %v apart", what, s.minus(u).length())
	}
	if claimed, _ := length.Float64(); claimed > found+rounding || claimed < found-slack-rounding {
		t.Errorf("%v: points are %v apart", what, found)
	}
}

// step returns how far two neighbours of spread are apart at most.
func step(e api.Edge) float64 {
	return math.Hypot(float64(e.B.X-e.A.X), float64(e.B.Y-e.A.Y)) * 1.2 / 60
}

func TestNoPointIsNearer(t *testing.T) {
	for _, e := range append(someEdges(), append(wide()[:40], stretched()[:80]...)...) {
		points := []api.Point{e.A, e.B, e.C, at((e.A.X+e.B.X)/2, (e.A.Y+e.B.Y)/2)}
		if far/2 > max(e.A.X, -e.A.X) {
			points = append(points, grid([]int{-12, -5, -1, 0, 2, 3, 4, 20})...)
		}
		for _, p := range points {
			dist, spot := near.Point(e, p)
			if !lies(e, place(spot)) {
				t.Errorf("Point of %v and %v: %v is no point of it", e, p, spot)
			}
			found := least(spread(e), [][2]float64{{float64(p.X), float64(p.Y)}})
			mustBeNearest(t, dist, place(spot), seen(p), found, step(e), "Point of", e, p)
			if on := root.CmpInt(dist, 0); on < 0 || (on == 0) != edge.On(e, p) {
				t.Errorf("Point of %v and %v: %s", e, p, root.Text(dist))
			}
		}
	}
}

// mustBeApart reports an error unless no points of a and b are nearer than Edges says.
func mustBeApart(t *testing.T, a, b api.Edge) {
	t.Helper()
	if meet.Edges(a, b) {
		return
	}
	dist, s, u := near.Edges(a, b)
	if !lies(a, place(s)) || !lies(b, place(u)) || root.CmpInt(dist, 0) <= 0 {
		t.Errorf("Edges of %v and %v: %s, %v and %v", a, b, root.Text(dist), s, u)
	}
	mustBeNearest(t, dist, place(s), place(u), least(spread(a), spread(b)), step(a)+step(b), "Edges of", a, b)
}

func TestNoPointsAreNearer(t *testing.T) {
	list := someEdges()
	for i, a := range list {
		for _, b := range list[i:] {
			mustBeApart(t, a, b)
		}
	}
	for i, a := range append(wide(), stretched()[:100]...) {
		for k, b := range wide() {
			if (i+k)%29 == 0 {
				mustBeApart(t, a, b)
			}
		}
	}
	for seed := range uint64(1500) {
		n := someInts(8, 300, seed)
		mustBeApart(t, someEdge(n[:4], seed%3 > 0), someEdge(n[4:], seed%2 > 0))
	}
}

// P8.4

// mustEqual reports an error unless both are right, and stand for the same number, or both are zero values.
func mustEqual(t *testing.T, got, want api.Root, what ...any) {
	t.Helper()
	if root.Right(got) != root.Right(want) || root.Cmp(got, want) != 0 || !root.Right(got) && !isZero(got) {
		t.Errorf("%v: %s, not %s", what, root.Text(got), root.Text(want))
	}
}

func TestOrderAndDirectionsPlayNoPart(t *testing.T) {
	list := append(someEdges(), wide()[:20]...)
	for _, a := range list {
		for _, b := range list {
			want, _, _ := near.Edges(a, b)
			for _, c := range [][2]api.Edge{{b, a}, {edge.Reverse(a), b}, {a, edge.Reverse(b)}, {edge.Reverse(b), edge.Reverse(a)}} {
				got, _, _ := near.Edges(c[0], c[1])
				mustEqual(t, got, want, "Edges of", c)
			}
		}
		for _, p := range append(grid([]int{-7, 0, 3, 4}), a.A, a.B, a.C) {
			want, _ := near.Point(a, p)
			got, _ := near.Point(edge.Reverse(a), p)
			mustEqual(t, got, want, "Point of", edge.Reverse(a), p)
		}
	}
}

// A line of a single point is as near as that point.
func TestPointsAreLinesOfOnePoint(t *testing.T) {
	list := append(someEdges(), wide()[:20]...)
	for _, e := range list {
		for _, p := range append(grid([]int{-7, -1, 0, 3, 4, 30}), at(far, -far), at(3, far)) {
			want, _ := near.Point(e, p)
			if edge.On(e, p) {
				want = api.Root{}
			}
			got, _, _ := near.Edges(e, between(p, p))
			mustEqual(t, got, want, "Edges of", e, p)
		}
	}
}

// moved returns where a motion takes a spot.
func moved(s api.Spot, m api.Motion) api.Spot {
	turned := api.Motion{Turn: m.Turn, Mirror: m.Mirror}
	return api.Spot{At: vec.Apply(m, s.At), Dir: vec.Apply(turned, s.Dir), P: s.P, Q: s.Q, Len: s.Len}
}

// mustMove reports an error unless a motion keeps the distances of a from b, and from the ends of b, and takes their spots with it.
func mustMove(t *testing.T, a, b api.Edge, m api.Motion) {
	t.Helper()
	c, d := edge.Move(a, m), edge.Move(b, m)
	if edge.Check(c) != api.OK || edge.Check(d) != api.OK { // moved beyond the limits
		if dist, s, u := near.Edges(c, d); !isZero(dist, s, u) {
			t.Errorf("Edges of %v and %v: %v, %v, %v", c, d, dist, s, u)
		}
		return
	}
	want, s, u := near.Edges(a, b)
	got, p, q := near.Edges(c, d)
	mustEqual(t, got, want, "Edges of", c, d)
	if root.Right(got) && (p != moved(s, m) || q != moved(u, m)) {
		t.Errorf("Edges of %v and %v, moved by %v: %v and %v, not %v and %v", a, b, m, p, q, moved(s, m), moved(u, m))
	}
	want, s = near.Point(a, b.B)
	got, p = near.Point(c, d.B)
	mustEqual(t, got, want, "Point of", c, d.B)
	if p != moved(s, m) {
		t.Errorf("Point of %v and %v, moved by %v: %v, not %v", a, b.B, m, p, moved(s, m))
	}
}

func TestMotionsPlayNoPart(t *testing.T) {
	list := someEdges()
	for i, a := range list {
		for k, b := range list {
			for j, place := range []api.Point{at(0, 0), at(10, -20), at(far-20, 20-far)} {
				turn := []int{0, 1, 2, 3, -1, math.MinInt, math.MaxInt}[(i+k+j)%7]
				mustMove(t, a, b, api.Motion{At: place, Turn: turn, Mirror: (i+k)%2 == 0})
			}
		}
	}
	list = append(wide(), stretched()[:200]...)
	for i, a := range list {
		for k := i % 23; k < len(list); k += 23 {
			mustMove(t, a, list[k], api.Motion{Turn: i, Mirror: k%2 > 0})
		}
	}
}

// enlarged returns the edge that is k times as large.
func enlarged(e api.Edge, k int) api.Edge {
	return edgeOf(e.Kind, scaled(e.A, k), scaled(e.B, k), scaled(e.C, k))
}

// widened returns the spot that a spot becomes when its edge is k times as large.
func widened(s api.Spot, k int) api.Spot {
	big := api.Spot{At: scaled(s.At, k), Dir: scaled(s.Dir, k), P: s.P * k * k, Q: s.Q * k * k, Len: s.Len * k}
	if s.Dir == at(0, 0) { // an end
		big.Q = 1
	}
	return big
}

// longer returns a root for k times the number that a right one stands for.
func longer(r api.Root, k int) api.Root {
	if !root.Right(r) {
		return api.Root{}
	}
	n, _ := num.Mul(r.N, num.Of(k*k))
	long, _ := root.Of(r.Add*k, r.Sign, n, r.D)
	return long
}

func TestEnlargedEdges(t *testing.T) {
	list := someEdges()
	for i, a := range list {
		for j, b := range list {
			k := []int{2, 3, 10, 1000, far / 37}[(i+j)%5]
			want, s, u := near.Edges(a, b)
			got, p, q := near.Edges(enlarged(a, k), enlarged(b, k))
			mustEqual(t, got, longer(want, k), "Edges of", a, b, k)
			if root.Right(got) && (p != widened(s, k) || q != widened(u, k)) {
				t.Errorf("Edges of %v and %v, %d times as large: %v and %v, not %v and %v", a, b, k, p, q, widened(s, k), widened(u, k))
			}
			want, s = near.Point(a, b.A)
			got, p = near.Point(enlarged(a, k), scaled(b.A, k))
			mustEqual(t, got, longer(want, k), "Point of", a, b.A, k)
			if p != widened(s, k) {
				t.Errorf("Point of %v and %v, %d times as large: %v, not %v", a, b.A, k, p, widened(s, k))
			}
		}
	}
}

// P1, and the rules R3, R4 and R5 (there are no lists and no errors for R1 and R2)

func TestAllArgumentsArePermitted(t *testing.T) {
	ends := []int{0, 1, -far, far + 1, math.MaxInt, math.MinInt}
	few := grid(ends)
	list := []api.Edge{a(), line(-5, -5, 9, -9), line(-far, -far, far, far), left(far, -far, -far, far, -far, -far)}
	for k, a := range few {
		for i, b := range few {
			for _, kind := range []int{math.MinInt, -1, 0, 1, 2, 3, 4, math.MaxInt} {
				e, p := edgeOf(kind, a, b, few[(k+5*i)%len(few)]), few[(3*k+i)%len(few)]
				right := edge.Check(e) == api.OK
				if dist, spot := near.Point(e, p); isZero(dist, spot) == (right && bounded(p)) {
					t.Errorf("Point of %v and %v: %v, %v", e, p, dist, spot)
				}
				for _, r := range list {
					dist, s, u := near.Edges(e, r)
					back, v, w := near.Edges(r, e)
					apart := right && !meet.Edges(e, r)
					if isZero(dist, s, u) == apart || isZero(back, v, w) == apart {
						t.Errorf("Edges of %v and %v: %v, %v, %v, and %v, %v, %v", e, r, dist, s, u, back, v, w)
					}
				}
			}
		}
	}
}

// spoiled returns a copy of a root, and overwrites its digits.
func spoiled(r api.Root) api.Root {
	own := r
	own.N.D, own.D.D = slices.Clone(r.N.D), slices.Clone(r.D.D)
	for k := range r.N.D {
		r.N.D[k] = 77
	}
	if !slices.Equal(r.D.D, own.D.D) {
		return api.Root{Sign: 5} // shared with the digits of N
	}
	for k := range r.D.D {
		r.D.D[k] = 78
	}
	return own
}

// Who changes the digits of a result changes no other one.
func TestResultsHaveTheirOwnMemory(t *testing.T) {
	list := append(someEdges(), wide()[:9]...)
	for _, a := range list {
		for _, b := range list {
			dist, _, _ := near.Edges(a, b)
			twice, _, _ := near.Edges(a, b)
			mustEqual(t, twice, spoiled(dist), "Edges of", a, b)
			again, _, _ := near.Edges(a, b)
			mustEqual(t, again, twice, "Edges of", a, b)
			dist, _ = near.Point(a, b.A)
			twice, _ = near.Point(a, b.A)
			mustEqual(t, twice, spoiled(dist), "Point of", a, b.A)
			again, _ = near.Point(a, b.A)
			mustEqual(t, again, twice, "Point of", a, b.A)
		}
	}
}

// result is what calls return, which can be compared.
type result struct {
	dist, beside string
	s, u, spot   api.Spot
}

// everything calls both functions.
func everything(a, b api.Edge) result {
	dist, s, u := near.Edges(a, b)
	beside, spot := near.Point(a, b.A)
	return result{root.Text(dist), root.Text(beside), s, u, spot}
}

// The same calls return the same results, whatever was called in between, and calls at one time do not disturb each other.
func TestCallsRepeat(t *testing.T) {
	list := append(someEdges(), wrongEdges()[:20]...)
	list = append(list, wide()[:20]...)
	var first []result
	for _, a := range list {
		for _, b := range list {
			first = append(first, everything(a, b))
		}
	}
	var all sync.WaitGroup
	for range 4 {
		all.Go(func() {
			for n, want := range slices.Backward(first) {
				if a, b := list[n/len(list)], list[n%len(list)]; everything(a, b) != want {
					t.Errorf("calls of %v and %v", a, b)
				}
			}
		})
	}
	all.Wait()
}
