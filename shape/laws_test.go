package shape_test

import (
	"math"
	"slices"
	"sync"
	"testing"

	"etchant/api"
	"etchant/shape"
	"etchant/vec"
)

// someShapes returns valid shapes of both kinds around 0, with coordinates up to 20.
func someShapes() []api.Shape {
	ring := joined(quarters(0, 0, 10), lines(at(10, 0), at(5, 0)), reversed(quarters(0, 0, 5)), lines(at(5, 0), at(10, 0)))
	list := []api.Shape{
		s(), h(), area(square()...), area(ring...), path(3, ring...), path(0, ring...), area(dots(2)...), path(4, dots(1)...),
		shape.Disc(at(-3, 2), 5), shape.Rect(api.Rect{X0: -4, Y0: 1, X1: 7, Y1: 3}), shape.Rect(api.Rect{X0: 5, Y0: -1, X1: -2, Y1: 9}),
		path(7, quarters(2, 3, 5)[:3]...), path(5, quarters(2, 3, 5)[2]), area(quarters(2, 3, 5)...), area(reversed(quarters(-2, -1, 8))...),
		area(joined(square(), lines(at(-3, -3), at(9, 9), at(9, -3), at(-3, 9), at(-3, -3)))...),
	}
	d := dice(3)
	for k := range 12 {
		list = append(list, path(d.upTo(2)+2, someChain(1+k, 14, &d)...), area(someLoop(2+k, 14, &d)...))
	}
	return list
}

// greatShapes returns valid shapes that go up to the limits, and points of interest.
func greatShapes() ([]api.Shape, []api.Point) {
	list := []api.Shape{
		shape.Disc(at(far, far), thick), shape.Disc(at(-far, 0), thick-1), shape.Rect(api.Rect{X0: -far, Y0: -far, X1: far, Y1: far}),
		area(quarters(0, 0, far)...), path(thick, quarters(0, 0, far)...), path(thick, line(-far, -far, far, far-1)),
		area(lines(at(-far, -far), at(far, far-1), at(far, 1-far), at(1-far, far), at(-far, -far))...),
	}
	coords := []int{-far - thick - 1, -far - thick, -far - 1, -far, 1 - far, -far / 2, -thick, -1, 0, 2, thick + 1, far - thick, far, far + 1, far + thick, far + thick + 1}
	return list, grid(coords)
}

// motions returns motions with all turns, mirrored ones as well as others, to several places.
func motions() []api.Motion {
	var list []api.Motion
	for _, place := range []api.Point{at(0, 0), at(10, -20), at(far-30, 30-far), at(far-9, 0)} {
		for _, turn := range []int{0, 1, 2, 3, -1, 6, math.MinInt, math.MaxInt} {
			list = append(list, api.Motion{At: place, Turn: turn}, api.Motion{At: place, Turn: turn, Mirror: true})
		}
	}
	return list
}

// P9.7

// mustMove reports an error unless a motion takes the points of a valid shape, its box, and Check, if it is not moved too far, to those of the moved one.
func mustMove(t *testing.T, s api.Shape, m api.Motion, points []api.Point) {
	t.Helper()
	moved, right := shape.Move(s, m), true
	for _, e := range moved.Edges {
		right = right && bounded(e.A) && bounded(e.B) && bounded(e.C)
	}
	want := api.OK
	if !right {
		want = api.ErrPoint
	}
	mustBe(t, shape.Check(moved), want, "Check of Move of", s, m)
	box := shape.Box(s)
	a, b := vec.Apply(m, at(box.X0, box.Y0)), vec.Apply(m, at(box.X1, box.Y1))
	mustBe(t, shape.Box(moved), api.Rect{X0: min(a.X, b.X), Y0: min(a.Y, b.Y), X1: max(a.X, b.X), Y1: max(a.Y, b.Y)}, "Box of Move of", s, m)
	for _, p := range points {
		mustBe(t, shape.Inside(moved, vec.Apply(m, p)), right && shape.Inside(s, p), "Inside of Move of", s, m, p)
	}
}

func TestMotionsTakePointsAlong(t *testing.T) {
	points := grid([]int{-13, -9, -6, -5, -4, -3, -2, -1, 0, 1, 2, 3, 4, 5, 7, 8, 10, 12})
	for _, s := range someShapes() {
		for _, m := range motions() {
			mustMove(t, s, m, points)
		}
	}
	great, points := greatShapes()
	for _, s := range great {
		for turn := range 4 {
			mustMove(t, s, api.Motion{Turn: turn}, points)
			mustMove(t, s, api.Motion{Turn: turn, Mirror: true}, points)
			mustMove(t, s, api.Motion{Turn: turn, At: at(1, 0)}, points)
		}
	}
}

func TestMotionsThatFollowEachOther(t *testing.T) {
	for i, s := range someShapes() {
		for k, m := range motions() {
			n := motions()[(7*k+i)%64]
			mustEqual(t, shape.Move(shape.Move(s, n), m), shape.Move(s, vec.Compose(m, n)), "Move of Move of", s, m, n)
			mustEqual(t, shape.Move(shape.Move(s, m), vec.Inverse(m)), s, "Move back of Move of", s, m)
		}
	}
}

// mustHaveSamePoints reports an error unless both shapes are valid, and have the same ones of these points.
func mustHaveSamePoints(t *testing.T, a, b api.Shape, points []api.Point) {
	t.Helper()
	mustBe(t, shape.Check(a), api.OK, "Check of", a)
	mustBe(t, shape.Check(b), api.OK, "Check of", b)
	mustBe(t, shape.Box(a), shape.Box(b), "Box of", a, b)
	for _, p := range points {
		mustBe(t, shape.Inside(a, p), shape.Inside(b, p), "Inside of", a, b, p)
	}
}

func TestWhereAChainBeginsPlaysNoPart(t *testing.T) {
	compare := func(list []api.Shape, points []api.Point) {
		for _, s := range list {
			mustHaveSamePoints(t, s, api.Shape{Kind: s.Kind, R: s.R, Edges: reversed(s.Edges)}, points)
			for k := range s.Edges {
				if s.Kind == api.ShArea {
					mustHaveSamePoints(t, s, area(joined(s.Edges[k:], s.Edges[:k])...), points)
				}
			}
		}
	}
	compare(someShapes(), grid(upTo(17)))
	compare(greatShapes())
}

// P9.8

func TestPointsLieInTheBox(t *testing.T) {
	count := 0
	look := func(list []api.Shape, points []api.Point) {
		for _, s := range list {
			b := shape.Box(s)
			for _, p := range slices.Concat(points, around(at(b.X0, b.Y0)), around(at(b.X1, b.Y0)), around(at(b.X1, b.Y1)), around(at(b.X0, b.Y1)), beside(at((b.X0+b.X1)/2, (b.Y0+b.Y1)/2))) {
				out := p.X < b.X0 || p.X > b.X1 || p.Y < b.Y0 || p.Y > b.Y1
				if out && shape.Inside(s, p) {
					t.Errorf("Inside of %v: %v, which is not in the Box", s, p)
				}
				if !out {
					count++
				}
			}
			for _, e := range s.Edges {
				mustBe(t, shape.Inside(s, e.A) && shape.Inside(s, e.B), true, "Inside of the ends of", s)
			}
		}
	}
	look(someShapes(), grid(upTo(20)))
	look(greatShapes())
	if count < 1000 {
		t.Errorf("only %d points in a Box", count)
	}
}

func TestPointsOfDiscs(t *testing.T) {
	for _, c := range []api.Point{at(0, 0), at(-4, 7), at(far, -far)} {
		for r := range 14 {
			for _, d := range grid(upTo(15)) {
				mustBe(t, shape.Inside(shape.Disc(c, r), vec.Add(c, d)), d.X*d.X+d.Y*d.Y <= r*r, "Inside of a Disc", c, r, d)
			}
		}
	}
}

func TestPointsOfRects(t *testing.T) {
	coords := []int{-far, -3, 0, 1, 4, far}
	for _, p := range grid(coords) {
		for _, q := range grid(coords) {
			r := api.Rect{X0: p.X, Y0: p.Y, X1: q.X, Y1: q.Y}
			x, y := []int{min(p.X, q.X), max(p.X, q.X)}, []int{min(p.Y, q.Y), max(p.Y, q.Y)}
			for _, p := range grid([]int{-far - 1, -far, 1 - far, -4, -3, -2, -1, 0, 1, 2, 4, 5, far - 1, far, far + 1}) {
				want := x[0] <= p.X && p.X <= x[1] && y[0] <= p.Y && p.Y <= y[1]
				mustBe(t, shape.Inside(shape.Rect(r), p), want, "Inside of Rect of", r, p)
			}
		}
	}
}

// P9.9

func TestPathsAreTheirEdges(t *testing.T) {
	look := func(list []api.Shape, points []api.Point) {
		for _, s := range list {
			for _, p := range points {
				if s.Kind != api.ShPath {
					continue
				}
				want := false
				for _, e := range s.Edges {
					want = want || shape.Inside(path(s.R, e), p)
				}
				mustBe(t, shape.Inside(s, p), want, "Inside of", s, p)
			}
		}
	}
	look(someShapes(), grid(upTo(19)))
	look(greatShapes())
}

func TestWiderPathsHaveMorePoints(t *testing.T) {
	look := func(list []api.Shape, radii []int, points []api.Point) {
		for _, s := range list {
			for _, p := range points {
				before := false
				for _, r := range radii {
					now := shape.Inside(path(r, s.Edges...), p)
					if before && !now {
						t.Errorf("Inside of %v, and not with %d: %v", s.Edges, r, p)
					}
					before = now
				}
			}
		}
	}
	look(someShapes(), []int{0, 1, 2, 3, 4, 5, 6, 7, 8, 9, 11, 40, thick}, grid(upTo(17)))
	great, points := greatShapes()
	look(great, []int{0, 1, thick - 1, thick}, points)
}

// P1, and the rules R3 and R4

// answers is what calls return.
type answers struct {
	wrong api.Errno
	box   api.Rect
	is    [4]bool
	made  [3]api.Shape
}

// everything calls all functions.
func everything(s, other api.Shape, p api.Point, m api.Motion) answers {
	box := shape.Box(s)
	return answers{
		shape.Check(s), box,
		[4]bool{shape.Inside(s, p), shape.Inside(s, at(box.X0, box.Y0)), shape.Same(s, other), shape.Same(s, s)},
		[3]api.Shape{shape.Disc(p, s.R), shape.Rect(box), shape.Move(s, m)},
	}
}

// mustAgree reports an error unless the same was answered.
func mustAgree(t *testing.T, got, want answers, what ...any) {
	t.Helper()
	if got.wrong != want.wrong || got.box != want.box || got.is != want.is {
		t.Errorf("%v: %v, not %v", what, got, want)
	}
	for k, s := range got.made {
		mustEqual(t, s, want.made[k], append(what, k)...)
	}
}

func TestAllArgumentsArePermitted(t *testing.T) {
	ends := []int{0, 1, -far, far + 1, math.MaxInt, math.MinInt}
	few, d := grid(ends), dice(8)
	for k, a := range few {
		for i, b := range few {
			for _, kind := range []int{math.MinInt, -1, 0, 1, 2, 3, math.MaxInt} {
				e := edgeOf((k+i)%5, a, b, few[(k+5*i)%len(few)])
				s := api.Shape{Kind: kind, R: ends[(k+i)%len(ends)], Edges: []api.Edge{e, between(a, b), between(b, a)}[:(i+k)%4]}
				got := everything(s, anyShape(&d), few[(3*k+i)%len(few)], api.Motion{At: a, Turn: b.X, Mirror: b.Y > 0})
				mustBe(t, got.is[3], true, "Same of a shape and itself", s)
			}
		}
	}
	for range 20000 {
		s, p := anyShape(&d), anyPoint(&d)
		got := everything(s, s, p, api.Motion{At: p, Turn: d.any(), Mirror: d.upTo(1) > 0})
		if got.is[0] && got.wrong != api.OK {
			t.Errorf("Inside of %v, which has the error %d: %v", s, got.wrong, p)
		}
	}
}

// No call changes its arguments, and who changes a result changes neither arguments nor other results.
func TestResultsHaveTheirOwnMemory(t *testing.T) {
	spoil := func(edges []api.Edge) {
		for k := range edges[:cap(edges)] {
			edges[:cap(edges)][k] = edgeOf(77, at(7, 7), at(7, 7), at(7, 7))
		}
	}
	for k, s := range someShapes() {
		m := motions()[k*5%64]
		spare := append(slices.Clone(s.Edges), s.Edges...) // with elements behind those of the shape
		arg := api.Shape{Kind: s.Kind, R: s.R, Edges: spare[:len(s.Edges)]}
		first, second := everything(arg, arg, at(3, 4), m), everything(s, s, at(3, 4), m)
		mustAgree(t, first, second, "results of", s, m)
		for _, got := range first.made {
			spoil(got.Edges)
		}
		mustEqual(t, arg, s, "the argument")
		mustEqual(t, path(0, spare[len(s.Edges):]...), path(0, s.Edges...), "what lies behind the argument")
		mustAgree(t, everything(arg, arg, at(3, 4), m), second, "results of", s, m)
		same := shape.Move(arg, api.Motion{})
		spoil(arg.Edges)
		mustEqual(t, same, s, "Move of what is changed afterwards")
	}
}

// The same calls return the same results, whatever was called in between, and calls at one time do not disturb each other.
func TestCallsRepeat(t *testing.T) {
	list, d := someShapes(), dice(9)
	for range 100 {
		list = append(list, anyShape(&d))
	}
	points := append(grid(upTo(3)), at(math.MinInt, 1), at(far+2, far))
	call := func(n int) answers {
		s, p := list[n/len(points)], points[n%len(points)]
		return everything(s, list[n/len(points)*(n%2)], p, api.Motion{At: p, Turn: n, Mirror: n%3 == 0})
	}
	var first []answers
	for n := range len(list) * len(points) {
		first = append(first, call(n))
	}
	var all sync.WaitGroup
	for range 4 {
		all.Go(func() {
			for n, want := range slices.Backward(first) {
				mustAgree(t, call(n), want, "call", n)
			}
		})
	}
	all.Wait()
}
