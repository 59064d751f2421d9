package gap_test

import (
	"math"
	"slices"
	"sync"
	"testing"

	"etchant/api"
	"etchant/edge"
	"etchant/gap"
	"etchant/meet"
	"etchant/near"
	"etchant/root"
	"etchant/shape"
	"etchant/vec"
)

// P10.5

// mustBeAlike reports an error unless two results have the same Meet and Dist.
func mustBeAlike(t *testing.T, got, want api.Gap, ok bool, what ...any) {
	t.Helper()
	if !ok || got.Meet != want.Meet || root.Cmp(got.Dist, want.Dist) != 0 || !root.Right(got.Dist) {
		t.Errorf("%v: %v, %s, not %s", what, ok, shown(got), shown(want))
	}
}

func TestOrderPlaysNoPart(t *testing.T) {
	list := slices.Concat(someShapes(), wideShapes())
	for _, a := range list {
		for _, b := range list {
			want, _ := gap.Of(a, b)
			got, ok := gap.Of(b, a)
			mustBeAlike(t, got, want, ok, "Of", b, a)
			mustBe(t, gap.Touch(b, a), gap.Touch(a, b), "Touch", b, a)
			for _, need := range []int{-2, 3} {
				mustBe(t, gap.Least(b, a, need), gap.Least(a, b, need), "Least", b, a, need)
			}
		}
	}
}

// moved returns where a motion takes a spot.
func moved(s api.Spot, m api.Motion) api.Spot {
	turned := api.Motion{Turn: m.Turn, Mirror: m.Mirror}
	return api.Spot{At: vec.Apply(m, s.At), Dir: vec.Apply(turned, s.Dir), P: s.P, Q: s.Q, Len: s.Len}
}

func TestMotionsPlayNoPart(t *testing.T) {
	list := someShapes()
	for i, a := range list {
		for k, b := range list {
			m := api.Motion{At: []api.Point{at(0, 0), at(10, -20), at(far-200, 200-far)}[(i+k)%3], Turn: []int{0, 1, 2, 3, -1, math.MinInt}[(2*i+k)%6], Mirror: (i+3*k)%5 > 2}
			want, _ := gap.Of(a, b)
			got, ok := gap.Of(shape.Move(a, m), shape.Move(b, m))
			if !want.Meet {
				want.A, want.B = moved(want.A, m), moved(want.B, m)
			}
			mustBeGap(t, got, ok, want, "Of", a, b, m)
			for _, need := range []int{-1, 0, 1, 4} {
				mustBe(t, gap.Holds(shape.Move(a, m), shape.Move(b, m), need), gap.Holds(a, b, need), "Holds", a, b, m, need)
			}
		}
	}
}

func TestGreaterR(t *testing.T) {
	list := slices.Concat(someShapes(), wideShapes())
	for i, a := range list {
		for k, b := range list {
			more := []int{1, 7, 1000, thick}[(i+k)%4]
			if a.Kind != api.ShPath || a.R+more > thick {
				continue
			}
			want, _ := gap.Of(a, b)
			want.Dist, _ = root.Plus(want.Dist, -more)
			wider := a
			wider.R += more
			got, ok := gap.Of(wider, b)
			mustBeGap(t, got, ok, want, "Of", wider, b)
			want, _ = gap.Border(b, a)
			want.Dist, _ = root.Plus(want.Dist, -more)
			if got, ok = gap.Border(b, wider); ok {
				mustBeGap(t, got, ok, want, "Border", b, wider)
			}
		}
	}
}

func TestDiscs(t *testing.T) {
	d := dice(3)
	for _, size := range []int{1, 9, 1000, far} {
		for range 300 {
			p, q := somePoint(at(0, 0), size, &d), somePoint(at(0, 0), size, &d)
			r, s := d.upTo(thick/2)+thick/2, d.upTo(9)+9
			way := vec.Sub(q, p)
			want := api.Gap{Meet: p == q, Dist: rooted(-r-s, vec.Dot(way, way), 1)}
			if p != q {
				want.A, want.B = end(p.X, p.Y), end(q.X, q.Y)
			}
			g, ok := gap.Of(shape.Disc(p, r), shape.Disc(q, s))
			mustBeGap(t, g, ok, want, p, q, r, s)
		}
	}
}

// What a chain begins with, and in which direction it leads, changes no distance.
func TestChainsPlayNoPart(t *testing.T) {
	list := someShapes()
	for i, a := range list {
		other := a
		other.Edges = reversed(a.Edges)
		if n := len(a.Edges); a.Kind == api.ShArea {
			other.Edges = slices.Concat(other.Edges[i%n:], other.Edges[:i%n])
		}
		for _, b := range list {
			want, _ := gap.Of(a, b)
			got, ok := gap.Of(other, b)
			mustBeAlike(t, got, want, ok, "Of", other, b)
			for _, need := range []int{-3, 0, 1, 5} {
				mustBe(t, gap.Holds(other, b, need), gap.Holds(a, b, need), "Holds", other, b, need)
				mustBe(t, gap.Holds(b, other, need), gap.Holds(b, a, need), "Holds", b, other, need)
			}
		}
	}
}

// P10.6

// place returns where a spot is, but for rounding.
func place(s api.Spot) (x, y float64) {
	along := float64(s.P) / float64(max(s.Q, 1))
	if s.Len != 0 {
		along = float64(s.Len) / math.Hypot(float64(s.Dir.X), float64(s.Dir.Y))
	}
	return float64(s.At.X) + float64(s.Dir.X)*along, float64(s.At.Y) + float64(s.Dir.Y)*along
}

// value returns the number that a right root stands for, but for rounding.
func value(r api.Root) float64 {
	digits := func(n api.Num) float64 {
		total := 0.0
		for _, digit := range slices.Backward(n.D) {
			total = total*(1<<32) + float64(digit)
		}
		return total
	}
	return float64(r.Add) + float64(r.Sign)*math.Sqrt(digits(r.N)/digits(r.D))
}

// mustShareNoPoint reports an error unless no whole point near to two shapes that do not touch is one of both.
func mustShareNoPoint(t *testing.T, a, b api.Shape, touch bool, points []api.Point) (shared bool) {
	t.Helper()
	for _, p := range points {
		both := shape.Inside(a, p) && shape.Inside(b, p)
		shared = shared || both
		if both && !touch {
			t.Errorf("Touch of %v and %v, with the common point %v", a, b, p)
		}
	}
	return shared
}

func TestShapesTouchWhereTheyHaveACommonPoint(t *testing.T) {
	found, points := tally{}, grid(upTo(35))
	list := someShapes()
	for i, a := range list {
		for _, b := range list[i:] {
			g, _ := gap.Of(a, b)
			touch := gap.Touch(a, b)
			shared := mustShareNoPoint(t, a, b, touch, points)
			switch {
			case shared:
				found["shared"]++
			case touch:
				found["touch"]++ // a point that is not whole, or farther out
			default:
				found["apart"]++
			}
			if g.Meet {
				continue
			}
			x0, y0 := place(g.A)
			x1, y1 := place(g.B)
			if lines := math.Hypot(x1-x0, y1-y0); math.Abs(lines-float64(a.R+b.R)-value(g.Dist)) > 1e-6 {
				t.Errorf("Of %v and %v: %s, but %g apart", a, b, shown(g), lines)
			}
			mustLie(t, a, g.A)
			mustLie(t, b, g.B)
		}
	}
	found.mustHave(t, 20, "shared", "touch", "apart")
}

// mustLie reports an error unless a spot lies on an edge of a shape, but for rounding.
func mustLie(t *testing.T, s api.Shape, spot api.Spot) {
	t.Helper()
	x, y := place(spot)
	for _, e := range s.Edges {
		ax, ay, bx, by := float64(e.A.X)-x, float64(e.A.Y)-y, float64(e.B.X)-x, float64(e.B.Y)-y
		if e.Kind == api.EdgeLine && math.Abs(math.Hypot(ax, ay)+math.Hypot(bx, by)-math.Hypot(bx-ax, by-ay)) < 1e-6 {
			return
		}
		cx, cy := x-float64(e.C.X), y-float64(e.C.Y)
		round := math.Abs(math.Hypot(cx, cy)-float64(edge.Radius(e))) < 1e-6
		if e.Kind != api.EdgeLine && round && cx*(ax+cx)+cy*(ay+cy) > -1e-6 && cx*(bx+cx)+cy*(by+cy) > -1e-6 {
			return
		}
	}
	t.Errorf("%v is no point of %v", spot, s)
}

// All points of what an area holds are points of the area, and as far from its border.
func TestWhatIsHeldLiesInside(t *testing.T) {
	found, points := tally{}, grid(upTo(35))
	for _, outline := range someShapes() {
		for _, s := range someShapes() {
			for _, need := range []int{0, 1, 3, 10} {
				if !gap.Holds(outline, s, need) {
					found["no"]++
					continue
				}
				found["yes"]++
				for _, p := range points {
					if shape.Inside(s, p) && !gap.Holds(outline, dot(p), need) {
						onBorder := need == 0 && shape.Inside(outline, p)
						mustBe(t, onBorder, true, "Holds", outline, s, need, p)
					}
				}
			}
		}
	}
	found.mustHave(t, 50, "yes", "no")
}

// P1, and the rules R1, R3 and R4 (there are no errors for R2)

func TestAllArgumentsArePermitted(t *testing.T) {
	d := dice(4)
	right := append(someShapes()[:6], wideShapes()[:6]...)
	for range 3000 {
		a, b, need := anyShape(&d), anyShape(&d), d.any()
		allFalse(t, a, b)
		for k, s := range right {
			if k%3 == need&1 {
				allFalse(t, a, s)
				allFalse(t, s, a)
			}
		}
	}
	for _, a := range right {
		for _, b := range right {
			for range 50 {
				need := d.any()
				g, _ := gap.Of(a, b)
				mustBe(t, gap.Least(a, b, need), root.CmpInt(g.Dist, need) >= 0, "Least", a, b, need)
				mustBe(t, gap.Holds(a, b, need), holds(a, b, need), "Holds", a, b, need)
			}
		}
	}
}

func TestNilIsEmpty(t *testing.T) {
	for _, kind := range []int{api.ShPath, api.ShArea} {
		for _, edges := range [][]api.Edge{nil, {}} {
			s := api.Shape{Kind: kind, Edges: edges}
			allFalse(t, s, s)
			allFalse(t, s, rect(0, 0, 9, 9))
			allFalse(t, rect(0, 0, 9, 9), s)
		}
	}
}

// cloned returns a copy of a shape.
func cloned(s api.Shape) api.Shape {
	s.Edges = slices.Clone(s.Edges)
	return s
}

// spoiled returns a text of a gap, and overwrites the digits of the gap.
func spoiled(g api.Gap) string {
	text := shown(g)
	for k := range g.Dist.N.D {
		g.Dist.N.D[k] = 77
	}
	for k := range g.Dist.D.D {
		g.Dist.D.D[k] = 78
	}
	return text
}

// Calls leave their arguments as they are, and who changes the digits of a result changes no other one.
func TestResultsHaveTheirOwnMemory(t *testing.T) {
	list := append(someShapes(), wideShapes()[:6]...)
	for _, a := range list {
		for _, b := range list {
			x, y := cloned(a), cloned(b)
			g, _ := gap.Of(x, y)
			first := spoiled(g)
			g, _ = gap.Border(x, y)
			second := spoiled(g)
			gap.Touch(x, y)
			gap.Least(x, y, 3)
			gap.Holds(x, y, -3)
			mustBe(t, shape.Same(x, a) && shape.Same(y, b), true, "arguments", a, b)
			g, _ = gap.Of(a, b)
			mustBe(t, shown(g), first, "Of", a, b)
			g, _ = gap.Border(a, b)
			mustBe(t, shown(g), second, "Border", a, b)
		}
	}
}

// The digits of one result share no memory either.
func TestDigitsAreApart(t *testing.T) {
	for _, b := range []api.Shape{disc(1, 0, 0), disc(0, 0, 0), path(2, line(3, 1, 5, 9))} {
		g, _ := gap.Of(disc(0, 0, 0), b)
		for k := range g.Dist.N.D {
			g.Dist.N.D[k] = 77
		}
		mustBe(t, len(g.Dist.D.D) == 1 && g.Dist.D.D[0] == 1, true, "D", g)
	}
}

// everything returns the results of all calls.
func everything(a, b api.Shape) [6]string {
	g, ok := gap.Of(a, b)
	h, held := gap.Border(a, b)
	yes := map[bool]string{true: "yes"}
	return [6]string{shown(g) + yes[ok], shown(h) + yes[held], yes[gap.Touch(a, b)], yes[gap.Least(a, b, 2)], yes[gap.Holds(a, b, 0)], yes[gap.Least(a, b, -20)]}
}

// The same calls return the same results, whatever was called in between, and calls at one time do not disturb each other.
func TestCallsRepeat(t *testing.T) {
	list := slices.Concat(someShapes(), wrongShapes()[:9], wideShapes()[:5])
	var first [][6]string
	for _, a := range list {
		for _, b := range list {
			first = append(first, everything(a, b))
		}
	}
	var all sync.WaitGroup
	for range 4 {
		all.Go(func() {
			for n, want := range slices.Backward(first) {
				if a, b := list[n/len(list)], list[n%len(list)]; everything(a, b) != want {
					t.Errorf("calls of %v and %v", a, b)
				}
			}
		})
	}
	all.Wait()
}

// A gap is that of the nearest pair of edges, so that it cannot be less than that of any pair.
func TestEdgesAloneAreNoNearer(t *testing.T) {
	list := someShapes()
	for _, a := range list {
		for _, b := range list {
			g, _ := gap.Of(a, b)
			for _, x := range a.Edges {
				for _, y := range b.Edges {
					if meet.Edges(x, y) {
						mustBe(t, g.Meet, true, "Of", a, b, x, y)
						continue
					}
					dist, _, _ := near.Edges(x, y)
					dist, _ = root.Plus(dist, -a.R-b.R)
					mustBe(t, root.Cmp(g.Dist, dist) <= 0, true, "Of", a, b, x, y)
				}
			}
		}
	}
}
