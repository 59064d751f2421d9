package meet_test

import (
	"math"
	"slices"
	"sync"
	"testing"

	"etchant/api"
	"etchant/edge"
	"etchant/meet"
	"etchant/vec"
)

// someEdges returns right edges of all directions, many of which meet, and among which are single points.
func someEdges() []api.Edge {
	list := append(quarters(0, 0, 5), quarters(3, 4, 5)...)
	list = append(list, quarters(6, 8, 5)...)
	list = append(list, quarters(-1, -2, 1)...)
	list = append(list, quarters(0, 0, 10)[0], edge.Reverse(quarters(0, 0, 5)[2]))
	for _, p := range []api.Point{at(0, 0), at(4, 0), at(0, 4), at(6, 3), at(-6, 4), at(-2, -8), at(5, -5), at(8, -6), at(9, 9)} {
		list = append(list, between(at(3, 4), vec.Add(p, at(3, 4))), between(p, at(0, 0)), between(p, p))
	}
	return list
}

// P7.3

func TestOrderAndDirectionsPlayNoPart(t *testing.T) {
	for _, a := range someEdges() {
		for _, b := range someEdges() {
			want := mustAgree(t, a, b)
			mustMeet(t, edge.Reverse(a), b, want)
			mustMeet(t, a, edge.Reverse(b), want)
			mustMeet(t, edge.Reverse(a), edge.Reverse(b), want)
		}
	}
}

// motions returns motions with all turns, mirrored ones as well as others, to several places.
func motions() []api.Motion {
	var list []api.Motion
	for _, place := range []api.Point{at(0, 0), at(10, -20), at(far-20, 20-far), at(far-7, 0)} {
		for _, turn := range []int{0, 1, 2, 3, -1, math.MinInt, math.MaxInt} {
			list = append(list, api.Motion{At: place, Turn: turn}, api.Motion{At: place, Turn: turn, Mirror: true})
		}
	}
	return list
}

func TestMotionsPlayNoPart(t *testing.T) {
	list := someEdges()
	for i, a := range list {
		for _, b := range list[i:] {
			want := meet.Count(a, b)
			for _, m := range motions() {
				c, d := edge.Move(a, m), edge.Move(b, m)
				if edge.Check(c) != api.OK || edge.Check(d) != api.OK { // moved beyond the limits
					mustMeet(t, c, d, 0)
					continue
				}
				mustMeet(t, c, d, want)
			}
		}
	}
}

func TestMotionsOfWideEdgesPlayNoPart(t *testing.T) {
	list := append(stretched(), wide()...)
	for i, a := range list {
		for k := i % 37; k < len(list); k += 37 {
			want := meet.Count(a, list[k])
			for turn := range 4 {
				for _, mirror := range []bool{false, true} {
					m := api.Motion{Turn: turn, Mirror: mirror}
					mustMeet(t, edge.Move(a, m), edge.Move(list[k], m), want)
				}
			}
		}
	}
}

func TestHowManyPointsThereCanBe(t *testing.T) {
	list := append(append(someEdges(), stretched()...), wide()...)
	for _, e := range list {
		want := -1
		if e.A == e.B {
			want = 1
		}
		mustMeet(t, e, e, want)
		mustMeet(t, e, edge.Reverse(e), want)
	}
	for i, a := range list {
		for k := i % 13; k < len(list); k += 13 {
			b, most, least := list[k], 2, 0
			switch lines := a.Kind == api.EdgeLine; {
			case lines != (b.Kind == api.EdgeLine):
			case lines:
				most, least = 1, -1
			case a.C == b.C && edge.Radius(a) == edge.Radius(b):
				least = -1
			}
			if got := meet.Count(a, b); got < least || got > most {
				t.Errorf("Count of %v and %v: %d", a, b, got)
			}
		}
	}
}

// P7.4

func TestLinesOfOnePointAreOnEdges(t *testing.T) {
	list := someEdges()
	for _, e := range list {
		for _, p := range grid(upTo(15)) {
			mustMeet(t, e, between(p, p), on(e, p))
		}
	}
	for _, e := range append(stretched(), wide()...) {
		for _, p := range []api.Point{e.A, e.B, e.C, at((e.A.X+e.B.X)/2, (e.A.Y+e.B.Y)/2)} {
			for _, r := range around(p) {
				want := on(e, r)
				if !bounded(r) {
					want = 0
				}
				mustMeet(t, e, between(r, r), want)
			}
		}
	}
}

// separate reports whether two boxes have no common point.
func separate(r, s api.Rect) bool {
	return r.X1 < s.X0 || s.X1 < r.X0 || r.Y1 < s.Y0 || s.Y1 < r.Y0
}

func TestEdgesWithSeparateBoxesDoNotMeet(t *testing.T) {
	count := 0
	list := append(append(someEdges(), stretched()...), wide()...)
	for _, a := range list {
		for _, b := range list {
			if separate(edge.Box(a), edge.Box(b)) {
				count++
				if meet.Count(a, b) != 0 || meet.Edges(a, b) {
					t.Errorf("%v and %v meet", a, b)
				}
			}
		}
	}
	if count < 1000 {
		t.Errorf("only %d pairs", count)
	}
}

// P1, and the rules R4 and R5 (there are no lists and no errors, and edges are values, for R1 to R3)

func TestAllArgumentsArePermitted(t *testing.T) {
	ends := []int{0, 1, -far, far + 1, math.MaxInt, math.MinInt}
	few := grid(ends)
	list := []api.Edge{q(), line(0, 0, 9, 9), line(-far, -far, far, far), left(far, -far, -far, far, -far, -far)}
	for k, a := range few {
		for i, b := range few {
			for _, kind := range []int{math.MinInt, -1, 0, 1, 2, 3, 4, math.MaxInt} {
				e := edgeOf(kind, a, b, few[(k+5*i)%len(few)])
				if edge.Check(e) == api.OK {
					continue
				}
				for _, r := range list {
					mustMeet(t, e, r, 0)
				}
				mustMeet(t, e, e, 0)
			}
		}
	}
}

// The same calls return the same results, whatever was called in between, and calls at one time do not disturb each other.
func TestCallsRepeat(t *testing.T) {
	list := append(someEdges(), wrongEdges()...)
	list = append(list, wide()[:20]...)
	var first []int
	for _, a := range list {
		for _, b := range list {
			first = append(first, meet.Count(a, b))
		}
	}
	var all sync.WaitGroup
	for range 4 {
		all.Go(func() {
			for n, want := range slices.Backward(first) {
				a, b := list[n/len(list)], list[n%len(list)]
				if meet.Count(a, b) != want || meet.Edges(a, b) != (want != 0) {
					t.Errorf("calls of %v and %v", a, b)
				}
			}
		})
	}
	all.Wait()
}
