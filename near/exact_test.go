package near_test

import (
	"testing"

	"etchant/api"
	"etchant/edge"
	"etchant/vec"
)

// P8.1 and P8.2, against what measuring says

func TestPointsAndAllSmallLines(t *testing.T) {
	found := tally{}
	points := grid([]int{0, 1, 2, 3})
	for _, a := range points {
		for _, b := range points {
			for _, p := range grid([]int{-1, 0, 1, 2, 3, 5}) {
				found[mustPoint(t, between(a, b), p)]++
			}
		}
	}
	found.mustHave(t, 1000, "foot", "first end", "second end")
}

func TestPointsAndSmallArcs(t *testing.T) {
	found := tally{}
	for _, r := range []int{1, 2, 5} {
		for _, e := range arcs(1, -2, r) {
			for _, p := range grid(upTo(8)) {
				found[mustPoint(t, e, p)]++
			}
		}
	}
	found.mustHave(t, 100, "inside", "outside", "first end", "second end")
}

// corners returns points near the ends and the middle of an edge, and far away from it, of which all are right.
func corners(e api.Edge) []api.Point {
	middle := at((e.A.X+e.B.X)/2, (e.A.Y+e.B.Y)/2)
	list := []api.Point{at(far, far), at(-far, far), at(3, -far)}
	for _, p := range []api.Point{e.A, e.B, e.C, middle} {
		for _, d := range []api.Point{at(0, 0), at(1, 0), at(-1, 1), at(0, -1)} {
			if q := vec.Add(p, d); bounded(q) {
				list = append(list, q)
			}
		}
	}
	return list
}

func TestPointsFarOut(t *testing.T) {
	found := tally{}
	for k, e := range append(stretched(), wide()...) {
		for i, p := range corners(e) {
			if e.Kind != api.EdgeLine || (i+k)%3 == 0 {
				found[mustPoint(t, e, p)]++
			}
		}
	}
	found.mustHave(t, 200, "foot", "inside", "outside", "first end", "second end")
}

func TestSomePoints(t *testing.T) {
	for _, size := range []int{20, 3000, 1 << 20, far / 3} {
		found := tally{}
		for seed := range uint64(3000) {
			n := someInts(6, size, seed)
			found[mustPoint(t, someEdge(n[:4], seed&1 > 0), at(n[4], n[5]))]++
		}
		found.mustHave(t, 50, "foot", "inside", "outside", "first end", "second end")
	}
}

func TestPairsOfSmallLines(t *testing.T) {
	found := tally{}
	points, k := grid([]int{0, 1, 2, 3}), 0
	for i, a := range points {
		for _, b := range points[i:] {
			for _, c := range points {
				for _, d := range points {
					if k++; k%3 == 0 {
						found[mustEdges(t, between(a, b), between(c, d))]++
					}
				}
			}
		}
	}
	found.mustHave(t, 500, "foot", "first end", "second end", "meet")
}

func TestPairsOfSmallLinesAndArcs(t *testing.T) {
	found := tally{}
	points, k := grid([]int{-7, -4, -2, 0, 1, 3, 6}), 0
	for _, r := range []int{1, 3, 5} {
		list := arcs(0, 0, r)
		for i, a := range points {
			for _, b := range points[i:] {
				k++
				found[mustEdges(t, list[k&7], between(a, b))]++
				found[mustEdges(t, between(b, a), list[k>>3&7])]++
			}
		}
	}
	found.mustHave(t, 30, "before", "foot", "inside", "outside", "first end", "second end", "meet")
}

func TestPairsOfSmallArcs(t *testing.T) {
	found := tally{}
	for _, r := range []int{1, 2, 5, 6} {
		for _, s := range []int{1, 3, 4, 7} {
			for i, c := range grid(upTo(7)) {
				for k, b := range arcs(c.X, c.Y, s) {
					if (i+k)%2 == 0 {
						found[mustEdges(t, arcs(0, 0, r)[(i/2+k*5)&7], b)]++
					}
				}
			}
		}
	}
	found.mustHave(t, 20, "apart", "around the first", "around the second", "inside", "outside", "first end", "second end", "meet")
}

func TestPairsFarOut(t *testing.T) {
	found := tally{}
	lines, quarters := stretched(), wide()
	for i, a := range lines {
		for k := i % 101; k < len(lines); k += 101 {
			found[mustEdges(t, a, lines[k])]++
		}
	}
	for i, a := range quarters {
		for k := i % 53; k < len(lines); k += 53 {
			found[mustEdges(t, a, lines[k])]++
			found[mustEdges(t, lines[k], a)]++
		}
		for k := i % 5; k < len(quarters); k += 5 {
			found[mustEdges(t, a, quarters[k])]++
		}
	}
	found.mustHave(t, 10, "apart", "around the first", "around the second", "foot", "inside", "outside", "first end", "second end", "meet")
}

func TestSomePairs(t *testing.T) {
	for _, size := range []int{20, 3000, 1 << 20, far / 3} {
		found := tally{}
		for seed := range uint64(5000) {
			n := someInts(8, size, seed)
			if seed%3 == 0 { // around one place, and the second one smaller
				for _, k := range []int{0, 1, 4, 5, 6} {
					n[k] /= 5
				}
			}
			found[mustEdges(t, someEdge(n[:4], seed&1 > 0), someEdge(n[4:], seed&2 > 0))]++
		}
		found.mustHave(t, 10, "before", "apart", "foot", "inside", "outside", "first end", "second end", "meet")
		found.mustHave(t, 1, "around the first", "around the second")
	}
}

// Lines at right angles to what leads from a centre through a point of its circle: the nearest points are there, until they touch.
func TestLinesBesideArcs(t *testing.T) {
	found := tally{}
	for _, k := range []int{1, 1000, far / 65 / 3} {
		for _, p := range []api.Point{at(16*k, 63*k), at(63*k, -16*k), at(-33*k, 56*k), at(-52*k, -39*k), at(65*k, 0), at(0, -65*k)} {
			way := at(-p.Y/k*min(k, 1000), p.X/k*min(k, 1000))
			for _, e := range arcs(0, 0, 65*k) {
				for _, step := range []int{0, 1, 2, 9} {
					foot := vec.Add(p, scaled(at(p.X/k, p.Y/k), step)) // steps of 65 away from the centre
					for _, q := range around(foot) {
						beside := between(vec.Sub(q, way), vec.Add(q, way))
						found[mustEdges(t, e, beside)]++
						found[mustEdges(t, edge.Reverse(beside), e)]++
						found[mustEdges(t, between(q, vec.Add(q, way)), e)]++
					}
				}
			}
		}
	}
	found.mustHave(t, 500, "before", "outside", "meet")
}

// Circles around points of one line through their centres, which touch, or miss each other by little.
func TestArcsFaceToFace(t *testing.T) {
	found := tally{}
	for _, k := range []int{1, 1000, far / 65 / 3} {
		for _, c := range []api.Point{at(16*k, 63*k), at(63*k, -16*k), at(-33*k, 56*k), at(-52*k, -39*k), at(65*k, 0), at(0, -65*k)} {
			for i, s := range []int{1, 20 * k, 32*k + 1, 64 * k} {
				for j, d := range []int{-2, -1, 0, 1, 2} {
					for n := range 8 {
						if r := 65*k - s + d; r > 0 { // outside of each other
							found[mustEdges(t, arcs(0, 0, r)[n], arcs(c.X, c.Y, s)[(n+i+j+2)&7])]++
							found[mustEdges(t, arcs(c.X, c.Y, s)[n], arcs(0, 0, r)[n^2])]++
						}
						r := 65*k + s + d // the second one inside of the first one
						found[mustEdges(t, arcs(0, 0, r)[n], arcs(c.X, c.Y, s)[n])]++
						found[mustEdges(t, arcs(c.X, c.Y, s)[n], arcs(0, 0, r)[(n+i*j)&7])]++
					}
				}
			}
		}
	}
	found.mustHave(t, 50, "apart", "around the first", "around the second", "inside", "outside", "first end", "second end", "meet")
}
