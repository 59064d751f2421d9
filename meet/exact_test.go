package meet_test

import (
	"testing"

	"etchant/api"
	"etchant/edge"
	"etchant/vec"
)

// P7.1 and P7.2, against what measuring says

// tally counts the pairs of edges by what Count returns for them: -1, 0, 1 or 2.
type tally map[int]int

// mustHave reports an error unless each of these counts was met with at least so often.
func (n tally) mustHave(t *testing.T, least int, counts ...int) {
	t.Helper()
	for _, count := range counts {
		if n[count] < least {
			t.Errorf("only %d pairs with the Count %d", n[count], count)
		}
	}
}

func TestAllSmallLines(t *testing.T) {
	met := tally{}
	points := grid([]int{0, 1, 2, 3})
	for i, a := range points {
		for _, b := range points[i:] {
			for _, c := range points {
				for _, d := range points {
					met[mustAgree(t, between(a, b), between(c, d))]++
				}
			}
		}
	}
	met.mustHave(t, 500, -1, 0, 1)
}

func TestAllSmallLinesAndArcs(t *testing.T) {
	met := tally{}
	points := grid(upTo(5))
	for _, r := range []int{1, 2, 4, 5} {
		arcs, k := quarters(0, 0, r), 0
		for i, a := range points {
			for _, b := range points[i:] {
				k++
				met[mustAgree(t, arcs[k&3], between(a, b))]++
			}
		}
	}
	met.mustHave(t, 200, 0, 1, 2)
}

func TestAllSmallArcs(t *testing.T) {
	met := tally{}
	for _, r := range []int{1, 2, 5} {
		for _, s := range []int{1, 3, 4, 5} {
			for _, c := range grid(upTo(7)) {
				for k, a := range quarters(0, 0, r) {
					for _, b := range quarters(c.X, c.Y, s)[k/2:] {
						met[mustAgree(t, a, b)]++
					}
				}
			}
		}
	}
	met.mustHave(t, 3, -1)
	met.mustHave(t, 100, 0, 1, 2)
}

func TestWideLines(t *testing.T) {
	met := tally{}
	list := stretched()
	for i, a := range list {
		for k := i % 17; k < len(list); k += 17 {
			met[mustAgree(t, a, list[k])]++
		}
	}
	met.mustHave(t, 500, -1, 0, 1)
}

func TestWideLinesAndArcs(t *testing.T) {
	met := tally{}
	list := stretched()
	for i, a := range wide() {
		for k := i % 11; k < len(list); k += 11 {
			met[mustAgree(t, a, list[k])]++
		}
	}
	met.mustHave(t, 50, 0, 1, 2)
}

func TestWideArcs(t *testing.T) {
	met := tally{}
	list := wide()
	for i, a := range list {
		for k := i % 2; k < len(list); k += 2 {
			met[mustAgree(t, a, list[k])]++
		}
	}
	met.mustHave(t, 20, -1, 0, 1, 2)
}

func TestSomeEdges(t *testing.T) {
	for _, size := range []int{20, 3000, 1 << 20, far / 3} {
		met := tally{}
		for seed := range uint64(4000) {
			n := someInts(8, size, seed)
			met[mustAgree(t, someEdge(n[:4], seed&1 > 0), someEdge(n[4:], seed&2 > 0))]++
		}
		met.mustHave(t, 100, 0, 1)
		met.mustHave(t, 5, 2)
	}
}

// lattice returns the points with whole coordinates of a circle with the radius 65 k around the origin.
func lattice(k int) []api.Point {
	var list []api.Point
	for _, p := range grid(upTo(65)) {
		if vec.Dot(p, p) == 65*65 {
			list = append(list, scaled(p, k))
		}
	}
	return list
}

// scales are those of the circles of lattice, up to the greatest one for which all edges made from it are right.
func scales() []int { return []int{1, 1000, far / 65 / 3} }

// on returns 1 if p is a point of e, and 0 otherwise.
func on(e api.Edge, p api.Point) int {
	if edge.On(e, p) {
		return 1
	}
	return 0
}

// A line through two points of a circle has no other ones in common with it, however far it leads on, and loses each of them when it ends one step before it.
func TestChords(t *testing.T) {
	for _, k := range scales() {
		points := lattice(k)
		for i, p := range points {
			for j, r := range points[:i] {
				d := vec.Sub(r, p)
				e := quarters(0, 0, 65*k)[j&3]
				mustMeet(t, e, between(p, r), on(e, p)+on(e, r))
				mustMeet(t, e, between(vec.Sub(p, d), vec.Add(r, d)), on(e, p)+on(e, r))
				mustMeet(t, e, between(vec.Sub(p, d), p), on(e, p))
				if k == 1 {
					continue
				}
				step := at(d.X/k, d.Y/k) // all coordinates are multiples of k
				mustMeet(t, e, between(vec.Add(p, step), vec.Add(r, step)), on(e, r))
				mustMeet(t, e, between(vec.Sub(p, step), vec.Sub(r, step)), on(e, p))
				mustMeet(t, e, between(vec.Add(p, step), vec.Sub(r, step)), 0)
				mustMeet(t, e, between(vec.Sub(p, step), vec.Add(r, step)), on(e, p)+on(e, r))
			}
		}
	}
}

// A line that touches a circle has one point in common with it, and none when it is moved away from the centre by one.
func TestTangents(t *testing.T) {
	for _, k := range scales() {
		for _, p := range lattice(k) {
			way := at(-p.Y, p.X)
			tangent := between(vec.Sub(p, way), vec.Add(p, way))
			for _, e := range quarters(0, 0, 65*k) {
				mustMeet(t, e, tangent, on(e, p))
				mustMeet(t, e, between(p, vec.Add(p, way)), on(e, p))
				mustMeet(t, e, between(vec.Sub(p, way), p), on(e, p))
				if k == 1 {
					continue
				}
				mustMeet(t, e, between(vec.Add(p, at(way.X/k, way.Y/k)), vec.Add(p, way)), 0)
				for _, d := range around(at(0, 0)) {
					moved := edge.Move(tangent, api.Motion{At: d})
					mustAgree(t, e, moved)
					if vec.Dot(p, d) > 0 {
						mustMeet(t, e, moved, 0)
					}
				}
			}
		}
	}
}

// Lines towards the centre, or away from it, that end on a circle, or beside such a point.
func TestSpokes(t *testing.T) {
	for _, k := range scales() {
		for _, p := range lattice(k) {
			for _, e := range quarters(0, 0, 65*k) {
				mustMeet(t, e, between(at(0, 0), p), on(e, p))
				mustMeet(t, e, between(p, scaled(p, 2)), on(e, p))
				for _, r := range around(p) {
					mustAgree(t, e, between(at(0, 0), r))
					mustAgree(t, e, between(r, scaled(p, 2)))
				}
			}
		}
	}
}

// Points that are nearly on a circle: the squares of their distances from the centre are one more, or one less, than that of the radius.
func TestPointsBesideCircles(t *testing.T) {
	for _, r := range []int{9, 1000, far / 2, far - 1} {
		e := quarters(0, 0, r)[0]
		for _, p := range []api.Point{at(r, 1), at(1, r)} {
			mustMeet(t, e, between(p, p), 0)
			mustMeet(t, e, between(p, vec.Add(p, at(1, 1))), 0)
			mustMeet(t, e, between(at(0, 0), p), 1)
		}
	}
	for _, c := range []struct{ r, x, y int }{{9, 4, 8}, {33, 8, 32}, {969, 44, 968}, {67108051, 179850, 67107810}} {
		e := quarters(0, 0, c.r)[0]
		for _, p := range []api.Point{at(c.x, c.y), at(c.y, c.x)} {
			if square := vec.Dot(p, p); square != c.r*c.r-1 {
				t.Fatalf("%v has the square %d", p, square)
			}
			mustMeet(t, e, between(at(0, 0), p), 0)
			mustMeet(t, e, between(p, vec.Add(p, at(1, 1))), 1)
		}
	}
}

// The circle around p + r, which are points of a circle around the origin, with its radius meets it in p and r, and in no other points.
func TestCirclesThroughTwoPoints(t *testing.T) {
	for _, k := range scales() {
		points := lattice(k)
		for i, p := range points {
			for j, r := range points[:i] {
				c := vec.Add(p, r)
				if c == at(0, 0) {
					continue
				}
				a := quarters(0, 0, 65*k)[j&3]
				for _, b := range quarters(c.X, c.Y, 65*k) {
					mustMeet(t, a, b, on(a, p)*on(b, p)+on(a, r)*on(b, r))
				}
			}
		}
	}
}

// Circles with the centres 0 and c that touch, with radii of which the sum, or the difference, is the distance of c; when one radius is one less, they do not meet.
func TestTouchingCircles(t *testing.T) {
	for _, k := range scales() {
		ways := quarters(0, 0, 65*k)
		for _, c := range lattice(k) {
			back := at(-c.X, -c.Y)
			for _, s := range []int{1 + k/2, 13 * k, 32*k + k/3, 52*k + 1, 64*k + k/2} {
				for i, way := range ways {
					for _, j := range []int{i, i ^ 2, (s + c.X) & 3} {
						mustTouch(t, i, j, c, 65*k-s, s, on(way, c)*on(ways[j], back))
						mustTouch(t, i, j, c, 65*k+s, s, on(way, c)*on(ways[j], c))
					}
				}
			}
		}
	}
}

// mustTouch reports an error unless the i-th quarter of the circle with the radius r around the origin and the j-th one of that with s around c meet so often, and not at all when s is one less; it also checks what they do when s is one more.
func mustTouch(t *testing.T, i, j int, c api.Point, r, s, want int) {
	t.Helper()
	a := quarters(0, 0, r)[i]
	mustMeet(t, a, quarters(c.X, c.Y, s)[j], want)
	if s > 1 {
		mustMeet(t, a, quarters(c.X, c.Y, s-1)[j], 0)
	}
	mustAgree(t, a, quarters(c.X, c.Y, s+1)[j])
}
