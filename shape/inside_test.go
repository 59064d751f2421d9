package shape_test

import (
	"math"
	"math/big"
	"slices"
	"testing"

	"etchant/api"
	"etchant/edge"
	"etchant/shape"
	"etchant/vec"
)

// P9.5

// insideCase is a shape with what Inside must say of some points.
type insideCase struct {
	s       api.Shape
	in, out []api.Point
}

// mustAllBeInside reports an error unless Inside holds for the points of in, and not for those of out.
func mustAllBeInside(t *testing.T, list []insideCase) {
	t.Helper()
	for _, c := range list {
		for _, p := range c.in {
			mustBe(t, shape.Inside(c.s, p), true, "Inside of", c.s, p)
		}
		for _, p := range c.out {
			mustBe(t, shape.Inside(c.s, p), false, "Inside of", c.s, p)
		}
	}
}

func TestInsideOfPaths(t *testing.T) {
	long := line(0, 0, 40, 30) // 50 long
	mustAllBeInside(t, []insideCase{
		{s(), []api.Point{at(5, 2), at(-2, 0), at(14, 2), at(17, 5), at(16, 6), at(0, 0), at(15, 5), at(10, 2)}, []api.Point{at(5, 3), at(10, 3), at(-2, 1), at(10, 5), at(17, 6), at(14, -1)}},
		{shape.Disc(at(1, 1), 5), []api.Point{at(1, 1), at(4, 5), at(6, 1), at(1, -4), at(-2, -3)}, []api.Point{at(5, 5), at(7, 1), at(1, -5)}},
		{shape.Disc(at(1, 1), 0), []api.Point{at(1, 1)}, []api.Point{at(1, 2), at(0, 1), at(1<<62, 1)}},
		{path(5, long), []api.Point{at(-3, 4), at(3, -4), at(37, 34), at(43, 26), at(1, 7), at(7, -1), at(20, 15), at(-4, -3), at(44, 33), at(17, 19), at(-5, 0)}, []api.Point{at(-4, 4), at(-3, 5), at(1, 8), at(17, 20), at(44, 34), at(45, 33), at(16, 19)}},
		{path(4, long), []api.Point{at(-2, 3), at(4, 8)}, []api.Point{at(-3, 4), at(1, 7), at(37, 34), at(43, 26), at(-4, -3)}},
		{path(0, long), []api.Point{at(4, 3), at(36, 27), at(0, 0), at(40, 30)}, []api.Point{at(-4, -3), at(44, 33), at(4, 4), at(5, 3)}},
		{path(2, quarters(0, 0, 13)[0]), []api.Point{at(11, 0), at(12, 9), at(9, 12), at(15, 0), at(0, 11), at(14, -1), at(11, 2)}, []api.Point{at(10, 0), at(8, 7), at(11, -1), at(15, -1), at(16, 0), at(13, 8), at(-2, 14), at(0, 0), at(-12, -5), at(-13, 0)}},
		{path(2, edge.Reverse(quarters(0, 0, 13)[0])), []api.Point{at(11, 0), at(12, 9), at(14, -1), at(11, 2)}, []api.Point{at(10, 0), at(8, 7), at(11, -1), at(15, -1), at(-12, -5)}},
		{path(12, quarters(0, 0, 13)[0]), []api.Point{at(1, 0), at(0, 1), at(25, 0), at(15, 20), at(7, -10)}, []api.Point{at(0, 0), at(-1, 0), at(0, -1), at(26, 0), at(16, 20), at(6, -10)}},
		{path(13, quarters(0, 0, 13)[0]), []api.Point{at(0, 0), at(1, -5), at(-5, 1)}, []api.Point{at(-1, 0), at(-1, -1), at(0, -1)}}, // the pen comes up to the centre
		{path(20, quarters(0, 0, 13)[0]), []api.Point{at(0, 0), at(-2, 0), at(-7, 13), at(-1, -14), at(-15, 0)}, []api.Point{at(-16, 0), at(-14, -2), at(-13, -13)}},
		{path(0, quarters(0, 0, 13)...), []api.Point{at(5, 12), at(-5, 12), at(12, -5), at(-12, -5), at(0, 13)}, []api.Point{at(0, 0), at(5, 11), at(5, 13)}},
		{path(1, lines(at(0, 0), at(9, 0), at(9, 9), at(0, 9), at(0, 0))...), []api.Point{at(1, 1), at(8, 4), at(10, 3), at(-1, 0)}, []api.Point{at(2, 2), at(5, 5), at(10, 10), at(-1, -1)}}, // what a path goes around is not of it
	})
}

func TestInsideOfAreas(t *testing.T) {
	star := area(lines(at(0, 0), at(10, 10), at(10, 0), at(0, 10), at(0, 0))...)
	big, small := lines(at(0, 0), at(10, 0), at(10, 10), at(0, 10), at(0, 0)), lines(at(0, 0), at(4, 0), at(4, 4), at(0, 4), at(0, 0))
	ring := joined(quarters(0, 0, 10), lines(at(10, 0), at(5, 0)), reversed(quarters(0, 0, 5)), lines(at(5, 0), at(10, 0)))
	mustAllBeInside(t, []insideCase{
		{h(), []api.Point{at(3, 4), at(0, 2), at(1, 1), at(2, 0), at(5, 0), at(0, 5), at(0, 0), at(3, 3)}, []api.Point{at(4, 4), at(-1, 1), at(6, 0), at(1, -1), at(0, 6), at(1, 5)}},
		{star, []api.Point{at(1, 5), at(9, 5), at(5, 5), at(3, 3), at(0, 8), at(10, 10)}, []api.Point{at(5, 6), at(5, 4), at(-1, 5), at(11, 5), at(5, 0), at(5, 10)}},
		{area(joined(big, small)...), []api.Point{at(2, 2), at(8, 8), at(4, 2)}, []api.Point{at(11, 2), at(-1, 0)}},                    // twice around (2, 2)
		{area(joined(big, reversed(small))...), []api.Point{at(4, 2), at(8, 2), at(0, 2)}, []api.Point{at(2, 2), at(1, 3), at(11, 2)}}, // not around it
		{area(joined(big, reversed(big))...), []api.Point{at(0, 0), at(3, 0), at(10, 7)}, []api.Point{at(1, 1), at(5, 5)}},             // there and back
		{area(ring...), []api.Point{at(7, 0), at(0, 7), at(-6, 8), at(3, 4), at(0, -5), at(-7, 1)}, []api.Point{at(0, 0), at(4, 0), at(-3, 3), at(10, 1), at(8, 8)}},
		{area(quarters(0, 0, 5)[0], line(0, 5, 5, 0)), []api.Point{at(3, 3), at(3, 4), at(3, 2), at(4, 1)}, []api.Point{at(2, 2), at(1, 1), at(0, 0), at(4, 4)}},               // between an arc and its chord
		{area(quarters(0, 0, 5)[0], quarters(5, 5, 5)[2]), []api.Point{at(3, 3), at(2, 2), at(3, 4), at(2, 1), at(4, 1)}, []api.Point{at(1, 1), at(4, 4), at(0, 0), at(5, 5)}}, // between two arcs
		{area(line(0, 0, 8, 4), line(8, 4, 0, 0)), []api.Point{at(0, 0), at(4, 2), at(8, 4)}, []api.Point{at(3, 2), at(4, 3), at(10, 5)}},
		{area(dots(2)...), []api.Point{at(1, 1)}, []api.Point{at(1, 2), at(0, 1), at(2, 2)}},
		{shape.Rect(api.Rect{X0: -far, Y0: -far, X1: far, Y1: far}), []api.Point{at(far, far), at(-far, 3), at(0, 0)}, []api.Point{at(far+1, 0), at(0, -far-1), at(math.MinInt, 0), at(0, math.MaxInt)}},
	})
}

func TestInsideOfWrongShapes(t *testing.T) {
	wrong := []api.Shape{
		{},
		{Kind: 3, Edges: square()},
		{Kind: 0, Edges: square()},
		{Kind: 2, Edges: square(), R: 1},
		{Kind: 2, Edges: square(), R: -1},
		path(-1, square()...),
		path(thick+1, square()...),
		path(math.MaxInt, square()...),
		area(square()[:3]...),
		area(square()[0]),
		area(line(0, 0, 0, 0)),
		area(joined(square(), dots(1))...),
		path(1, joined(square(), dots(1))...),
		path(1, dots(41)...),
		area(dots(41)...),
		path(3),
		area(),
		shape.Disc(at(1, 1), -1),
		shape.Disc(at(far+1, 1), 5),
	}
	for _, e := range wrongEdges() {
		wrong = append(wrong, path(9, e), area(e, edge.Reverse(e)), path(9, joined(dots(1), []api.Edge{e})...))
	}
	for _, s := range wrong {
		points := append(grid(upTo(3)), at(far+1, 1), at(math.MinInt, 0))
		for _, e := range s.Edges {
			points = append(points, e.A, e.B, e.C)
		}
		for _, p := range points {
			mustBe(t, shape.Inside(s, p), false, "Inside of", s, p)
		}
	}
}

func TestSmallLines(t *testing.T) {
	found := tally{}
	points := grid([]int{0, 1, 2, 3})
	for _, a := range points {
		for _, b := range points {
			for r := range 4 {
				for _, p := range grid([]int{-3, -2, -1, 0, 1, 2, 3, 4, 6, 7}) {
					found[mustInside(t, path(r, between(a, b)), p)]++
				}
			}
		}
	}
	found.mustHave(t, 1000, "beside a line", "at an end", "not beside a line", "not at an end")
}

func TestSmallArcs(t *testing.T) {
	found := tally{}
	for _, radius := range []int{1, 2, 5, 10} {
		for _, e := range arcs(2, -1, radius) {
			for _, r := range []int{0, 1, 2, 3, 4, 5, 6, 9, 10, 11} {
				for _, p := range grid(upTo(23)) {
					found[mustInside(t, path(r, e), p)]++
				}
			}
		}
	}
	found.mustHave(t, 1000, "outside of an arc", "inside of an arc", "around the centre of an arc", "at an end", "not outside of an arc", "not inside of an arc", "not at an end")
}

// rim returns points of the circle with the radius r around c, or next to it, inside as well as outside: for several heights, those that are nearest to it on both sides.
func rim(c api.Point, r int) []api.Point {
	var list []api.Point
	for k := range 24 {
		x := r - int(int64(r)*int64(k)/24)
		if k%2 > 0 {
			x = r - min(r, k*k*k) // few steps from the end
		}
		square := minus(times(whole(r), whole(r)), times(whole(x), whole(x)))
		y := int(square.Sqrt(square).Int64())
		for _, d := range []api.Point{at(x, y), at(x, y+1), at(y, x), at(y+1, x)} {
			list = append(list, vec.Add(c, d), vec.Add(c, at(-d.X, d.Y)), vec.Add(c, at(d.X, -d.Y)), vec.Sub(c, d))
		}
	}
	return list
}

func TestDiscsFarOut(t *testing.T) {
	found := tally{}
	for _, c := range append(grid([]int{-far, 0, far}), at(3, 1-far)) {
		for _, r := range []int{0, 1, 5, 1000, thick - 1, thick} {
			for _, p := range rim(c, r) {
				found[mustInside(t, shape.Disc(c, r), p)]++
			}
			for _, p := range beside(c) {
				found[mustInside(t, shape.Disc(c, r), p)]++
			}
		}
	}
	found.mustHave(t, 1000, "at an end", "not at an end")
}

func TestArcsFarOut(t *testing.T) {
	found := tally{}
	for k, e := range wide() {
		radius := edge.Radius(e)
		for _, r := range []int{0, 1, 1000, thick - 1, thick} {
			list := append(rim(e.A, r), rim(e.B, r)...)
			list = append(append(list, rim(e.C, radius+r)...), rim(e.C, max(radius-r, r-radius))...)
			for i, p := range list {
				if (i+k)%7 == 0 {
					found[mustInside(t, path(r, e), p)]++
				}
			}
		}
		for _, p := range beside(e.A) {
			found[mustInside(t, path(thick, e), p)]++
		}
	}
	found.mustHave(t, 1000, "outside of an arc", "inside of an arc", "at an end", "not outside of an arc", "not inside of an arc", "not at an end")
	found.mustHave(t, 100, "around the centre of an arc")
}

// stripes returns points beside the line from a to b, spread along it, whose Cross with it is the greatest one that points can have up to n, and the ones next to that.
func stripes(a, b api.Point, n *big.Int) []api.Point {
	d, x, y := from(a, b), new(big.Int), new(big.Int)
	divisor := new(big.Int).GCD(x, y, d.x, new(big.Int).Neg(d.y)) // d.x x - d.y y
	m := new(big.Int).Div(n, divisor)
	var list []api.Point
	for _, m := range []*big.Int{minus(m, whole(1)), m, plus(m, whole(1))} {
		v := vector{times(y, m), times(x, m)}
		for k := range 12 { // by multiples of d back, to so many parts of the line
			t := new(big.Int).Div(minus(d.dot(v), new(big.Int).Div(times(d.square(), whole(k)), whole(9))), d.square())
			w := vector{minus(v.x, times(t, d.x)), minus(v.y, times(t, d.y))}
			list = append(list, vec.Add(a, at(int(w.x.Int64()), int(w.y.Int64()))))
		}
	}
	return list
}

// The greatest Cross of points that a pen comes over is the root of the square of R times the length.
func TestLinesFarOut(t *testing.T) {
	found, ties := tally{}, 0
	list := append(stretched(), line(-far, -far, far-2, far-1), line(3, -far, -7, far), line(-9000*7000, -far, 9000*7000, -far+9000*9000-7000*7000), line(-9, 40, 1000, 2000))
	for k, e := range list {
		if e.A == e.B {
			continue
		}
		d := from(e.A, e.B)
		for _, r := range []int{0, 1, 3, 1000, thick - 1, thick} {
			square := times(times(whole(r), whole(r)), d.square())
			widest := new(big.Int).Sqrt(square)
			if times(widest, widest).Cmp(square) == 0 {
				ties++
			}
			for i, p := range append(stripes(e.A, e.B, widest), stripes(e.A, e.B, new(big.Int).Neg(widest))...) {
				if k%37 == 36 || (i+k)%5 == 0 {
					found[mustInside(t, path(r, e), p)]++
				}
			}
			for _, p := range slices.Concat(rim(e.A, r)[:16], rim(e.B, r)[:16]) {
				found[mustInside(t, path(r, e), p)]++
			}
		}
		for _, p := range beside(e.A) {
			found[mustInside(t, path(thick, e), p)]++
		}
	}
	found.mustHave(t, 1000, "beside a line", "at an end", "not beside a line", "not at an end")
	if ties < 1000 {
		t.Errorf("only %d times a whole distance", ties)
	}
}

func TestSomePaths(t *testing.T) {
	d := dice(1)
	for _, size := range []int{12, 300, 1 << 20, far} {
		found := tally{}
		for k := range 1500 {
			s := path(min(thick, d.upTo(size/6)+size/6), someChain(1+k%40, size, &d)...)
			for range 8 {
				found[mustInside(t, s, at(d.upTo(size), d.upTo(size)))]++
			}
		}
		found.mustHave(t, 100, "beside a line", "outside of an arc", "inside of an arc", "not beside a line", "not outside of an arc", "not at an end")
		found.mustHave(t, 5, "not inside of an arc")
	}
}

func TestSomeAreas(t *testing.T) {
	d := dice(2)
	for _, size := range []int{4, 12, 300, 1 << 20, far} {
		found := tally{}
		for k := range 400 {
			s := area(someLoop(2+k%39, size, &d)...)
			for range 8 {
				p := at(d.upTo(size), d.upTo(size))
				found[mustInside(t, s, p)]++
				e := s.Edges[k%len(s.Edges)]
				found[mustInside(t, s, at(d.upTo(size), e.A.Y))]++ // at the height of an end
			}
		}
		found.mustHave(t, 15, "around 0", "around 1", "around 2", "around 3")
	}
}
