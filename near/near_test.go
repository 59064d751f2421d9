package near_test

import (
	"testing"

	"etchant/api"
	"etchant/edge"
	"etchant/near"
	"etchant/root"
)

// l and a are those of the chapter's examples.
func l() api.Edge { return line(0, 0, 10, 0) }
func a() api.Edge { return left(10, 0, 0, 10, 0, 0) }

// P8.1

// pointCase is a call of Point, with the text of the distance.
type pointCase struct {
	e    api.Edge
	p    api.Point
	dist string
	spot api.Spot
}

// mustAllBe reports an error unless Point returns what all cases say, and measuring says the same.
func mustAllBe(t *testing.T, list []pointCase) {
	t.Helper()
	for _, c := range list {
		dist, spot := near.Point(c.e, c.p)
		if !root.Right(dist) || root.Text(dist) != c.dist || spot != c.spot {
			t.Errorf("Point of %v and %v: %s, %v, not %s, %v", c.e, c.p, root.Text(dist), spot, c.dist, c.spot)
		}
		mustPoint(t, c.e, c.p)
	}
}

func TestPointAndLine(t *testing.T) {
	slope := line(1, 1, 4, 3)
	upright := line(2, 7, 2, -7)
	long := line(-far, -far, far, far)
	mustAllBe(t, []pointCase{
		{l(), at(3, 4), "0+r16", foot(at(0, 0), at(10, 0), 30, 100)},
		{l(), at(13, 4), "0+r25", end(10, 0)},
		{l(), at(-3, 0), "0+r9", end(0, 0)},
		{l(), at(3, -4), "0+r16", foot(at(0, 0), at(10, 0), 30, 100)},
		{l(), at(4, 0), "0", foot(at(0, 0), at(10, 0), 40, 100)}, // points of the line
		{l(), at(0, 0), "0", end(0, 0)},
		{l(), at(10, 0), "0", end(10, 0)},
		{l(), at(0, 5), "0+r25", end(0, 0)}, // straight above the ends, and one step beside
		{l(), at(10, 5), "0+r25", end(10, 0)},
		{l(), at(1, 5), "0+r25", foot(at(0, 0), at(10, 0), 10, 100)},
		{l(), at(9, 5), "0+r25", foot(at(0, 0), at(10, 0), 90, 100)},
		{l(), at(-1, 5), "0+r26", end(0, 0)},
		{l(), at(11, 5), "0+r26", end(10, 0)},
		{edge.Reverse(l()), at(3, 4), "0+r16", foot(at(10, 0), at(-10, 0), 70, 100)},
		{edge.Reverse(l()), at(10, 5), "0+r25", end(10, 0)},
		{slope, at(2, 4), "0+r49/13", foot(at(1, 1), at(3, 2), 9, 13)},
		{slope, at(-1, 4), "0+r13", end(1, 1)},
		{slope, at(2, 6), "0+r13", end(4, 3)},
		{slope, at(2, 5), "0+r100/13", foot(at(1, 1), at(3, 2), 11, 13)},
		{line(0, 0, 2, 2), at(0, 2), "0+r2", foot(at(0, 0), at(2, 2), 4, 8)}, // 16 / 8: the root in lowest terms, the spot as it is
		{line(0, 0, 6, 2), at(2, 4), "0+r10", foot(at(0, 0), at(6, 2), 20, 40)},
		{line(0, 0, 6, 2), at(2, 3), "0+r49/10", foot(at(0, 0), at(6, 2), 18, 40)},
		{upright, at(5, 0), "0+r9", foot(at(2, 7), at(0, -14), 98, 196)},
		{upright, at(5, 8), "0+r10", end(2, 7)},
		{line(2, 2, 2, 2), at(5, 6), "0+r25", end(2, 2)}, // ends that are equal
		{line(2, 2, 2, 2), at(2, 2), "0", end(2, 2)},
		{long, at(far, -far), "0+r9007199254740992", foot(at(-far, -far), at(2*far, 2*far), 18014398509481984, 36028797018963968)},
		{long, at(1, 0), "0+r1/2", foot(at(-far, -far), at(2*far, 2*far), 18014398643699712, 36028797018963968)},
		{long, at(far, far), "0", end(far, far)},
		{long, at(far, far-1), "0+r1/2", foot(at(-far, -far), at(2*far, 2*far), 36028796884746240, 36028797018963968)},
		{line(-far, -far, -far, -far), at(far, far), "0+r36028797018963968", end(-far, -far)},
		{line(-far, 1-far, far, far), at(far, 1-far), "0+r324518548822723466339037831233536/36028796750528513", foot(at(-far, 1-far), at(2*far, 2*far-1), 18014398509481984, 36028796750528513)},
	})
}

func TestPointAndArc(t *testing.T) {
	right := edge.Reverse(a())
	off := quarters(100, 200, 25)
	mustAllBe(t, []pointCase{
		{a(), at(6, 8), "-10+r100", round(at(0, 0), at(6, 8), 10)}, // on the arc, and on both sides of it
		{a(), at(3, 4), "10-r25", round(at(0, 0), at(3, 4), 10)},
		{a(), at(9, 12), "-10+r225", round(at(0, 0), at(9, 12), 10)},
		{a(), at(7, 7), "10-r98", round(at(0, 0), at(7, 7), 10)},
		{a(), at(7, 8), "-10+r113", round(at(0, 0), at(7, 8), 10)},
		{a(), at(0, 0), "0+r100", end(10, 0)}, // the centre is equally far from both ends
		{right, at(0, 0), "0+r100", end(0, 10)},
		{a(), at(-1, -1), "0+r122", end(10, 0)},
		{right, at(-1, -1), "0+r122", end(0, 10)},
		{a(), at(-1, -2), "0+r125", end(10, 0)},
		{a(), at(-2, -1), "0+r125", end(0, 10)},
		{a(), at(-3, 0), "0+r109", end(0, 10)}, // beyond the quarter
		{a(), at(0, -3), "0+r109", end(10, 0)},
		{a(), at(0, 3), "10-r9", round(at(0, 0), at(0, 3), 10)}, // towards the ends
		{a(), at(3, 0), "10-r9", round(at(0, 0), at(3, 0), 10)},
		{a(), at(12, 0), "-10+r144", round(at(0, 0), at(12, 0), 10)},
		{a(), at(0, 10), "-10+r100", round(at(0, 0), at(0, 10), 10)},
		{a(), at(10, 0), "-10+r100", round(at(0, 0), at(10, 0), 10)},
		{a(), at(12, -1), "0+r5", end(10, 0)}, // beside the ends
		{a(), at(-1, 12), "0+r5", end(0, 10)},
		{a(), at(1, 12), "-10+r145", round(at(0, 0), at(1, 12), 10)},
		{right, at(9, 12), "-10+r225", round(at(0, 0), at(9, 12), 10)},
		{right, at(12, -1), "0+r5", end(10, 0)},
		{right, at(-9, -12), "0+r505", end(10, 0)},
		{off[0], at(103, 204), "25-r25", round(at(100, 200), at(3, 4), 25)},
		{off[1], at(97, 204), "25-r25", round(at(100, 200), at(-3, 4), 25)},
		{off[2], at(97, 196), "25-r25", round(at(100, 200), at(-3, -4), 25)},
		{off[3], at(103, 196), "25-r25", round(at(100, 200), at(3, -4), 25)},
		{off[0], at(97, 196), "0+r800", end(125, 200)},
		{off[1], at(103, 196), "0+r800", end(75, 200)},
		{left(far, -far, -far, far, -far, -far), at(far, far), "-134217728+r36028797018963968", round(at(-far, -far), at(2*far, 2*far), 2*far)},
		{left(far, -far, -far, far, -far, -far), at(1-far, -far), "134217728-r1", round(at(-far, -far), at(1, 0), 2*far)},
		{left(1-far, -far, -far, 1-far, -far, -far), at(far, far), "-1+r36028797018963968", round(at(-far, -far), at(2*far, 2*far), 1)},
	})
}

func TestPointOfWhatIsNotRight(t *testing.T) {
	points := []api.Point{at(0, 0), at(3, 4), at(5, 0), at(far, far)}
	for _, e := range wrongEdges() {
		for _, p := range append(points, e.A, e.B, e.C) {
			if dist, spot := near.Point(e, p); !isZero(dist, spot) {
				t.Errorf("Point of %v and %v: %v, %v", e, p, dist, spot)
			}
		}
	}
	for _, p := range wrongPoints() {
		for _, e := range append(someEdges(), between(p, p), line(far, far, -far, far)) {
			if dist, spot := near.Point(e, p); !isZero(dist, spot) {
				t.Errorf("Point of %v and %v: %v, %v", e, p, dist, spot)
			}
		}
	}
}

// P8.2

// edgesCase is a call of Edges, with the text of the distance.
type edgesCase struct {
	a, b         api.Edge
	dist         string
	spotA, spotB api.Spot
}

// mustAllBeApart reports an error unless Edges returns what all cases say, and measuring says the same.
func mustAllBeApart(t *testing.T, list []edgesCase) {
	t.Helper()
	for _, c := range list {
		dist, s, u := near.Edges(c.a, c.b)
		if !root.Right(dist) || root.Text(dist) != c.dist || s != c.spotA || u != c.spotB {
			t.Errorf("Edges of %v and %v: %s, %v, %v, not %s, %v, %v", c.a, c.b, root.Text(dist), s, u, c.dist, c.spotA, c.spotB)
		}
		mustEdges(t, c.a, c.b)
	}
}

func TestTwoLines(t *testing.T) {
	foot20 := foot(at(0, 0), at(10, 0), 20, 100)
	mustAllBeApart(t, []edgesCase{
		{l(), line(2, 3, 12, 8), "0+r9", foot20, end(2, 3)},
		{l(), line(12, 8, 2, 3), "0+r9", foot20, end(2, 3)},
		{line(2, 3, 12, 8), l(), "0+r9", end(2, 3), foot20},
		{l(), line(13, 4, 20, 4), "0+r25", end(10, 0), end(13, 4)},
		{l(), line(13, 4, 9, 20), "0+r25", end(10, 0), end(13, 4)},
		{l(), line(12, 0, 20, 0), "0+r4", end(10, 0), end(12, 0)}, // on one line
		{line(20, 0, 12, 0), line(-5, 0, 10, 0), "0+r4", end(12, 0), end(10, 0)},
		{l(), line(4, 3, 4, 3), "0+r9", foot(at(0, 0), at(10, 0), 40, 100), end(4, 3)}, // single points
		{line(4, 3, 4, 3), l(), "0+r9", end(4, 3), foot(at(0, 0), at(10, 0), 40, 100)},
		{line(1, 1, 1, 1), line(4, 5, 4, 5), "0+r25", end(1, 1), end(4, 5)},
		{line(0, 0, 3, 1), line(5, 0, 0, 5), "0+r1/2", end(3, 1), foot(at(5, 0), at(-5, 5), 15, 50)},
		{line(-far, -far, far, far), line(1-far, -far, far, far-1), "0+r1/2", foot(at(-far, -far), at(2*far, 2*far), 134217728, 36028797018963968), end(1-far, -far)},
		{line(-far, -far, -far, far), line(far, -far, far, far), "0+r18014398509481984", end(-far, -far), end(far, -far)},
	})
}

// The first of several pairs that are equally near is the one with a.A; then those with a.B, b.A and b.B follow.
func TestFirstOfEqualPairs(t *testing.T) {
	mustAllBeApart(t, []edgesCase{
		{l(), line(0, 2, 10, 2), "0+r4", end(0, 0), end(0, 2)},
		{l(), line(10, 2, 0, 2), "0+r4", end(0, 0), end(0, 2)},
		{edge.Reverse(l()), line(0, 2, 10, 2), "0+r4", end(10, 0), end(10, 2)},
		{line(0, 2, 10, 2), l(), "0+r4", end(0, 2), end(0, 0)},
		{l(), line(5, 2, 15, 2), "0+r4", end(10, 0), foot(at(5, 2), at(10, 0), 50, 100)},                           // a.B and b.A
		{l(), line(3, 2, 7, 2), "0+r4", foot(at(0, 0), at(10, 0), 30, 100), end(3, 2)},                             // b.A and b.B
		{l(), line(7, 2, 3, 2), "0+r4", foot(at(0, 0), at(10, 0), 70, 100), end(7, 2)},                             // the same
		{line(3, 2, 7, 2), l(), "0+r4", end(3, 2), foot(at(0, 0), at(10, 0), 30, 100)},                             // a.A and a.B
		{l(), line(5, 2, -5, 2), "0+r4", end(0, 0), foot(at(5, 2), at(-10, 0), 50, 100)},                           // a.A and b.A
		{l(), line(-5, 2, 5, 2), "0+r4", end(0, 0), foot(at(-5, 2), at(10, 0), 50, 100)},                           // a.A and b.B
		{line(20, 0, 12, 5), line(12, 3, 10, 1), "0+r256/89", foot(at(20, 0), at(-8, 5), 79, 89), end(12, 3)},      // b.A alone
		{line(20, 0, 12, 5), line(10, 1, 12, 3), "0+r256/89", foot(at(20, 0), at(-8, 5), 79, 89), end(12, 3)},      // b.B alone
		{a(), line(20, -5, 20, 5), "0+r100", end(10, 0), foot(at(20, -5), at(0, 10), 50, 100)},                     // an end, and what lies at right angles
		{line(20, -5, 20, 5), a(), "0+r100", foot(at(20, -5), at(0, 10), 50, 100), end(10, 0)},                     // the same
		{a(), line(20, 0, 25, 0), "0+r100", end(10, 0), end(20, 0)},                                                // the end of an arc, seen from both sides
		{line(20, 0, 25, 0), a(), "-10+r400", end(20, 0), round(at(0, 0), at(20, 0), 10)},                          // the same
		{line(20, 0, 20, 0), a(), "-10+r400", end(20, 0), round(at(0, 0), at(20, 0), 10)},                          // a single point
		{a(), quarters(30, 0, 5)[1], "-5+r400", end(10, 0), round(at(30, 0), at(-20, 0), 5)},                       // two ends that face each other
		{a(), quarters(0, 0, 4)[0], "-4+r100", end(10, 0), round(at(0, 0), at(10, 0), 4)},                          // around one centre
		{quarters(0, 0, 4)[0], a(), "10-r16", end(4, 0), round(at(0, 0), at(4, 0), 10)},                            // the same
		{a(), edge.Reverse(quarters(0, 0, 4)[0]), "-4+r100", end(10, 0), round(at(0, 0), at(10, 0), 4)},            // the same
		{edge.Reverse(a()), quarters(0, 0, 4)[0], "-4+r100", end(0, 10), round(at(0, 0), at(0, 10), 4)},            // the same
		{a(), quarters(0, 0, 4)[2], "0+r116", end(10, 0), end(0, -4)},                                              // on both sides of one centre
		{a(), quarters(0, 0, 4)[1], "-4+r100", end(0, 10), round(at(0, 0), at(0, 10), 4)},                          // side by side
		{quarters(0, 0, 4)[1], quarters(0, 0, 10)[0], "10-r16", end(0, 4), round(at(0, 0), at(0, 4), 10)},          // the same
		{line(1, 1, 1, 1), quarters(0, 0, 10)[0], "10-r2", end(1, 1), round(at(0, 0), at(1, 1), 10)},               // inside of a circle
		{line(0, 0, 0, 0), quarters(0, 0, 10)[0], "0+r100", end(0, 0), end(10, 0)},                                 // its centre
		{quarters(0, 0, 10)[0], line(-3, -3, 0, 0), "0+r100", end(10, 0), end(0, 0)},                               // a line to its centre
		{quarters(0, 0, 10)[0], line(-3, -4, 3, 4), "10-r25", round(at(0, 0), at(3, 4), 10), end(3, 4)},            // through it
		{quarters(0, 0, 10)[0], line(-4, 7, 7, -4), "0+r49/2", end(10, 0), foot(at(-4, 7), at(11, -11), 231, 242)}, // across it
	})
}

func TestLineAndArc(t *testing.T) {
	mustAllBeApart(t, []edgesCase{
		{a(), line(20, 0, 0, 20), "-10+r200", round(at(0, 0), at(20, 20), 10), foot(at(20, 0), at(-20, 20), 400, 800)},
		{line(20, 0, 0, 20), a(), "-10+r200", foot(at(20, 0), at(-20, 20), 400, 800), round(at(0, 0), at(20, 20), 10)},
		{line(0, 20, 20, 0), a(), "-10+r200", foot(at(0, 20), at(20, -20), 400, 800), round(at(0, 0), at(20, 20), 10)},
		{edge.Reverse(a()), line(20, 0, 0, 20), "-10+r200", round(at(0, 0), at(20, 20), 10), foot(at(20, 0), at(-20, 20), 400, 800)},
		{a(), line(-5, -5, -5, 20), "0+r25", end(0, 10), foot(at(-5, -5), at(0, 25), 375, 625)},
		{a(), line(-20, 0, 0, -20), "0+r450", end(10, 0), foot(at(-20, 0), at(20, -20), 600, 800)}, // on the other side of the centre
		{quarters(0, 0, 10)[2], line(-20, 0, 0, -20), "-10+r200", round(at(0, 0), at(-20, -20), 10), foot(at(-20, 0), at(20, -20), 400, 800)},
		{quarters(0, 0, 10)[1], line(-20, 0, 0, 20), "-10+r200", round(at(0, 0), at(-20, 20), 10), foot(at(-20, 0), at(20, 20), 400, 800)},
		{quarters(0, 0, 10)[3], line(20, 0, 0, -20), "-10+r200", round(at(0, 0), at(20, -20), 10), foot(at(20, 0), at(-20, -20), 400, 800)},
		{quarters(30, 40, 10)[0], line(50, 40, 30, 60), "-10+r200", round(at(30, 40), at(20, 20), 10), foot(at(50, 40), at(-20, 20), 400, 800)},
		{a(), line(20, 1, 1, 20), "-10+r441/2", round(at(0, 0), at(19, 19), 10), foot(at(20, 1), at(-19, 19), 361, 722)},
		{a(), line(9, 12, 20, 30), "-10+r225", round(at(0, 0), at(9, 12), 10), end(9, 12)},     // the nearest point is an end
		{a(), line(11, 11, 40, -18), "-10+r242", round(at(0, 0), at(11, 11), 10), end(11, 11)}, // which is straight above the centre
		{a(), line(10, 12, 39, -17), "-10+r242", round(at(0, 0), at(29, 29), 10), foot(at(10, 12), at(29, -29), 58, 1682)},
		{a(), line(1, 1, 5, 5), "10-r50", round(at(0, 0), at(5, 5), 10), end(5, 5)}, // inside of the circle
		{a(), line(3, 4, 4, 3), "10-r25", round(at(0, 0), at(3, 4), 10), end(3, 4)},
		{a(), line(2, 3, 3, 2), "10-r13", round(at(0, 0), at(2, 3), 10), end(2, 3)},
		{a(), line(-15, 0, 0, -15), "0+r625/2", end(10, 0), foot(at(-15, 0), at(15, -15), 375, 450)},
		{a(), line(-20, 30, 30, 30), "0+r400", end(0, 10), foot(at(-20, 30), at(50, 0), 1000, 2500)}, // the direction of an end
	})
}

func TestTwoArcs(t *testing.T) {
	mustAllBeApart(t, []edgesCase{
		{a(), left(15, 20, 20, 15, 20, 20), "-15+r800", round(at(0, 0), at(20, 20), 10), round(at(20, 20), at(-20, -20), 5)},
		{left(15, 20, 20, 15, 20, 20), a(), "-15+r800", round(at(20, 20), at(-20, -20), 5), round(at(0, 0), at(20, 20), 10)},
		{edge.Reverse(a()), edge.Reverse(left(15, 20, 20, 15, 20, 20)), "-15+r800", round(at(0, 0), at(20, 20), 10), round(at(20, 20), at(-20, -20), 5)},
		{a(), quarters(1, 1, 3)[0], "7-r2", round(at(0, 0), at(1, 1), 10), round(at(1, 1), at(1, 1), 3)}, // one circle inside of the other one
		{quarters(1, 1, 3)[0], a(), "7-r2", round(at(1, 1), at(1, 1), 3), round(at(0, 0), at(1, 1), 10)},
		{a(), quarters(-1, -1, 3)[0], "-3+r122", end(10, 0), round(at(-1, -1), at(11, 1), 3)},
		{quarters(0, 0, 10)[2], quarters(-1, -2, 3)[2], "7-r5", round(at(0, 0), at(-1, -2), 10), round(at(-1, -2), at(-1, -2), 3)},
		{a(), quarters(20, 20, 5)[0], "-10+r1025", round(at(0, 0), at(25, 20), 10), end(25, 20)}, // one of them turned away
		{a(), quarters(20, 20, 5)[1], "-10+r625", round(at(0, 0), at(15, 20), 10), end(15, 20)},
		{quarters(0, 0, 10)[1], quarters(20, 20, 5)[2], "-5+r500", end(0, 10), round(at(20, 20), at(-20, -10), 5)},
		{quarters(0, 0, 10)[2], quarters(20, 20, 5)[2], "-5+r1300", end(-10, 0), round(at(20, 20), at(-30, -20), 5)},
	})
}

func TestEdgesThatMeet(t *testing.T) {
	for _, c := range []struct{ a, b api.Edge }{
		{a(), l()},
		{l(), l()},
		{a(), a()},
		{a(), edge.Reverse(a())},
		{l(), line(5, -1, 5, 1)},
		{l(), line(5, 0, 5, 0)},
		{line(5, 0, 5, 0), line(5, 0, 5, 0)},
		{a(), line(6, 8, 20, 8)},
		{a(), line(0, 0, 20, 20)},
		{a(), quarters(12, 9, 5)[2]}, // circles that touch
		{a(), quarters(12, 16, 10)[2]},
		{a(), line(6, 8, 6, 8)},
		{line(-far, -far, far, far), line(-far, far, far, -far)},
	} {
		for range 2 {
			if dist, s, u := near.Edges(c.a, c.b); !isZero(dist, s, u) {
				t.Errorf("Edges of %v and %v: %v, %v, %v", c.a, c.b, dist, s, u)
			}
			c.a, c.b = c.b, c.a
		}
	}
}

func TestEdgesOfWhatIsNotRight(t *testing.T) {
	list := []api.Edge{l(), a(), edge.Reverse(a()), line(30, 40, 50, 40), quarters(20, 30, 5)[2], between(at(7, 7), at(7, 7))}
	for _, e := range wrongEdges() {
		for _, b := range append(list, e) {
			for range 2 {
				if dist, s, u := near.Edges(e, b); !isZero(dist, s, u) {
					t.Errorf("Edges of %v and %v: %v, %v, %v", e, b, dist, s, u)
				}
				e, b = b, e
			}
		}
	}
}
