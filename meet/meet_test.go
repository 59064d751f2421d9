package meet_test

import (
	"testing"

	"etchant/api"
	"etchant/edge"
	"etchant/meet"
)

// P7.1 and P7.2

// pairOf is two edges, with what Count returns for them.
type pairOf struct {
	a, b api.Edge
	want int
}

// mustAllMeet reports an error unless all pairs meet as often as they say, in all directions.
func mustAllMeet(t *testing.T, list []pairOf) {
	t.Helper()
	for _, c := range list {
		for _, a := range []api.Edge{c.a, edge.Reverse(c.a)} {
			mustMeet(t, a, c.b, c.want)
			mustMeet(t, a, edge.Reverse(c.b), c.want)
		}
		if got := measured(c.a, c.b); got != c.want {
			t.Errorf("measuring %v and %v says %d, not %d", c.a, c.b, got, c.want)
		}
	}
}

func TestLines(t *testing.T) {
	l := line(0, 0, 4, 4)
	mustAllMeet(t, []pairOf{
		{l, line(0, 4, 4, 0), 1},
		{l, line(2, 2, 9, 9), -1},
		{l, line(4, 4, 9, 9), 1},
		{l, line(5, 5, 9, 9), 0},
		{l, l, -1},
		{l, line(1, 1, 2, 2), -1}, // within the other one
		{l, line(-1, -1, 0, 0), 1},
		{l, line(-9, -9, -1, -1), 0},
		{l, line(3, 3, 5, 5), -1},
		{l, line(0, 0, 9, 9), -1}, // from a common end to the same side
		{l, line(0, 1, 4, 5), 0},  // beside each other
		{l, line(0, 0, 4, 5), 1},  // from a common end
		{l, line(2, 2, 2, 9), 1},  // an end on the other one
		{l, line(2, 3, 2, 9), 0},
		{l, line(3, 2, 9, 2), 0},
		{l, line(5, 5, 9, 2), 0}, // an end on the other one if that were longer
		{l, line(6, 0, 0, 7), 1},
		{l, line(9, 0, 0, 9), 0}, // behind the end
		{l, line(0, -2, -2, 0), 0},
		{l, line(0, 3, 9, 3), 1},
		{l, line(-1, 3, 2, 3), 0}, // level, and ended before
		{line(0, 0, 4, 0), line(2, 0, 2, 5), 1},
		{line(0, 0, 4, 0), line(2, 1, 2, 5), 0},
		{line(0, 0, 4, 0), line(4, 0, 9, 7), 1},
		{line(0, 0, 4, 0), line(5, 0, 9, 0), 0},
		{line(0, 0, 4, 0), line(4, 0, 9, 0), 1},
		{line(0, 0, 4, 0), line(3, 0, 9, 0), -1},
		{line(0, 0, 4, 0), line(0, 1, 4, 1), 0},
		{line(0, 0, 4, 0), line(0, 0, 0, 4), 1},
		{line(0, 0, 0, 4), line(0, 5, 0, 9), 0},
		{line(0, 0, 0, 4), line(0, 4, 0, 9), 1},
		{line(0, 0, 0, 4), line(0, 3, 0, 9), -1},
		{line(0, 0, 0, 4), line(1, 0, 1, 4), 0},
		{line(0, 0, 3, 2), line(1, 0, 1, 2), 1}, // at (1, 2/3)
		{line(0, 0, 3, 2), line(1, 1, 1, 2), 0},
		{line(0, 0, 3, 2), line(1, 0, 1, -2), 0},
		{line(0, 0, 6, 4), line(3, 2, 9, 6), -1},
		{line(0, 0, 6, 4), line(3, 2, 9, 5), 1},
		{line(0, 0, 1, 1), line(5, 4, 9, 0), 0},
	})
}

func TestLinesOfOnePoint(t *testing.T) {
	l := line(0, 0, 4, 4)
	mustAllMeet(t, []pairOf{
		{l, line(3, 3, 3, 3), 1},
		{l, line(0, 0, 0, 0), 1},
		{l, line(4, 4, 4, 4), 1},
		{l, line(5, 5, 5, 5), 0},
		{l, line(-1, -1, -1, -1), 0},
		{l, line(3, 2, 3, 2), 0},
		{line(0, 0, 3, 2), line(1, 1, 1, 1), 0},
		{line(2, 7, 9, 7), line(5, 7, 5, 7), 1},
		{line(2, 7, 9, 7), line(5, 8, 5, 8), 0},
		{line(3, 3, 3, 3), line(3, 3, 3, 3), 1},
		{line(3, 3, 3, 3), line(3, 4, 3, 4), 0},
		{line(3, 3, 3, 3), line(4, 3, 4, 3), 0},
		{line(0, 0, 0, 0), line(0, 0, 0, 0), 1},
		{q(), line(3, 4, 3, 4), 1},
		{q(), line(4, 3, 4, 3), 1},
		{q(), line(4, 4, 4, 4), 0},
		{q(), line(3, 3, 3, 3), 0},
		{q(), line(5, 0, 5, 0), 1},
		{q(), line(0, 5, 0, 5), 1},
		{q(), line(0, 0, 0, 0), 0}, // the centre
		{q(), line(3, -4, 3, -4), 0},
		{q(), line(-5, 0, -5, 0), 0},
	})
}

func TestLinesAndArcs(t *testing.T) {
	mustAllMeet(t, []pairOf{
		{q(), line(0, 0, 3, 4), 1},
		{q(), line(0, 0, 3, 3), 0},
		{q(), line(0, 0, 6, 8), 1},
		{q(), line(0, 0, 4, 4), 1}, // between points with whole coordinates
		{q(), line(3, 4, 6, 8), 1},
		{q(), line(4, 4, 9, 9), 0},
		{q(), line(5, 0, 0, 5), 2},
		{q(), line(9, -4, -4, 9), 2},
		{q(), line(4, 3, 3, 4), 2},
		{q(), line(1, 6, 6, 1), 2}, // from outside to outside
		{q(), line(1, 7, 7, 0), 0},
		{q(), line(1, 5, 5, 1), 2},
		{q(), line(3, 3, 9, 3), 1}, // one end between both points
		{q(), line(3, 3, -9, 3), 0},
		{q(), line(1, 1, 2, 3), 0}, // inside
		{q(), line(-9, 3, 9, 3), 1},
		{q(), line(-9, 0, 9, 0), 1},
		{q(), line(0, -9, 0, 9), 1},
		{q(), line(5, -3, 5, 3), 1}, // tangents at the ends
		{q(), line(5, 1, 5, 3), 0},
		{q(), line(5, 0, 5, -3), 1},
		{q(), line(-5, 5, 5, 5), 1},
		{q(), line(1, 5, 5, 5), 0},
		{q(), line(-5, -5, -5, 5), 0}, // and those of the other quarters
		{q(), line(-5, -5, 5, -5), 0},
		{q(), line(7, 1, -1, 7), 1}, // a tangent at (3, 4)
		{q(), line(7, 1, 3, 4), 1},
		{q(), line(7, 1, 11, -2), 0},
		{q(), line(-5, 1, 4, 1), 0},
		{q(), line(-5, 1, 5, 1), 1},
		{q(), line(0, -5, 5, 0), 1}, // chords beside the quarter
		{q(), line(-5, 0, 0, 5), 1},
		{q(), line(-5, 0, 0, -5), 0},
		{q(), line(3, -4, 4, 3), 1},
		{q(), line(3, -4, 3, 4), 1},
		{q(), line(3, -4, 3, 3), 0},
		{q(), line(5, 0, 9, 0), 1},
		{q(), line(6, -2, -2, 6), 0}, // through both other quarters
		{q(), line(5, -1, -1, 5), 0},
		{q(), line(0, 8, 8, 0), 0},
		{q(), line(-9, -9, 9, 9), 1},
		{q(), line(-9, -9, 3, 3), 0},
		{left(0, 5, -5, 0, 0, 0), line(-3, 4, -9, 4), 1}, // the other quarters
		{left(0, 5, -5, 0, 0, 0), line(3, 4, -9, 4), 1},
		{left(0, 5, -5, 0, 0, 0), line(9, -4, -4, 9), 1}, // at the end of the quarter
		{left(0, 5, -5, 0, 0, 0), line(10, -4, -4, 10), 0},
		{left(0, 5, -5, 0, 0, 0), line(4, 9, -9, -4), 2},
		{left(-5, 0, 0, -5, 0, 0), line(4, -9, -9, 4), 2},
		{left(-5, 0, 0, -5, 0, 0), line(1, -7, -7, -1), 1},
		{left(-5, 0, 0, -5, 0, 0), line(-3, -4, 0, 0), 1},
		{left(-5, 0, 0, -5, 0, 0), line(-3, -3, 0, 0), 0},
		{left(0, -5, 5, 0, 0, 0), line(-4, -9, 9, 4), 2},
		{left(0, -5, 5, 0, 0, 0), line(3, 4, 3, -4), 1},
		{left(0, -5, 5, 0, 0, 0), line(3, 4, 3, -3), 0},
		{left(12, 7, 7, 12, 7, 7), line(7, 7, 10, 11), 1}, // another centre
		{left(12, 7, 7, 12, 7, 7), line(12, 7, 7, 12), 2},
		{left(12, 7, 7, 12, 7, 7), line(0, 0, 10, 10), 0}, // up to √18, where √25 is needed
		{left(12, 7, 7, 12, 7, 7), line(0, 0, 11, 11), 1},
		{left(1, 0, 0, 1, 0, 0), line(0, 0, 1, 1), 1}, // the smallest arc
		{left(1, 0, 0, 1, 0, 0), line(1, 1, 9, 9), 0},
		{left(1, 0, 0, 1, 0, 0), line(1, 0, 0, 1), 2},
		{left(1, 0, 0, 1, 0, 0), line(-9, 1, 9, 1), 1},
		{left(1, 0, 0, 1, 0, 0), line(0, 0, 0, 1), 1},
	})
}

func TestArcs(t *testing.T) {
	mustAllMeet(t, []pairOf{
		{q(), q(), -1},
		{q(), left(0, 5, -5, 0, 0, 0), 1},
		{q(), left(-5, 0, 0, -5, 0, 0), 0},
		{q(), left(0, -5, 5, 0, 0, 0), 1},
		{left(0, 5, -5, 0, 0, 0), left(0, -5, 5, 0, 0, 0), 0},
		{left(0, 5, -5, 0, 0, 0), left(-5, 0, 0, -5, 0, 0), 1},
		{q(), left(4, 0, 0, 4, 0, 0), 0}, // around the same centre
		{q(), left(6, 0, 0, 6, 0, 0), 0},
		{q(), left(0, 6, -6, 0, 0, 0), 0},
		{q(), left(6, 5, 1, 0, 6, 0), 1},
		{q(), left(1, 0, 6, -5, 6, 0), 0},
		{q(), left(11, 0, 6, 5, 6, 0), 0},
		{q(), left(0, 5, 5, 0, 5, 5), 2},
		{q(), left(5, 10, 0, 5, 5, 5), 1},
		{q(), left(5, 0, 10, 5, 5, 5), 1},
		{q(), left(10, 5, 5, 10, 5, 5), 0},
		{q(), left(-1, 4, 4, -1, 4, 4), 0}, // the circles meet beside both quarters
		{q(), left(1, 6, 6, 1, 6, 6), 2},
		{q(), left(2, 7, 7, 2, 7, 7), 2}, // at (3, 4) and (4, 3)
		{q(), left(3, 8, 8, 3, 8, 8), 0}, // too far apart
		{q(), left(1, 8, 6, 3, 6, 8), 1}, // touching from outside at (3, 4)
		{q(), left(2, 8, 6, 4, 6, 8), 0},
		{q(), left(0, 8, 6, 2, 6, 8), 2},
		{q(), left(16, 12, 12, 16, 12, 12), 0}, // the others of a circle that touches
		{q(), left(12, 16, -3, 16, 12, 16), 0},
		{q(), left(-3, 16, 12, 1, 12, 16), 1},
		{q(), left(12, 1, 27, 16, 12, 16), 0},
		{left(10, 0, 0, 10, 0, 0), left(8, 4, 3, 9, 3, 4), 1}, // touching from inside at (6, 8)
		{left(10, 0, 0, 10, 0, 0), left(3, 9, -2, 4, 3, 4), 0},
		{left(10, 0, 0, 10, 0, 0), left(9, 4, 4, 9, 4, 4), 2},
		{left(10, 0, 0, 10, 0, 0), left(7, 4, 3, 8, 3, 4), 0}, // inside, and not touching
		{q(), left(5, 0, 10, -5, 10, 0), 1},                   // touching at an end
		{q(), left(10, 5, 5, 0, 10, 0), 1},
		{q(), left(10, -5, 15, 0, 10, 0), 0},
		{q(), left(15, 0, 10, 5, 10, 0), 0},
		{q(), left(3, 0, 0, 3, 0, 0), 0},
		{q(), left(5, 0, 2, 3, 2, 0), 1},
		{q(), left(2, -3, 5, 0, 2, 0), 1},
		{q(), left(2, 3, -1, 0, 2, 0), 0},
		{left(1, 0, 0, 1, 0, 0), left(0, 1, 1, 0, 1, 1), 2}, // the smallest arcs
		{left(1, 0, 0, 1, 0, 0), left(1, 1, 0, 0, 1, 0), 1},
		{left(1, 0, 0, 1, 0, 0), left(2, 1, 1, 2, 1, 1), 0},
		{left(1, 0, 0, 1, 0, 0), left(2, 1, 1, 0, 2, 0), 1},
	})
}

func TestWrongEdges(t *testing.T) {
	list := wrongEdges()
	right := []api.Edge{q(), edge.Reverse(q()), line(0, 0, 9, 9), line(5, 0, 0, 5), line(5, 0, 5, 0), line(-far, -far, far, far), line(far, -far, far, far), left(far, -far, -far, far, -far, -far)}
	for _, e := range list {
		if edge.Check(e) == api.OK {
			t.Errorf("%v is right", e)
		}
		for _, r := range right {
			mustMeet(t, e, r, 0)
		}
		for _, f := range list {
			mustMeet(t, e, f, 0)
		}
		mustMeet(t, e, edge.Reverse(e), 0)
	}
	for _, e := range right {
		if edge.Check(e) != api.OK || meet.Count(e, e) == 0 {
			t.Errorf("%v is not right", e)
		}
	}
}
