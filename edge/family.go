package edge

import (
	"etchant/api"
	"etchant/vec"
)

// family is what lines and arcs do differently, for the kinds from first to last.
type family struct {
	first, last int
	fits        func(e api.Edge) bool              // whether e, whose points are right, is valid
	radius      func(e api.Edge) int               // of a valid edge
	on          func(e api.Edge, p api.Point) bool // whether p, in the box of e, is a point of e
	beyond      func(e api.Edge, p api.Point) bool // whether the point of e at the height of p, in its box, lies strictly to the right of p; e is not level
}

// familyOf returns that of the edges of a kind, and false if there is none.
func familyOf(kind int) (family, bool) {
	families := [...]family{
		{api.EdgeLine, api.EdgeLine, lineFits, lineRadius, onLine, lineBeyond},
		{api.EdgeLeft, api.EdgeRight, arcFits, arcRadius, onArc, arcBeyond},
	}
	for _, f := range families {
		if f.first <= kind && kind <= f.last {
			return f, true
		}
	}
	return family{}, false
}

// classify returns the family of a valid edge; otherwise none, and its first error.
func classify(e api.Edge) (family, api.Errno) {
	f, known := familyOf(e.Kind)
	switch {
	case !known:
		return family{}, api.ErrEdge
	case !vec.Right(e.A) || !vec.Right(e.B) || !vec.Right(e.C):
		return family{}, api.ErrPoint
	case !f.fits(e):
		return family{}, api.ErrEdge
	}
	return f, api.OK
}

func lineFits(e api.Edge) bool { return e.C == api.Point{} }

func lineRadius(api.Edge) int { return 0 }

func onLine(e api.Edge, p api.Point) bool { return vec.Side(e.A, e.B, p) == 0 }

func lineBeyond(e api.Edge, p api.Point) bool {
	if e.A.Y > e.B.Y { // The left of a line is that of its points only if it leads upwards.
		e = Reverse(e)
	}
	return vec.Side(e.A, e.B, p) > 0
}

func arcFits(e api.Edge) bool {
	quarter := api.Motion{Turn: 1}
	if e.Kind == api.EdgeRight {
		quarter.Turn = -1
	}
	a, b := vec.Sub(e.A, e.C), vec.Sub(e.B, e.C)
	return (a.X == 0) != (a.Y == 0) && b == vec.Apply(quarter, a)
}

func arcRadius(e api.Edge) int {
	a := vec.Sub(e.A, e.C)
	return max(a.X, -a.X, a.Y, -a.Y)
}

func onArc(e api.Edge, p api.Point) bool { return outside(e, p) == 0 }

func arcBeyond(e api.Edge, p api.Point) bool {
	if max(e.A.X, e.B.X) > e.C.X { // To the right of the centre, what lies left of the arc is nearer to the centre; to the left of it, farther.
		return outside(e, p) < 0
	}
	return outside(e, p) > 0
}

// outside returns a number that is positive outside of the circle of an arc, 0 on it, and negative inside of it.
func outside(e api.Edge, p api.Point) int {
	r, d := arcRadius(e), vec.Sub(p, e.C)
	return vec.Dot(d, d) - r*r
}
