package shape

import (
	"math/bits"
	"slices"

	"etchant/api"
	"etchant/edge"
	"etchant/vec"
)

// words is a number that is not negative, of two words, the higher one first. Squares of what lies beside a long line need more than one.
type words [2]uint64

// product returns that of two numbers, neither of which is negative.
func product(a, b int) words {
	high, low := bits.Mul64(uint64(a), uint64(b))
	return words{high, low}
}

// compare returns -1, 0 or 1: whether a is less than b, equal to it, or greater.
func compare(a, b words) int { return slices.Compare(a[:], b[:]) }

// covers reports whether a round pen of the radius r, led along a valid edge, comes over p, which lies no farther out than the pen can come.
func covers(e api.Edge, r int, p api.Point) bool {
	switch {
	case fromPoint(e.A, p, r) <= 0 || fromPoint(e.B, p, r) <= 0:
		return true
	case e.Kind == api.EdgeLine:
		return besideLine(e, r, p)
	}
	return besideArc(e, r, p)
}

// fromPoint compares the distance of p from c with r, which is not negative.
func fromPoint(c, p api.Point, r int) int {
	way := vec.Sub(p, c)
	return compare(product(vec.Dot(way, way), 1), product(r, r))
}

// besideLine reports whether p lies at right angles to a point between the ends of a line, at most r away from it.
func besideLine(e api.Edge, r int, p api.Point) bool {
	d, way := vec.Sub(e.B, e.A), vec.Sub(p, e.A)
	along, square, aside := vec.Dot(way, d), vec.Dot(d, d), vec.Cross(d, way)
	if along <= 0 || along >= square {
		return false
	}
	aside = max(aside, -aside)
	return compare(product(aside, aside), product(r*r, square)) <= 0
}

// besideArc reports whether p lies in a direction in which there are points of an arc from its centre, at most r away from the arc.
func besideArc(e api.Edge, r int, p api.Point) bool {
	if e.Kind == api.EdgeRight {
		e = edge.Reverse(e)
	}
	radius := edge.Radius(e)
	return vec.Within(vec.Sub(p, e.C), vec.Sub(e.A, e.C), vec.Sub(e.B, e.C)) &&
		fromPoint(e.C, p, radius+r) <= 0 && fromPoint(e.C, p, max(radius-r, 0)) >= 0
}
