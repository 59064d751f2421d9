package near

import (
	"etchant/api"
	"etchant/edge"
	"etchant/num"
	"etchant/root"
	"etchant/vec"
)

// fromLine returns how far p is from a right line, and the spot that is nearest to it.
func fromLine(e api.Edge, p api.Point) (api.Root, api.Spot) {
	d, way := vec.Sub(e.B, e.A), vec.Sub(p, e.A)
	t, square := vec.Dot(way, d), vec.Dot(d, d)
	switch {
	case t <= 0:
		return fromEnd(e.A, p)
	case t >= square:
		return fromEnd(e.B, p)
	}
	c := num.Of(vec.Cross(d, way))
	under, _ := num.Mul(c, c)
	dist, _ := root.Of(0, 1, under, num.Of(square))
	return dist, api.Spot{At: e.A, Dir: d, P: t, Q: square}
}

// fromArc returns how far p is from a right arc, and the spot that is nearest to it.
func fromArc(e api.Edge, p api.Point) (api.Root, api.Spot) {
	way := vec.Sub(p, e.C)
	if inQuarter(e, way) {
		r, square := edge.Radius(e), vec.Dot(way, way)
		if square >= r*r {
			return rootOf(-r, 1, square), onCircle(e, way)
		}
		return rootOf(r, -1, square), onCircle(e, way)
	}
	if squareOf(e.B, p) < squareOf(e.A, p) {
		return fromEnd(e.B, p)
	}
	return fromEnd(e.A, p)
}

// fromEnd returns how far p is from an end, and the spot of the end.
func fromEnd(end, p api.Point) (api.Root, api.Spot) {
	return rootOf(0, 1, squareOf(end, p)), spotOf(end)
}

// inQuarter reports whether what leads in the direction of v from the centre of a right arc crosses the arc.
func inQuarter(e api.Edge, v api.Point) bool {
	from, to := vec.Sub(e.A, e.C), vec.Sub(e.B, e.C)
	if e.Kind == api.EdgeRight {
		from, to = to, from
	}
	return v != api.Point{} && vec.Within(v, from, to)
}

// rootOf returns add + sign √n. Between right edges all roots are short enough.
func rootOf(add, sign, n int) api.Root {
	dist, _ := root.Of(add, sign, num.Of(n), num.Of(1))
	return dist
}

// squareOf returns the square of the distance of two points.
func squareOf(p, q api.Point) int {
	d := vec.Sub(q, p)
	return vec.Dot(d, d)
}

// spotOf returns the spot of a point.
func spotOf(p api.Point) api.Spot { return api.Spot{At: p, Q: 1} }

// onCircle returns the spot on the circle of a right arc that lies in the direction of way.
func onCircle(e api.Edge, way api.Point) api.Spot {
	return api.Spot{At: e.C, Dir: way, Len: edge.Radius(e)}
}

// opposite returns the vector that leads back.
func opposite(v api.Point) api.Point { return vec.Sub(api.Point{}, v) }
