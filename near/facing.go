package near

import (
	"etchant/api"
	"etchant/edge"
	"etchant/root"
	"etchant/vec"
)

// facing returns the pair of points, neither of which is an end, that lie at right angles to both edges, and nearer to each other than the points beside them; none, if there is no such pair, or both edges are lines.
func facing(a, b api.Edge) []pair {
	lineA, lineB := a.Kind == api.EdgeLine, b.Kind == api.EdgeLine
	switch {
	case lineA && lineB: // Where two lines run side by side, an end is as near.
		return nil
	case lineA:
		return lineToArc(a, b)
	case lineB:
		list := lineToArc(b, a)
		for k, p := range list {
			list[k] = pair{p.dist, p.b, p.a}
		}
		return list
	}
	return arcToArc(a, b)
}

// lineToArc looks for the line's nearest point to the centre of an arc, and for the arc's one in the direction of it.
func lineToArc(line, arc api.Edge) []pair {
	d := vec.Sub(line.B, line.A)
	way := api.Point{X: -d.Y, Y: d.X}
	if vec.Cross(d, vec.Sub(arc.C, line.A)) > 0 {
		way = opposite(way)
	}
	if !inQuarter(arc, way) {
		return nil
	}
	dist, foot := Point(line, arc.C)
	r := edge.Radius(arc)
	if foot == spotOf(line.A) || foot == spotOf(line.B) || root.CmpInt(dist, r) <= 0 {
		return nil
	}
	dist, _ = root.Plus(dist, -r)
	return []pair{{dist, foot, onCircle(arc, way)}}
}

// arcToArc looks on the line through both centres: for arcs of circles outside of each other, and for those of a circle inside of the other one.
func arcToArc(a, b api.Edge) []pair {
	ahead := vec.Sub(b.C, a.C)
	back := opposite(ahead)
	r, s, square := edge.Radius(a), edge.Radius(b), vec.Dot(ahead, ahead)
	inside := square < (r-s)*(r-s)
	switch {
	case square > (r+s)*(r+s) && inQuarter(a, ahead) && inQuarter(b, back):
		return []pair{{rootOf(-r-s, 1, square), onCircle(a, ahead), onCircle(b, back)}}
	case inside && r > s && inQuarter(a, ahead) && inQuarter(b, ahead):
		return []pair{{rootOf(r-s, -1, square), onCircle(a, ahead), onCircle(b, ahead)}}
	case inside && r < s && inQuarter(a, back) && inQuarter(b, back):
		return []pair{{rootOf(s-r, -1, square), onCircle(a, back), onCircle(b, back)}}
	}
	return nil
}
