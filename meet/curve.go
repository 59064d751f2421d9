package meet

import (
	"iter"

	"etchant/api"
	"etchant/edge"
	"etchant/num"
	"etchant/vec"
)

// curve is an edge without its ends: the whole line, or the whole circle, that it is a part of.
type curve interface {
	parallel(other curve) bool // whether both lead in one direction, or around one centre: they are the same then, or have no common points
	axisWith(c circle) axis    // on which all points lie that it has in common with c, which is not parallel
}

// line leads through a point in both directions of a vector, which is zero only for an edge that is a single point.
type line struct{ through, along api.Point }

// circle has a radius that is greater than 0.
type circle struct {
	centre api.Point
	radius int
}

// axis is a line beside a circle: all points for which twice Dot of normal and what leads there from the centre is level.
type axis struct {
	normal api.Point
	level  int
}

// curveOf returns the one of a right edge.
func curveOf(e api.Edge) curve {
	if e.Kind == api.EdgeLine {
		return line{e.A, vec.Sub(e.B, e.A)}
	}
	return circle{e.C, edge.Radius(e)}
}

func (l line) parallel(other curve) bool {
	m, isLine := other.(line)
	return isLine && vec.Cross(l.along, m.along) == 0
}

func (c circle) parallel(other curve) bool {
	d, isCircle := other.(circle)
	return isCircle && c.centre == d.centre
}

func (l line) axisWith(c circle) axis {
	return axis{api.Point{X: -l.along.Y, Y: l.along.X}, 2 * vec.Cross(l.along, vec.Sub(l.through, c.centre))}
}

// axisWith returns what is left of the equations of both circles when one is taken from the other: their squares are gone.
func (c circle) axisWith(d circle) axis {
	way := vec.Sub(c.centre, d.centre)
	return axis{way, vec.Dot(way, way) + d.radius*d.radius - c.radius*c.radius}
}

// crossings yields the points that two curves have in common, which are not parallel.
func crossings(a, b curve) iter.Seq[spot] {
	return func(yield func(spot) bool) {
		switch a := a.(type) {
		case circle:
			a.cut(b.axisWith(a), yield)
		case line:
			switch b := b.(type) {
			case circle:
				b.cut(a.axisWith(b), yield)
			case line:
				a.cross(b, yield)
			}
		}
	}
}

// cross yields the point that a line has in common with another one, which is not parallel.
func (l line) cross(m line, yield func(spot) bool) {
	times, by := vec.Cross(vec.Sub(m.through, l.through), m.along), vec.Cross(l.along, m.along)
	if by < 0 {
		times, by = -times, -by
	}
	yield(spot{at: l.through, dir: l.along, times: times, by: by})
}

// cut yields the points that a circle has on an axis: none, one or two.
func (c circle) cut(x axis, yield func(spot) bool) {
	square := vec.Dot(x.normal, x.normal)
	under, _ := num.Sub(product(4*square, c.radius*c.radius), product(x.level, x.level))
	reach := num.Cmp(under, num.Of(0))
	if reach < 0 {
		return
	}
	side := api.Point{X: -x.normal.Y, Y: x.normal.X}
	p := spot{at: c.centre, dir: x.normal, times: x.level, side: side, under: under, by: 2 * square}
	if !yield(p) || reach == 0 {
		return
	}
	p.side = vec.Sub(api.Point{}, side)
	yield(p)
}
