package meet

import (
	"etchant/api"
	"etchant/num"
	"etchant/root"
)

// spot is the point at + (times dir + √under side) / by, where by is greater than 0.
type spot struct {
	at, dir, side api.Point
	times, by     int
	under         api.Num
}

// within reports whether p is a point of box.
func (p spot) within(box api.Rect) bool {
	x := func(bound int) int { return p.order(bound-p.at.X, p.dir.X, p.side.X) }
	y := func(bound int) int { return p.order(bound-p.at.Y, p.dir.Y, p.side.Y) }
	return x(box.X0) >= 0 && x(box.X1) <= 0 && y(box.Y0) >= 0 && y(box.Y1) <= 0
}

// order compares a coordinate of p with a bound; all are given as seen from at.
func (p spot) order(bound, dir, side int) int {
	ahead, _ := num.Sub(product(p.times, dir), product(p.by, bound))
	return root.Sign(ahead, num.Of(side), p.under)
}

// product multiplies two numbers exactly. With right edges no number of this package has more than 4 digits, so that they all fit.
func product(a, b int) api.Num {
	total, _ := num.Mul(num.Of(a), num.Of(b))
	return total
}
