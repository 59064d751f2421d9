package rects

import (
	"cmp"
	"slices"

	"etchant/api"
)

// sweep goes over a list from its lowest row upwards.
type sweep struct {
	above []api.Rect // those that begin higher, in the order of Y0
	here  []api.Rect // those that have the row, in the order of X0
}

// newSweep returns a sweep that is below all rectangles; a list that is not right has none.
func newSweep(l []api.Rect) *sweep {
	if !Right(l) {
		return &sweep{}
	}
	above := slices.Clone(l)
	slices.SortFunc(above, func(p, q api.Rect) int { return cmp.Compare(p.Y0, q.Y0) })
	return &sweep{above: above}
}

// row goes up to y, and returns the row there.
func (s *sweep) row(y int) []span {
	s.here = slices.DeleteFunc(s.here, func(r api.Rect) bool { return r.Y1 <= y })
	for len(s.above) > 0 && s.above[0].Y0 <= y {
		at, _ := slices.BinarySearchFunc(s.here, s.above[0], byLeft)
		s.here = slices.Insert(s.here, at, s.above[0])
		s.above = s.above[1:]
	}
	row := make([]span, 0, len(s.here))
	for _, r := range s.here {
		row = extend(row, span{r.X0, r.X1})
	}
	return row
}

// byLeft compares where two rectangles begin in a row.
func byLeft(p, q api.Rect) int {
	return cmp.Compare(p.X0, q.X0)
}
