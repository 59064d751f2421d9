package gap_test

import (
	"slices"
	"testing"

	"etchant/api"
	"etchant/gap"
	"etchant/root"
)

// P10.1 to P10.3, against second calculations

// mustBeDefined reports an error unless Of, Touch and Least say of two right shapes what their definition says, and returns how that was found.
func mustBeDefined(t *testing.T, a, b api.Shape) string {
	t.Helper()
	want := defined(a, b)
	g, ok := gap.Of(a, b)
	mustBeGap(t, g, ok, want, "Of", a, b)
	mustBe(t, gap.Touch(a, b), root.CmpInt(want.Dist, 0) <= 0, "Touch", a, b)
	for _, need := range []int{floor(want.Dist), floor(want.Dist) + 1} {
		mustBe(t, gap.Least(a, b, need), root.CmpInt(want.Dist, need) >= 0, "Least", a, b, need)
	}
	switch {
	case want.Meet:
		return "meet"
	case root.CmpInt(want.Dist, 0) <= 0:
		return "touch"
	}
	return "apart"
}

// mustHaveBorder reports an error unless Border says of an area and a right shape what its definition says.
func mustHaveBorder(t *testing.T, outline, s api.Shape) {
	t.Helper()
	g, ok := gap.Border(outline, s)
	if outline.Kind != api.ShArea {
		mustBeNone(t, g, ok, "Border", outline, s)
		return
	}
	mustBeGap(t, g, ok, defined(path(0, outline.Edges...), s), "Border", outline, s)
}

func TestAllPairs(t *testing.T) {
	found := tally{}
	list := slices.Concat(someShapes(), wideShapes())
	for _, a := range list {
		for _, b := range list {
			found[mustBeDefined(t, a, b)]++
			mustHaveBorder(t, a, b)
		}
	}
	found.mustHave(t, 100, "meet", "touch", "apart")
}

func TestSomeShapesByDefinition(t *testing.T) {
	d := dice(1)
	for _, size := range []int{6, 40, 1000, 1 << 20, far / 5} {
		found := tally{}
		for range 250 {
			c := somePoint(at(0, 0), size, &d)
			a := someShape(9, c, size, &d)
			b := someShape(9, somePoint(c, 2*size, &d), size/2, &d)
			found[mustBeDefined(t, limited(a), limited(b))]++
			mustHaveBorder(t, limited(a), limited(b))
		}
		found.mustHave(t, 10, "meet", "touch", "apart")
	}
}

// limited returns a shape with an R that paths may have.
func limited(s api.Shape) api.Shape {
	s.R = min(s.R, thick)
	return s
}

// mustMeasure reports an error unless Of says of two right shapes without arcs what measuring them says, and returns how that was found.
func mustMeasure(t *testing.T, a, b api.Shape) string {
	t.Helper()
	square, met := measured(a, b)
	g, ok := gap.Of(a, b)
	mustBe(t, ok && g.Meet == met, true, "Of", a, b)
	if met {
		mustBe(t, root.Text(g.Dist), root.Text(whole(-a.R-b.R)), "Of", a, b)
		return "meet"
	}
	mustBe(t, root.Text(g.Dist), textOf(-a.R-b.R, square), "Of", a, b)
	return "apart"
}

// All triangles of small points, and all lines, beside an area.
func TestSmallLines(t *testing.T) {
	found := tally{}
	points := grid([]int{0, 1, 2})
	outlines := []api.Shape{
		path(1, line(0, 1, 2, 2)), area(lines(at(0, 0), at(2, 1), at(0, 2), at(0, 0))...), area(lines(at(-1, -1), at(3, -1), at(3, 3), at(-1, 3), at(-1, -1))...),
		area(lines(at(5, 0), at(5, 1), at(7, -1), at(7, 2), at(5, 0))...), path(0, lines(at(-1, 4), at(-1, -2), at(4, -2))...), dot(at(1, 1)),
	}
	for _, p := range points {
		for _, q := range points {
			for _, o := range outlines {
				found[mustMeasure(t, path(2, between(p, q)), o)]++
				for _, r := range points {
					found[mustMeasure(t, o, area(lines(p, q, r, p)...))]++
				}
			}
		}
	}
	found.mustHave(t, 1000, "meet", "apart")
}

func TestSomeLinesMeasured(t *testing.T) {
	d := dice(2)
	for _, size := range []int{4, 12, 300, 1 << 20, far / 5} {
		found := tally{}
		for k := range 300 {
			c := somePoint(at(0, 0), 2*size, &d)
			a := someLines(2+k%9, c, size, k%2 > 0, &d)
			b := someLines(2+k%7, somePoint(c, 2*size, &d), size/2, k%4 > 1, &d)
			shapes := []api.Shape{path(min(size, thick), a...), path(1, b...)}
			if k%2 > 0 {
				shapes[0] = area(a...)
			}
			if k%4 > 1 {
				shapes[1] = area(b...)
			}
			found[mustMeasure(t, shapes[0], shapes[1])]++
			found[mustMeasure(t, shapes[1], shapes[0])]++
		}
		found.mustHave(t, 50, "meet", "apart")
	}
}
