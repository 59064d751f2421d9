package gap

import (
	"iter"

	"etchant/api"
	"etchant/meet"
	"etchant/near"
	"etchant/root"
	"etchant/shape"
)

// pairs visits each element of a, together with each one of b.
func pairs[T any](a, b []T) iter.Seq2[T, T] {
	return func(yield func(x, y T) bool) {
		for _, x := range a {
			for _, y := range b {
				if !yield(x, y) {
					return
				}
			}
		}
	}
}

// edgesMeet reports whether an edge of a and one of b have a common point.
func edgesMeet(a, b []api.Edge) bool {
	found := false
search:
	for x, y := range pairs(a, b) {
		switch {
		case between(stroke(x), stroke(y)) > 0: // this takes less time than to look for common points
			continue
		case meet.Edges(x, y):
			found = true
			break search
		}
	}
	return found
}

// nearest returns how far the first nearest pair of edges is apart; no edges of a and b meet.
func nearest(a, b []api.Edge) api.Gap {
	best, none := api.Gap{}, true
	keep := func(dist api.Root, p, q api.Spot) {
		if none || root.Cmp(dist, best.Dist) < 0 {
			best, none = api.Gap{Dist: dist, A: p, B: q}, false
		}
	}
	for x, y := range pairs(a, b) {
		// To measure a pair takes long, and most pairs cannot be nearer than what is kept.
		if none || root.CmpInt(best.Dist, between(stroke(x), stroke(y))) > 0 {
			keep(near.Edges(x, y))
		}
	}
	return best
}

// stroke returns the path of an edge alone.
func stroke(e api.Edge) api.Shape {
	return api.Shape{Kind: api.ShPath, Edges: []api.Edge{e}}
}

// between returns how far the boxes of two right shapes are apart, in X or in Y, whichever is more; less than 0, if they overlap. The shapes are no nearer.
func between(a, b api.Shape) int {
	p, q := shape.Box(a), shape.Box(b)
	return max(q.X0-p.X1, p.X0-q.X1, q.Y0-p.Y1, p.Y0-q.Y1)
}
