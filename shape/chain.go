package shape

import (
	"iter"

	"etchant/api"
	"etchant/edge"
)

// family is what Check asks paths and areas for.
type family struct {
	fewest int  // edges
	closed bool // whether the last edge leads back to the first one
	widest int  // R
}

// familyOf returns that of the shapes of a kind, and false if there is none.
func familyOf(kind int) (family, bool) {
	switch kind {
	case api.ShPath:
		return family{fewest: 1, widest: api.MaxRadius}, true
	case api.ShArea:
		return family{fewest: 2, closed: true}, true
	}
	return family{}, false
}

// isChain reports whether each edge begins where the one before ends, and, of a closed chain, the first one where the last one does.
func isChain(edges []api.Edge, closed bool) bool {
	for before, e := range pairs(edges, closed) {
		if e.A != before.B {
			return false
		}
	}
	return true
}

// surrounds reports whether p lies on a closed chain, or is a point around which it goes.
func surrounds(edges []api.Edge, p api.Point) bool {
	winding := 0
	for _, e := range edges {
		if edge.On(e, p) {
			return true
		}
		winding += edge.Ray(e, p)
	}
	return winding != 0
}

// pairs visits each element but the first together with the one before, and, if the list is closed, the first one together with the last one.
func pairs[T any](list []T, closed bool) iter.Seq2[T, T] {
	return func(yield func(before, x T) bool) {
		for k, x := range list {
			if k > 0 && !yield(list[k-1], x) {
				return
			}
		}
		if closed && len(list) > 0 {
			yield(list[len(list)-1], list[0])
		}
	}
}
