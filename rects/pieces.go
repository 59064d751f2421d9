package rects

import (
	"cmp"

	"etchant/api"
)

// Pieces returns the pieces of the set of l, and an empty list for each one that is too long.
func Pieces(l []api.Rect) [][]api.Rect {
	list := Norm(l)
	firsts := linked(list)
	var pieces [][]api.Rect
	number := make([]int, len(list)) // of the piece that begins with a rectangle
	for i, r := range list {
		first := firsts.of(i)
		if first == i {
			number[i] = len(pieces)
			pieces = append(pieces, nil)
		}
		if k := number[first]; len(pieces[k]) <= maxList {
			pieces[k] = append(pieces[k], r)
		}
	}
	for k, p := range pieces {
		// Rows that differed in other pieces alone are one band now; a list that is too long is not right.
		pieces[k] = Norm(p)
	}
	return pieces
}

// tree has for each rectangle of a normal list an earlier one of the same piece, or itself.
type tree []int

// linked returns the tree of a normal list, in which all neighbours have the same first rectangle.
func linked(list []api.Rect) tree {
	t := make(tree, len(list))
	for i := range t {
		t[i] = i
	}
	// The tops of rectangles, and what they may touch above, are both in the order of y, then x.
	for i, j := 0, 0; j < len(list); {
		low, high := list[i], list[j]
		if low.Y1 == high.Y0 && low.X0 <= high.X1 && high.X0 <= low.X1 {
			t.join(i, j)
		}
		if cmp.Or(cmp.Compare(low.Y1, high.Y0), cmp.Compare(low.X1, high.X1)) < 0 {
			i++
		} else {
			j++
		}
	}
	return t
}

// of returns the first rectangle of the piece of the one at i.
func (t tree) of(i int) int {
	for t[i] != i {
		t[i] = t[t[i]] // so that the next search is shorter
		i = t[i]
	}
	return i
}

// join makes one piece of those of two rectangles.
func (t tree) join(i, j int) {
	i, j = t.of(i), t.of(j)
	t[max(i, j)] = min(i, j)
}
