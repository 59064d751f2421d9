package vec_test

import (
	"math"
	"math/big"
	"testing"

	"etchant/api"
	"etchant/vec"
)

// P5.1

func TestRight(t *testing.T) {
	const most = 67108864
	coords := map[int]bool{0: true, 1: true, -1: true, most - 1: true, most: true, -most: true, 1 - most: true, most + 1: false, -most - 1: false, 2 * most: false, 1 << 32: false, 1<<32 + 5: false, -1 << 32: false, math.MaxInt: false, math.MinInt: false, math.MinInt + 1: false}
	for x, rightX := range coords {
		for y, rightY := range coords {
			mustBe(t, vec.Right(at(x, y)), rightX && rightY, "Right of", x, y)
		}
	}
}

func TestAddAndSub(t *testing.T) {
	for _, c := range []struct{ a, b, sum, difference api.Point }{
		{at(2, 3), at(4, -1), at(6, 2), at(-2, 4)},
		{at(0, 0), at(5, -6), at(5, -6), at(-5, 6)},
		{at(-7, 8), at(0, 0), at(-7, 8), at(-7, 8)},
		{at(math.MaxInt, math.MinInt), at(1, -1), at(math.MinInt, math.MaxInt), at(math.MaxInt-1, math.MinInt+1)},
		{at(math.MinInt, math.MaxInt), at(1, -1), at(math.MinInt+1, math.MaxInt-1), at(math.MaxInt, math.MinInt)},
		{at(0, -1), at(math.MinInt, math.MinInt), at(math.MinInt, math.MaxInt), at(math.MinInt, math.MaxInt)},
	} {
		mustBe(t, vec.Add(c.a, c.b), c.sum, "Add of", c.a, c.b)
		mustBe(t, vec.Sub(c.a, c.b), c.difference, "Sub of", c.a, c.b)
	}
}

func TestAddAndSubOfAny(t *testing.T) {
	list := grid(extremes())
	for _, a := range list {
		for _, b := range list {
			mustBe(t, vec.Add(a, b), at(sum([]int{a.X}, []int{b.X}), sum([]int{a.Y}, []int{b.Y})), "Add of", a, b)
			mustBe(t, vec.Sub(a, b), at(sum([]int{a.X}, []int{-1, b.X}), sum([]int{a.Y}, []int{-1, b.Y})), "Sub of", a, b)
		}
	}
}

// P5.2

func TestCrossAndDot(t *testing.T) {
	for _, c := range []struct {
		a, b       api.Point
		cross, dot int
	}{
		{at(2, 3), at(4, -1), -14, 5},
		{at(4, -1), at(2, 3), 14, 5},
		{at(1, 0), at(0, 1), 1, 0},
		{at(0, 1), at(1, 0), -1, 0},
		{at(5, 0), at(-3, 0), 0, -15},
		{at(0, 0), at(9, 8), 0, 0},
		{at(math.MaxInt, 0), at(0, 2), -2, 0},
		{at(math.MaxInt, 0), at(2, 0), 0, -2},
		{at(1<<32, 0), at(0, 1<<32), 0, 0},
		{at(1<<32, 1<<32), at(1<<32, 1<<32), 0, 0},
		{at(1<<62, 1<<62), at(1, 1), 0, math.MinInt},
		{at(1<<62, -1<<62), at(1, 1), math.MinInt, 0},
		{at(math.MinInt, 0), at(-1, -1), math.MinInt, math.MinInt},
		{at(api.MaxCoord, -api.MaxCoord), at(api.MaxCoord, api.MaxCoord), 1 << 53, 0},
	} {
		mustBe(t, vec.Cross(c.a, c.b), c.cross, "Cross of", c.a, c.b)
		mustBe(t, vec.Dot(c.a, c.b), c.dot, "Dot of", c.a, c.b)
	}
}

// mustMultiply reports an error unless both products are right.
func mustMultiply(t *testing.T, a, b api.Point) {
	t.Helper()
	mustBe(t, vec.Cross(a, b), sum([]int{a.X, b.Y}, []int{-1, a.Y, b.X}), "Cross of", a, b)
	mustBe(t, vec.Dot(a, b), sum([]int{a.X, b.X}, []int{a.Y, b.Y}), "Dot of", a, b)
}

func TestCrossAndDotOfAny(t *testing.T) {
	list := grid(extremes())
	for _, a := range list {
		for _, b := range list {
			mustMultiply(t, a, b)
		}
	}
	for seed := range uint64(20000) {
		n := someInts(4, seed)
		mustMultiply(t, at(n[0], n[1]), at(n[2], n[3]))
	}
}

// P5.3

func TestSide(t *testing.T) {
	for _, c := range []struct {
		a, b, p api.Point
		want    int
	}{
		{at(0, 0), at(4, 0), at(1, 2), 1},
		{at(0, 0), at(4, 0), at(1, 0), 0},
		{at(0, 0), at(4, 0), at(1, -5), -1},
		{at(0, 0), at(4, 0), at(-9, 0), 0},
		{at(0, 0), at(4, 0), at(900, 1), 1},
		{at(5, 7), at(5, 7), at(1, 2), 0},
		{at(5, 7), at(6, 9), at(6, 9), 0},
		{at(5, 7), at(6, 9), at(5, 7), 0},
		{at(5, 7), at(6, 9), at(7, 12), 1},
		{at(5, 7), at(6, 9), at(4, 4), -1},
		{at(-api.MaxCoord, -api.MaxCoord), at(api.MaxCoord, api.MaxCoord), at(api.MaxCoord-1, api.MaxCoord), 1},
		{at(-api.MaxCoord, -api.MaxCoord), at(api.MaxCoord, api.MaxCoord), at(api.MaxCoord, api.MaxCoord-1), -1},
		{at(-api.MaxCoord, -api.MaxCoord), at(api.MaxCoord, api.MaxCoord), at(-1, -1), 0},
		{at(0, 0), at(1<<62, 0), at(0, 2), -1},
		{at(0, 0), at(1<<62, 0), at(0, -2), -1},
		{at(0, 0), at(1<<32, 0), at(0, 1<<32), 0},
		{at(math.MinInt, 0), at(math.MaxInt, 0), at(0, 1), -1},
		{at(0, 0), at(math.MaxInt, 0), at(0, 2), -1},
	} {
		mustBe(t, vec.Side(c.a, c.b, c.p), c.want, "Side of", c.a, c.b, c.p)
	}
}

// sideOf returns the sign of what Cross becomes by wrapping around, of the coordinates themselves.
func sideOf(a, b, p api.Point) int {
	cross := sum([]int{a.X, b.Y}, []int{b.X, p.Y}, []int{p.X, a.Y}, []int{-1, a.Y, b.X}, []int{-1, b.Y, p.X}, []int{-1, p.Y, a.X})
	return big.NewInt(int64(cross)).Sign()
}

func TestSideOfAny(t *testing.T) {
	small := grid(upTo(2))
	for _, a := range small {
		for _, b := range small {
			for _, p := range small {
				mustBe(t, vec.Side(a, b, p), sideOf(a, b, p), "Side of", a, b, p)
			}
		}
	}
	for seed := range uint64(20000) {
		n := someInts(6, seed)
		a, b, p := at(n[0], n[1]), at(n[2], n[3]), at(n[4], n[5])
		mustBe(t, vec.Side(a, b, p), sideOf(a, b, p), "Side of", a, b, p)
	}
}

func TestWithin(t *testing.T) {
	for _, c := range []struct {
		d, from, to api.Point
		want        bool
	}{
		{at(1, 1), at(1, 0), at(0, 1), true},
		{at(-1, 1), at(1, 0), at(0, 1), false},
		{at(1, -1), at(1, 0), at(0, 1), false},
		{at(-1, -1), at(1, 0), at(0, 1), false},
		{at(0, 0), at(1, 0), at(0, 1), true},
		{at(7, 0), at(1, 0), at(0, 1), true},
		{at(0, 7), at(1, 0), at(0, 1), true},
		{at(-7, 0), at(1, 0), at(0, 1), false},
		{at(0, -7), at(1, 0), at(0, 1), false},
		{at(1, 1), at(0, 1), at(1, 0), false},
		{at(-1, -1), at(0, 1), at(1, 0), true},
		{at(1, 1), at(1, 1), at(1, 1), true},
		{at(-1, -1), at(1, 1), at(1, 1), true},
		{at(1, 2), at(1, 1), at(1, 1), false},
		{at(2, 1), at(1, 1), at(1, 1), false},
		{at(-5, 3), at(0, 0), at(0, 0), true},
		{at(0, 2), at(1, 0), at(0, 0), true},
		{at(0, -2), at(1, 0), at(0, 0), false},
		{at(2, 0), at(0, 0), at(0, 1), true},
		{at(-2, 0), at(0, 0), at(0, 1), false},
		{at(0, 2), at(1<<62, 0), at(0, 1), false},
		{at(0, -2), at(1<<62, 0), at(0, 1), false},
		{at(2, 0), at(1, 0), at(0, 1<<62), false},
		{at(-1, -1<<32), at(1<<32, 0), at(0, -1), true},
		{at(math.MinInt, 0), at(1, 0), at(0, -1), false},
	} {
		mustBe(t, vec.Within(c.d, c.from, c.to), c.want, "Within of", c.d, c.from, c.to)
	}
}

func TestWithinOfAny(t *testing.T) {
	list := append(grid(upTo(1)), grid(fewExtremes())...)
	for _, d := range list {
		for _, from := range list {
			for _, to := range list {
				first := sum([]int{from.X, d.Y}, []int{-1, from.Y, d.X})
				second := sum([]int{d.X, to.Y}, []int{-1, d.Y, to.X})
				mustBe(t, vec.Within(d, from, to), first >= 0 && second >= 0, "Within of", d, from, to)
			}
		}
	}
}
