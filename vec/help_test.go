package vec_test

import (
	"math"
	"math/big"
	"testing"

	"etchant/api"
)

// at returns a point.
func at(x, y int) api.Point { return api.Point{X: x, Y: y} }

// motion returns a motion.
func motion(x, y, turn int, mirror bool) api.Motion {
	return api.Motion{At: at(x, y), Turn: turn, Mirror: mirror}
}

// extremes returns ints of many sizes, among them those whose sums and products wrap around.
func extremes() []int {
	return []int{0, 1, -1, 7, -4, api.MaxCoord, -api.MaxCoord, api.MaxCoord + 1, 1 << 32, 3037000500, -3037000500, 1 << 62, -1 << 62, math.MaxInt, math.MinInt, math.MinInt + 1}
}

// fewExtremes returns some of them, for tests of many points.
func fewExtremes() []int { return []int{0, 1, -3, -1 << 32, 1<<62 + 1, math.MaxInt, math.MinInt} }

// grid returns all points with these coordinates.
func grid(coords []int) []api.Point {
	var list []api.Point
	for _, x := range coords {
		for _, y := range coords {
			list = append(list, at(x, y))
		}
	}
	return list
}

// upTo returns the ints from -n to n.
func upTo(n int) []int {
	var list []int
	for k := -n; k <= n; k++ {
		list = append(list, k)
	}
	return list
}

// manyTurns returns Turns of all remainders: small, negative and great ones, and the ends of the ints.
func manyTurns() []int {
	list := upTo(9)
	for _, end := range []int{math.MaxInt - 3, math.MinInt, 1 << 32, -1 << 32, 1000000007 - 3, -1000000007} {
		list = append(list, end, end+1, end+2, end+3)
	}
	return list
}

// fewTurns returns some of them, for tests of pairs.
func fewTurns() []int {
	return []int{0, 1, 2, 3, 4, 7, -1, -2, -7, math.MaxInt, math.MaxInt - 1, math.MinInt, math.MinInt + 1}
}

// motions returns motions with these Turns, mirrored ones as well as others, to several places.
func motions(turns []int) []api.Motion {
	var list []api.Motion
	for _, place := range []api.Point{at(0, 0), at(10, 20), at(-3, 1<<40), at(math.MinInt, 5), at(math.MaxInt, math.MinInt)} {
		for _, turn := range turns {
			list = append(list, motion(place.X, place.Y, turn, false), motion(place.X, place.Y, turn, true))
		}
	}
	return list
}

// probes returns points for motions to move: three that tell all motions apart, and others.
func probes() []api.Point {
	return []api.Point{at(0, 0), at(1, 0), at(0, 1), at(3, 4), at(-5, 2), at(api.MaxCoord, -api.MaxCoord), at(math.MaxInt, math.MinInt), at(math.MinInt, 1<<62)}
}

// someInts returns n ints that depend only on seed, of all sizes.
func someInts(n int, seed uint64) []int {
	list := make([]int, n)
	for k := range list {
		seed = seed*6364136223846793005 + 1442695040888963407
		size := seed >> 58
		seed = seed*6364136223846793005 + 1442695040888963407
		list[k] = int(seed) >> size
	}
	return list
}

// sum returns the int that the sum of some products becomes by wrapping around: each list holds the factors of one of them.
func sum(products ...[]int) int {
	total := new(big.Int)
	for _, factors := range products {
		product := big.NewInt(1)
		for _, factor := range factors {
			product.Mul(product, big.NewInt(int64(factor)))
		}
		total.Add(total, product)
	}
	all := new(big.Int).Lsh(big.NewInt(1), 64)
	half := new(big.Int).Lsh(big.NewInt(1), 63)
	total.Add(total, half)
	total.Mod(total, all) // Mod never returns a negative number
	return int(total.Sub(total, half).Int64())
}

// remainder returns that of turn by 4, from 0 to 3.
func remainder(turn int) int {
	n := big.NewInt(int64(turn))
	return int(n.Mod(n, big.NewInt(4)).Int64())
}

// matrix is what a motion does without At: X becomes [0][0] X + [0][1] Y.
type matrix [2][2]int

// matrixOf returns that of a motion, from the cosines and sines of quarters.
func matrixOf(m api.Motion) matrix {
	k := remainder(m.Turn)
	cos, sin := [4]int{1, 0, -1, 0}[k], [4]int{0, 1, 0, -1}[k]
	flip := 1
	if m.Mirror {
		flip = -1
	}
	return matrix{{cos * flip, -sin}, {sin * flip, cos}}
}

// times returns the product of both.
func (a matrix) times(b matrix) matrix {
	var c matrix
	for i := range c {
		for j := range c[i] {
			c[i][j] = a[i][0]*b[0][j] + a[i][1]*b[1][j]
		}
	}
	return c
}

// moved returns where m takes p, found out with its matrix.
func moved(m api.Motion, p api.Point) api.Point {
	a := matrixOf(m)
	return at(sum([]int{a[0][0], p.X}, []int{a[0][1], p.Y}, []int{m.At.X}), sum([]int{a[1][0], p.X}, []int{a[1][1], p.Y}, []int{m.At.Y}))
}

// mustBe reports an error unless got is want.
func mustBe[T comparable](t *testing.T, got, want T, what ...any) {
	t.Helper()
	if got != want {
		t.Errorf("%v: %+v, not %+v", what, got, want)
	}
}
