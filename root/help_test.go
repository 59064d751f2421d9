package root_test

import (
	"math"
	"math/big"
	"slices"
	"testing"

	"etchant/api"
	"etchant/num"
	"etchant/root"
)

// precision is how many bits the values have that the answers are checked against. Values of the tests that are different are at least 2^-apart apart: their difference is a number of degree 4, the product of which with its conjugates is a fraction with a known denominator.
const (
	precision = 6000
	apart     = 4000
)

// number returns the right number that stands for n.
func number(n *big.Int) api.Num {
	a := api.Num{Neg: n.Sign() < 0}
	rest := new(big.Int).Abs(n)
	for rest.Sign() > 0 {
		a.D = append(a.D, uint32(rest.Uint64()))
		rest.Rsh(rest, 32)
	}
	return a
}

// exact returns what a stands for.
func exact(a api.Num) *big.Int {
	n := new(big.Int)
	for _, digit := range slices.Backward(a.D) {
		n.Lsh(n, 32).Or(n, big.NewInt(int64(digit)))
	}
	if a.Neg {
		n.Neg(n)
	}
	return n
}

// about returns 2^bits + more.
func about(bits uint, more int64) *big.Int {
	n := new(big.Int).Lsh(big.NewInt(1), bits)
	return n.Add(n, big.NewInt(more))
}

// full returns the greatest number of so many digits.
func full(digits uint) api.Num { return number(about(32*digits, -1)) }

// float returns n with many bits.
func float(n *big.Int) *big.Float {
	return new(big.Float).SetPrec(precision).SetInt(n)
}

// rooted returns add + factor √(n/d) with many bits.
func rooted(add, factor, n, d *big.Int) *big.Float {
	value := float(n)
	value.Quo(value, float(d))
	value.Sqrt(value)
	value.Mul(value, float(factor))
	return value.Add(value, float(add))
}

// value returns what a right root stands for with many bits.
func value(a api.Root) *big.Float {
	return rooted(big.NewInt(int64(a.Add)), big.NewInt(int64(a.Sign)), exact(a.N), exact(a.D))
}

// signum returns the sign of a value, where one that is too close to 0 to be anything else is 0.
func signum(v *big.Float) int {
	if v.Sign() == 0 || v.MantExp(nil) < -apart {
		return 0
	}
	return v.Sign()
}

// compare returns what Cmp should return for two roots with these values.
func compare(v, w *big.Float) int {
	return signum(new(big.Float).SetPrec(precision).Sub(v, w))
}

// made returns add + sign √(n/d), and fails the test, unless it is right.
func made(t *testing.T, add, sign int, n, d api.Num) api.Root {
	t.Helper()
	a, ok := root.Of(add, sign, n, d)
	if !ok || !root.Right(a) {
		t.Fatalf("Of of %d, %d, %v, %v: %v, %v", add, sign, n, d, a, ok)
	}
	return a
}

// simple returns add + sign √(n/d).
func simple(t *testing.T, add, sign, n, d int) api.Root {
	t.Helper()
	return made(t, add, sign, num.Of(n), num.Of(d))
}

// fractions returns fractions that are not 0, among them squares, and those with 8 digits.
func fractions() [][2]*big.Int {
	var list [][2]*big.Int
	for _, f := range [][2]int64{{1, 1}, {2, 1}, {3, 1}, {4, 1}, {9, 1}, {1, 4}, {9, 4}, {4, 9}, {2, 3}} {
		list = append(list, [2]*big.Int{big.NewInt(f[0]), big.NewInt(f[1])})
	}
	top := about(128, -1)
	return append(list,
		[2]*big.Int{about(126, 0), big.NewInt(1)},
		[2]*big.Int{about(126, 1), big.NewInt(1)},
		[2]*big.Int{about(126, -1), big.NewInt(1)},
		[2]*big.Int{new(big.Int).Mul(top, top), about(130, 0)},
		[2]*big.Int{about(256, -1), about(256, -2)},
		[2]*big.Int{about(256, -2), about(256, -1)},
		[2]*big.Int{about(256, -1), big.NewInt(1)},
		[2]*big.Int{big.NewInt(1), about(256, -1)},
	)
}

// samples returns roots of many sizes, with all signs, and at both ends of the ints.
func samples(t *testing.T) []api.Root {
	t.Helper()
	var list []api.Root
	for _, add := range []int{0, 1, -1, 2, -3, 1 << 40, math.MaxInt - 1, math.MaxInt, math.MinInt} {
		list = append(list, simple(t, add, 0, 0, 1))
		for _, f := range fractions() {
			list = append(list, made(t, add, 1, number(f[0]), number(f[1])), made(t, add, -1, number(f[0]), number(f[1])))
		}
	}
	return list
}

// wrongNumbers returns numbers that are not right.
func wrongNumbers() []api.Num {
	return []api.Num{
		{Neg: true},
		{D: []uint32{0}},
		{Neg: true, D: []uint32{0}},
		{D: []uint32{1, 0}},
		{D: []uint32{7, 0, 0, 0, 0, 0, 0, 0, 0, 0}},
		{D: slices.Repeat([]uint32{1}, 65)},
		{D: make([]uint32, 100000)},
		{D: slices.Repeat([]uint32{3}, 100000)},
	}
}

// wrongRoots returns roots that are not right.
func wrongRoots() []api.Root {
	one, two, nine := num.Of(1), num.Of(2), number(about(256, 0))
	list := []api.Root{
		{},
		{Add: 3},
		{Sign: 1, D: one},
		{Sign: -1, D: one},
		{N: one, D: one},
		{D: two},
		{D: full(8)},
		{Sign: 2, N: two, D: one},
		{Sign: -2, N: two, D: one},
		{Sign: math.MinInt, N: two, D: one},
		{Sign: math.MaxInt, N: two, D: one},
		{Sign: 2, D: one},
		{Sign: 1, N: two},
		{Sign: 1, N: two, D: num.Of(-1)},
		{Sign: 1, N: num.Of(-2), D: one},
		{Sign: -1, N: num.Of(-2), D: num.Of(-1)},
		{Sign: 1, N: two, D: two},
		{Sign: 1, N: num.Of(6), D: num.Of(9)},
		{Sign: 1, N: full(8), D: full(8)},
		{Sign: 1, N: nine, D: one},
		{Sign: 1, N: one, D: nine},
		{Sign: -1, N: nine, D: full(8)},
	}
	for _, a := range wrongNumbers() {
		list = append(list, api.Root{Sign: 1, N: a, D: one}, api.Root{Sign: 1, N: two, D: a}, api.Root{Sign: -1, N: a, D: a}, api.Root{N: a, D: one}, api.Root{D: a})
	}
	return list
}

// same reports whether both are the same root, field by field.
func same(a, b api.Root) bool {
	return a.Add == b.Add && a.Sign == b.Sign && alike(a.N, b.N) && alike(a.D, b.D)
}

// alike reports whether both are the same number, digit by digit.
func alike(a, b api.Num) bool {
	return a.Neg == b.Neg && slices.Equal(a.D, b.D)
}

// refuse fails the test, unless a and ok are what a call returns that has no result.
func refuse(t *testing.T, what string, a api.Root, ok bool) {
	t.Helper()
	if ok || !same(a, api.Root{}) {
		t.Errorf("%s: %v, %v; not false", what, a, ok)
	}
}
