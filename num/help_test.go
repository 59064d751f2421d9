package num_test

import (
	"math/big"
	"slices"
	"testing"

	"etchant/api"
	"etchant/num"
)

const top = 1<<32 - 1 // the greatest digit

// of returns a number with these digits.
func of(digits ...uint32) api.Num { return api.Num{D: digits} }

// minus returns a negative number with these digits.
func minus(digits ...uint32) api.Num { return api.Num{Neg: true, D: digits} }

// repeated returns a number with n digits that are all the same.
func repeated(digit uint32, n int) api.Num { return of(slices.Repeat([]uint32{digit}, n)...) }

// power returns 2^(32 n).
func power(n int) api.Num { return of(append(make([]uint32, n), 1)...) }

// wrong returns numbers that are not right.
func wrong() []api.Num {
	return []api.Num{
		minus(),
		{Neg: true, D: []uint32{}},
		of(0),
		minus(0),
		of(1, 0),
		minus(5, 7, 0),
		repeated(0, 64),
		repeated(1, 65),
		{Neg: true, D: repeated(top, 65).D},
		repeated(0, 65),
		repeated(3, 100000),
	}
}

// mixed returns n digits that depend only on n and seed; many of them are at the ends of their range.
func mixed(n int, seed uint64) []uint32 {
	edges := []uint32{0, 1, 2, 1<<31 - 1, 1 << 31, 1<<31 + 1, top - 1, top}
	digits := make([]uint32, n)
	for k := range digits {
		seed = seed*6364136223846793005 + 1442695040888963407
		digits[k] = uint32(seed >> 32)
		if seed>>62 != 0 {
			digits[k] = edges[seed>>59&7]
		}
	}
	if digits[n-1] == 0 {
		digits[n-1] = uint32(n)
	}
	return digits
}

// samples returns right numbers of many sizes, with both signs, among them 0 and numbers with 64 digits.
func samples() []api.Num {
	list := []api.Num{{}, {D: []uint32{}}}
	sizes := []api.Num{of(1), of(2), of(3), of(7), of(1000000000), of(1 << 31), of(top), of(0, 1), of(top, top), of(0, 1<<31), of(top, 1<<31-1), of(1, 0, 1), power(31), power(32), power(63), repeated(top, 32), repeated(top, 64)}
	for k, n := range []int{1, 1, 2, 2, 3, 3, 4, 4, 5, 8, 8, 20, 31, 32, 33, 63, 64, 64} {
		sizes = append(sizes, of(mixed(n, uint64(k+1))...))
	}
	for _, a := range sizes {
		list = append(list, a, minus(a.D...))
	}
	return list
}

// exact returns what a stands for.
func exact(a api.Num) *big.Int {
	n := new(big.Int)
	for _, digit := range slices.Backward(a.D) {
		n.Lsh(n, 32).Or(n, big.NewInt(int64(digit)))
	}
	if a.Neg {
		n.Neg(n)
	}
	return n
}

// fits reports whether n has at most 64 digits.
func fits(n *big.Int) bool { return n.BitLen() <= 64*32 }

// zero reports whether a has no digits and no sign, as every result beside false.
func zero(a api.Num) bool { return !a.Neg && len(a.D) == 0 }

// expect fails the test, unless got stands for want and is right.
func expect(t *testing.T, what string, got api.Num, ok bool, want *big.Int) {
	t.Helper()
	if !ok || !num.Right(got) || exact(got).Cmp(want) != 0 {
		t.Errorf("%s: %v, %v; not %v", what, got, ok, want)
	}
}

// refuse fails the test, unless got and ok are what a call returns that has no result.
func refuse(t *testing.T, what string, got api.Num, ok bool) {
	t.Helper()
	if ok || !zero(got) {
		t.Errorf("%s: %v, %v; not false", what, got, ok)
	}
}

// must returns a number that is there.
func must(t *testing.T, a api.Num, ok bool) api.Num {
	t.Helper()
	if !ok {
		t.Fatal("no result")
	}
	return a
}
