package root_test

import (
	"math"
	"math/big"
	"slices"
	"testing"

	"etchant/api"
	"etchant/num"
	"etchant/root"
)

// P2.7

// some returns every k-th sample.
func some(t *testing.T, k int) []api.Root {
	t.Helper()
	var list []api.Root
	for i, a := range samples(t) {
		if i%k == 0 {
			list = append(list, a)
		}
	}
	return list
}

func TestCmpIsAnOrder(t *testing.T) {
	list := append(some(t, 5), simple(t, 2, 0, 0, 1), simple(t, 0, 1, 4, 1), simple(t, 5, -1, 9, 1))
	table := make([][]int, len(list))
	for i, a := range list {
		for _, b := range list {
			table[i] = append(table[i], root.Cmp(a, b))
		}
	}
	for i := range list {
		for j := range list {
			if table[i][j] != -table[j][i] || i == j && table[i][j] != 0 {
				t.Errorf("%s and %s", root.Text(list[i]), root.Text(list[j]))
			}
			for k := range list {
				if table[i][j] <= 0 && table[j][k] <= 0 && table[i][k] > 0 {
					t.Errorf("%s, %s and %s", root.Text(list[i]), root.Text(list[j]), root.Text(list[k]))
				}
			}
		}
	}
}

func TestPlusKeepsTheOrder(t *testing.T) {
	list := some(t, 3)
	for _, a := range list {
		for _, b := range list {
			for _, n := range []int{1, -1, 1 << 35, -1 << 60, math.MaxInt, math.MinInt} {
				more, okMore := root.Plus(a, n)
				other, okOther := root.Plus(b, n)
				if okMore && okOther && root.Cmp(more, other) != root.Cmp(a, b) {
					t.Errorf("%s and %s, plus %d", root.Text(a), root.Text(b), n)
				}
			}
		}
	}
}

func TestDifferentRootsOfOneNumber(t *testing.T) {
	list := []api.Root{simple(t, 2, 0, 0, 1), simple(t, 0, 1, 4, 1), simple(t, 1, 1, 1, 1), simple(t, 5, -1, 9, 1), simple(t, -8, 1, 100, 1), simple(t, 3, -1, 1, 1)}
	for i, a := range list {
		for j, b := range list {
			if root.Cmp(a, b) != 0 || i != j && same(a, b) || i != j && root.Text(a) == root.Text(b) {
				t.Errorf("%s and %s", root.Text(a), root.Text(b))
			}
		}
	}
}

// P2.8

func TestRootsOfSquares(t *testing.T) {
	for _, m := range []int{0, 1, 2, 3, 10, 65535, 1<<32 - 1, 1 << 32, math.MaxInt - 1, math.MaxInt} {
		square, _ := num.Mul(num.Of(m), num.Of(m))
		if a := made(t, 0, 1, square, num.Of(1)); root.CmpInt(a, m) != 0 {
			t.Errorf("√(%d²)", m)
		}
		if a := made(t, 0, -1, square, num.Of(1)); root.CmpInt(a, -m) != 0 {
			t.Errorf("-√(%d²)", m)
		}
	}
}

func TestRootsBesideSquares(t *testing.T) {
	for _, m := range []int64{0, 1, 2, 10, 1<<32 - 1, 1 << 62, math.MaxInt} {
		for _, d := range []*big.Int{big.NewInt(1), big.NewInt(7), about(64, 1), about(128, -3), about(129, 0)} {
			square := new(big.Int).Mul(d, new(big.Int).Mul(big.NewInt(m), big.NewInt(m)))
			for more := int64(-2); more <= 2; more++ {
				n := new(big.Int).Add(square, big.NewInt(more))
				if n.Sign() < 0 {
					continue
				}
				a := made(t, 0, 1, number(n), number(d))
				if got, want := root.CmpInt(a, int(m)), n.Cmp(square); got != want {
					t.Errorf("CmpInt of √(%v/%v) and %d: %d", n, d, m, got)
				}
			}
		}
	}
}

// P1, and the rules R1, R3 and R4

// answers calls all functions, and returns the roots and the other results.
func answers(a, b api.Root, n int) ([]api.Root, []any) {
	made, ok := root.Of(n, a.Sign, a.N, b.D)
	more, fits := root.Plus(a, n)
	others := []any{ok, fits, root.Right(a), root.Sign(a.N, b.N, b.D), root.Cmp(a, b), root.CmpInt(a, n), root.Text(a), root.Text(made), root.Text(more)}
	return []api.Root{made, more}, others
}

// guarded returns a number with the same digits and another one after them, within its memory.
func guarded(a api.Num) api.Num {
	return api.Num{Neg: a.Neg, D: append(slices.Clone(a.D), 77)[:len(a.D)]}
}

// kept reports whether a, which guarded returned, is still like b.
func kept(a, b api.Num) bool {
	return alike(a, b) && a.D[:len(a.D)+1][len(a.D)] == 77
}

// Numbers and roots of all kinds are left as they are, also beyond their lengths, and results are in memory of their own.
func TestMemory(t *testing.T) {
	list := append(some(t, 12), wrongRoots()...)
	list = append(list, api.Root{Add: 1, N: api.Num{D: []uint32{}}, D: num.Of(1)})
	for _, a := range list {
		for _, b := range list {
			x := api.Root{Add: a.Add, Sign: a.Sign, N: guarded(a.N), D: guarded(a.D)}
			y := api.Root{Add: b.Add, Sign: b.Sign, N: guarded(b.N), D: guarded(b.D)}
			results, others := answers(x, y, 5)
			if overlap(results) {
				t.Fatalf("%v and %v: results share memory", a, b)
			}
			if !kept(x.N, a.N) || !kept(x.D, a.D) || !kept(y.N, b.N) || !kept(y.D, b.D) {
				t.Fatalf("%v and %v were changed", a, b)
			}
			if _, again := answers(x, y, 5); !slices.Equal(others, again) {
				t.Fatalf("%v and %v: results depend on others", a, b)
			}
		}
	}
}

// overlap writes into all numbers of the roots, and reports whether one of them shows in another one.
func overlap(roots []api.Root) bool {
	var all [][]uint32
	for _, a := range roots {
		all = append(all, a.N.D[:cap(a.N.D)], a.D.D[:cap(a.D.D)])
	}
	for i, digits := range all {
		for k := range digits {
			digits[k] = uint32(100 + i)
		}
	}
	for i, digits := range all {
		for _, digit := range digits {
			if digit != uint32(100+i) {
				return true
			}
		}
	}
	return false
}
