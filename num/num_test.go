package num_test

import (
	"fmt"
	"math"
	"math/big"
	"slices"
	"strconv"
	"testing"

	"etchant/api"
	"etchant/num"
)

// P1.1

func TestRight(t *testing.T) {
	for _, a := range samples() {
		if !num.Right(a) {
			t.Errorf("%v is right", a)
		}
	}
	for _, a := range wrong() {
		if num.Right(a) {
			t.Errorf("%d digits, %v: not right", len(a.D), a.Neg)
		}
	}
}

func TestOf(t *testing.T) {
	cases := []struct {
		n    int
		want api.Num
	}{
		{0, of()},
		{1, of(1)},
		{-1, minus(1)},
		{1<<32 - 1, of(top)},
		{1 << 32, of(0, 1)},
		{-1 << 32, minus(0, 1)},
		{-5 - 7<<32, minus(5, 7)},
		{math.MaxInt, of(top, 1<<31-1)},
		{math.MinInt + 1, minus(top, 1<<31-1)},
		{math.MinInt, minus(0, 1<<31)},
	}
	for _, c := range cases {
		a := num.Of(c.n)
		if a.Neg != c.want.Neg || !slices.Equal(a.D, c.want.D) || !num.Right(a) {
			t.Errorf("Of of %d: %v", c.n, a)
		}
		if n, ok := num.Int(a); n != c.n || !ok {
			t.Errorf("Int of Of of %d: %d, %v", c.n, n, ok)
		}
	}
}

func TestInt(t *testing.T) {
	for _, a := range samples() {
		want := exact(a)
		n, ok := num.Int(a)
		if ok != want.IsInt64() || ok && int64(n) != want.Int64() || !ok && n != 0 {
			t.Errorf("Int of %v: %d, %v", a, n, ok)
		}
	}
	none := []api.Num{of(0, 1<<31), of(1, 1<<31), of(top, top), minus(1, 1<<31), minus(0, 1<<31+1), minus(top, top), of(0, 0, 1), minus(0, 0, 1), power(63)}
	for _, a := range append(none, wrong()...) {
		if n, ok := num.Int(a); n != 0 || ok {
			t.Errorf("Int of %d digits, %v: %d, %v", len(a.D), a.Neg, n, ok)
		}
	}
}

// P1.2

// operation is a call with two arguments, and the one of package big that says what it should return.
type operation struct {
	name  string
	call  func(a, b api.Num) (api.Num, bool)
	model func(a, b *big.Int) *big.Int
}

func operations() []operation {
	return []operation{
		{"Add", num.Add, func(a, b *big.Int) *big.Int { return new(big.Int).Add(a, b) }},
		{"Sub", num.Sub, func(a, b *big.Int) *big.Int { return new(big.Int).Sub(a, b) }},
		{"Mul", num.Mul, func(a, b *big.Int) *big.Int { return new(big.Int).Mul(a, b) }},
	}
}

func TestOperations(t *testing.T) {
	for _, o := range operations() {
		for _, a := range samples() {
			for _, b := range samples() {
				got, ok := o.call(a, b)
				want := o.model(exact(a), exact(b))
				what := fmt.Sprint(o.name, " of ", a, " and ", b)
				if fits(want) {
					expect(t, what, got, ok, want)
				} else {
					refuse(t, what, got, ok)
				}
			}
		}
	}
}

func TestOperationsAtTheLimit(t *testing.T) {
	most := repeated(top, 64)
	least := minus(most.D...)
	cases := []struct {
		call func(a, b api.Num) (api.Num, bool)
		a, b api.Num
		ok   bool
	}{
		{num.Add, most, of(), true},
		{num.Add, most, of(1), false},
		{num.Add, least, minus(1), false},
		{num.Add, most, minus(1), true},
		{num.Add, most, least, true},
		{num.Add, most, most, false},
		{num.Sub, most, minus(1), false},
		{num.Sub, least, of(1), false},
		{num.Sub, of(), most, true},
		{num.Sub, most, most, true},
		{num.Sub, least, most, false},
		{num.Mul, most, of(1), true},
		{num.Mul, most, minus(1), true},
		{num.Mul, most, of(2), false},
		{num.Mul, most, of(), true},
		{num.Mul, most, most, false},
		{num.Mul, power(31), power(32), true},
		{num.Mul, power(32), power(32), false},
		{num.Mul, repeated(top, 32), repeated(top, 32), true},
		{num.Mul, repeated(top, 32), repeated(top, 33), false},
		{num.Mul, repeated(1, 32), repeated(1, 33), true},
	}
	for k, c := range cases {
		got, ok := c.call(c.a, c.b)
		if ok != c.ok || !num.Right(got) || !ok && !zero(got) {
			t.Errorf("case %d: %v, %v", k, got, ok)
		}
	}
}

func TestOperationsOnWrongNumbers(t *testing.T) {
	for _, o := range operations() {
		for _, a := range wrong() {
			for _, b := range append(wrong(), of(), of(1), minus(1), repeated(top, 64)) {
				got, ok := o.call(a, b)
				refuse(t, o.name, got, ok)
				got, ok = o.call(b, a)
				refuse(t, o.name, got, ok)
			}
		}
	}
}

// P1.3

// checkDiv checks one division against package big, which divides in the same way (with a rest that is not negative) if b is greater than 0.
func checkDiv(t *testing.T, a, b api.Num) {
	t.Helper()
	q, r, ok := num.Div(a, b)
	what := fmt.Sprint("Div of ", a, " and ", b)
	if b.Neg || len(b.D) == 0 {
		refuse(t, what, q, ok)
		refuse(t, what, r, ok)
		return
	}
	quotient, rest := new(big.Int).DivMod(exact(a), exact(b), new(big.Int))
	expect(t, what, q, ok, quotient)
	expect(t, what, r, ok, rest)
}

func TestDiv(t *testing.T) {
	for _, a := range samples() {
		for _, b := range samples() {
			checkDiv(t, a, b)
		}
	}
}

func TestDivOfSmallNumbers(t *testing.T) {
	for _, c := range [][4]int{{7, 2, 3, 1}, {-7, 2, -4, 1}, {-8, 2, -4, 0}, {8, 2, 4, 0}, {0, 3, 0, 0}, {-1, 5, -1, 4}, {-5, 1, -5, 0}, {math.MinInt, 1, math.MinInt, 0}, {math.MinInt, math.MaxInt, -2, math.MaxInt - 1}} {
		q, r, ok := num.Div(num.Of(c[0]), num.Of(c[1]))
		quotient, _ := num.Int(q)
		rest, _ := num.Int(r)
		if !ok || quotient != c[2] || rest != c[3] {
			t.Errorf("%d / %d: %d, %d, %v", c[0], c[1], quotient, rest, ok)
		}
	}
}

// The digits of a quotient are guessed: here the guesses are 0, 1 and 2 too great, and as great as a digit can be.
func TestDivWithWrongGuesses(t *testing.T) {
	edges := []uint32{0, 1, 1<<31 - 1, 1 << 31, 1<<31 + 1, top - 1, top}
	for _, low := range edges {
		for _, high := range edges[1:] {
			b := of(low, high)
			for _, x := range edges {
				for _, y := range edges {
					for _, z := range edges[1:] {
						checkDiv(t, of(x, y, z), b)
						checkDiv(t, minus(x, y, z), b)
						checkDiv(t, of(x, y, y, z), of(low, low, high))
					}
				}
			}
		}
	}
}

func TestDivRefuses(t *testing.T) {
	right := []api.Num{of(), of(1), minus(1), repeated(top, 64)}
	for _, a := range append(wrong(), right...) {
		for _, b := range append(wrong(), of(), minus(1), minus(2, 1)) {
			q, r, ok := num.Div(a, b)
			refuse(t, "quotient", q, ok)
			refuse(t, "rest", r, ok)
		}
	}
	for _, a := range wrong() {
		for _, b := range right {
			q, r, ok := num.Div(a, b)
			refuse(t, "quotient", q, ok)
			refuse(t, "rest", r, ok)
		}
	}
}

// P1.4

// checkGcd checks one call of Gcd against package big.
func checkGcd(t *testing.T, a, b api.Num) {
	t.Helper()
	got, ok := num.Gcd(a, b)
	want := new(big.Int).GCD(nil, nil, new(big.Int).Abs(exact(a)), new(big.Int).Abs(exact(b)))
	expect(t, fmt.Sprint("Gcd of ", a, " and ", b), got, ok, want)
}

func TestGcd(t *testing.T) {
	for _, a := range samples() {
		for _, b := range samples() {
			checkGcd(t, a, b)
		}
	}
	for _, c := range [][3]int{{-12, 18, 6}, {12, -18, 6}, {-12, -18, 6}, {0, 0, 0}, {0, -5, 5}, {5, 0, 5}, {7, 9, 1}, {math.MinInt, 1 << 40, 1 << 40}} {
		g, ok := num.Gcd(num.Of(c[0]), num.Of(c[1]))
		if n, is := num.Int(g); !ok || !is || n != c[2] {
			t.Errorf("Gcd of %d and %d: %v", c[0], c[1], g)
		}
	}
}

func TestGcdOfProducts(t *testing.T) {
	for k, n := range []int{1, 2, 3, 8, 20, 31} {
		factor := of(mixed(n, uint64(k+50))...)
		for _, m := range []int{1, 2, 3, 9, 33} {
			a, okA := num.Mul(factor, of(mixed(m, uint64(k+70))...))
			b, okB := num.Mul(factor, minus(mixed(m, uint64(k+90))...))
			checkGcd(t, must(t, a, okA), must(t, b, okB))
		}
	}
}

func TestGcdOfWrongNumbers(t *testing.T) {
	for _, a := range wrong() {
		for _, b := range append(wrong(), of(), of(6), repeated(top, 64)) {
			got, ok := num.Gcd(a, b)
			refuse(t, "Gcd", got, ok)
			got, ok = num.Gcd(b, a)
			refuse(t, "Gcd", got, ok)
		}
	}
}

// P1.5

func TestCmp(t *testing.T) {
	for _, a := range samples() {
		for _, b := range samples() {
			if got, want := num.Cmp(a, b), exact(a).Cmp(exact(b)); got != want {
				t.Errorf("Cmp of %v and %v: %d, not %d", a, b, got, want)
			}
		}
	}
	for _, a := range wrong() {
		for _, b := range append(wrong(), of(), of(6), minus(6), repeated(top, 64)) {
			if num.Cmp(a, b) != 0 || num.Cmp(b, a) != 0 {
				t.Errorf("Cmp of %d and %d digits", len(a.D), len(b.D))
			}
		}
	}
}

// Numbers that differ in a single digit, low or high.
func TestCmpOfNeighbours(t *testing.T) {
	for place := range 64 {
		less, more := repeated(5, 64), repeated(5, 64)
		more.D[place] = 6
		if num.Cmp(less, more) != -1 || num.Cmp(more, less) != 1 {
			t.Errorf("place %d", place)
		}
		less.Neg, more.Neg = true, true
		if num.Cmp(less, more) != 1 || num.Cmp(more, less) != -1 {
			t.Errorf("place %d, negative", place)
		}
	}
}

// P1.6

func TestText(t *testing.T) {
	for _, a := range samples() {
		if got, want := num.Text(a), exact(a).String(); got != want {
			t.Errorf("Text of %v: %q, not %q", a, got, want)
		}
	}
	for _, n := range []int{0, 9, -10, 999999999, 1000000000, 1000000001, -999999999999999999, 1000000000000000000, 5000000007, math.MaxInt, math.MinInt} {
		if got := num.Text(num.Of(n)); got != strconv.Itoa(n) {
			t.Errorf("Text of %d: %q", n, got)
		}
	}
	if got := num.Text(minus(0, 0, 1)); got != "-18446744073709551616" {
		t.Errorf("Text of -(2^64): %q", got)
	}
	for _, a := range wrong() {
		if got := num.Text(a); got != "" {
			t.Errorf("Text of %d digits, %v: %q", len(a.D), a.Neg, got)
		}
	}
}
