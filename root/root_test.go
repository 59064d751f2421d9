package root_test

import (
	"fmt"
	"math"
	"math/big"
	"slices"
	"testing"

	"etchant/api"
	"etchant/num"
	"etchant/root"
)

// P2.1

func TestOf(t *testing.T) {
	for _, c := range []struct {
		add, sign, n, d        int
		wantSign, wantN, wantD int
	}{
		{3, -1, 8, 18, -1, 4, 9},
		{3, 1, 8, 18, 1, 4, 9},
		{3, 1, 0, 5, 0, 0, 1},
		{3, -1, 0, 5, 0, 0, 1},
		{3, 0, 0, 5, 0, 0, 1},
		{-7, 0, 4, 9, 0, 0, 1},
		{0, 0, 7, 7, 0, 0, 1},
		{0, 1, 2, 1, 1, 2, 1},
		{0, 1, 5, 5, 1, 1, 1},
		{0, -1, 7, 9, -1, 7, 9},
		{5, 1, 6, 4, 1, 3, 2},
		{math.MaxInt, 1, math.MaxInt, math.MaxInt - 1, 1, math.MaxInt, math.MaxInt - 1},
		{math.MinInt, -1, 1 << 62, 1 << 40, -1, 1 << 22, 1},
	} {
		a, ok := root.Of(c.add, c.sign, num.Of(c.n), num.Of(c.d))
		want := api.Root{Add: c.add, Sign: c.wantSign, N: num.Of(c.wantN), D: num.Of(c.wantD)}
		if !ok || !same(a, want) {
			t.Errorf("Of of %d, %d, %d, %d: %v, %v", c.add, c.sign, c.n, c.d, a, ok)
		}
	}
}

// The limit of 8 digits is one of the fraction in lowest terms; without a sign, or with 0, this is 0/1.
func TestOfAtTheLimit(t *testing.T) {
	one, nine, most := num.Of(1), number(about(256, 0)), full(64)
	odd := number(about(256, 1))
	for k, c := range []struct {
		sign  int
		n, d  api.Num
		ok    bool
		wantN api.Num
		wantD api.Num
	}{
		{1, full(8), one, true, full(8), one},
		{-1, one, full(8), true, one, full(8)},
		{1, full(8), number(about(256, -2)), true, full(8), number(about(256, -2))},
		{1, nine, one, false, one, one},
		{1, one, nine, false, one, one},
		{-1, nine, odd, false, one, one},
		{1, nine, nine, true, one, one},
		{1, most, most, true, one, one},
		{1, most, one, false, one, one},
		{1, nine, num.Of(2), true, number(about(255, 0)), one},
		{-1, num.Of(6), number(new(big.Int).Mul(about(255, 0), big.NewInt(3))), true, one, number(about(254, 0))},
		{1, num.Of(3), nine, false, one, one},
		{0, nine, one, true, num.Of(0), one},
		{0, one, nine, true, num.Of(0), one},
		{0, most, odd, true, num.Of(0), one},
		{1, num.Of(0), nine, true, num.Of(0), one},
		{-1, num.Of(0), most, true, num.Of(0), one},
	} {
		a, ok := root.Of(9, c.sign, c.n, c.d)
		if !c.ok {
			refuse(t, fmt.Sprint("case ", k), a, ok)
			continue
		}
		sign := c.sign
		if len(c.n.D) == 0 {
			sign = 0
		}
		if !ok || !same(a, api.Root{Add: 9, Sign: sign, N: c.wantN, D: c.wantD}) {
			t.Errorf("case %d: %v, %v", k, a, ok)
		}
	}
}

func TestOfRefuses(t *testing.T) {
	for _, c := range [][3]int{{2, 1, 1}, {-2, 1, 1}, {2, 0, 1}, {math.MaxInt, 1, 1}, {math.MinInt, 1, 1}, {1, 1, 0}, {0, 1, 0}, {0, 0, 0}, {1, 0, 0}, {1, 1, -1}, {0, 1, -1}, {-1, 1, math.MinInt}, {1, -1, 1}, {0, -1, 1}, {-1, math.MinInt, 1}, {1, -4, -9}, {1, 0, -9}} {
		a, ok := root.Of(3, c[0], num.Of(c[1]), num.Of(c[2]))
		refuse(t, fmt.Sprint("Of of ", c), a, ok)
	}
	for _, bad := range wrongNumbers() {
		for sign := -1; sign <= 1; sign++ {
			a, ok := root.Of(3, sign, bad, num.Of(1))
			refuse(t, "Of with a wrong n", a, ok)
			for _, n := range []int{0, 1, 5} {
				a, ok = root.Of(3, sign, num.Of(n), bad)
				refuse(t, "Of with a wrong d", a, ok)
			}
			a, ok = root.Of(3, sign, bad, bad)
			refuse(t, "Of with wrong numbers", a, ok)
		}
	}
}

// P2.2

func TestRight(t *testing.T) {
	for _, a := range samples(t) {
		if !root.Right(a) {
			t.Errorf("%v is right", a)
		}
	}
	if !root.Right(api.Root{N: api.Num{D: []uint32{}}, D: num.Of(1)}) {
		t.Error("an empty list of digits is none")
	}
	for k, a := range wrongRoots() {
		if root.Right(a) {
			t.Errorf("wrong root %d is right", k)
		}
	}
}

// P2.3

func TestSign(t *testing.T) {
	for _, c := range [][4]int{{-3, 2, 2, -1}, {-3, 2, 3, 1}, {-4, 2, 4, 0}, {0, -1, 0, 0}, {0, -1, 5, -1}, {0, 1, 5, 1}, {0, 0, 5, 0}, {0, 0, 0, 0}, {7, -1, 49, 0}, {7, -1, 48, 1}, {7, -1, 50, -1}, {-1, 0, 100, -1}, {1, 0, 100, 1}, {1, 2, 3, 1}, {-1, -2, 3, -1}, {-1, 5, 0, -1}, {1, -5, 0, 1}, {1, 1, -1, 0}, {-5, 0, -1, 0}, {math.MinInt, 1, math.MaxInt, -1}} {
		if got := root.Sign(num.Of(c[0]), num.Of(c[1]), num.Of(c[2])); got != c[3] {
			t.Errorf("Sign of %v: %d", c, got)
		}
	}
}

// signParts returns numbers of up to 20 digits, negative ones among them.
func signParts() []*big.Int {
	sizes := []*big.Int{big.NewInt(1), big.NewInt(2), big.NewInt(3), big.NewInt(4), big.NewInt(49), about(32, 0), about(64, 1), about(320, 0), about(320, -1), about(639, 0), about(639, 1), about(640, -2), about(640, -1)}
	list := []*big.Int{new(big.Int)}
	for _, n := range sizes {
		list = append(list, n, new(big.Int).Neg(n))
	}
	return list
}

func TestSignOfLongNumbers(t *testing.T) {
	for _, a := range signParts() {
		for _, b := range signParts() {
			for _, c := range signParts() {
				want := 0
				if c.Sign() >= 0 {
					want = signum(rooted(a, b, c, big.NewInt(1)))
				}
				if got := root.Sign(number(a), number(b), number(c)); got != want {
					t.Errorf("Sign of %v, %v, %v: %d", a, b, c, got)
				}
			}
		}
	}
}

// a is as near to b √c as a whole number can be, below and above, or equal to it.
func TestSignOfNeighbours(t *testing.T) {
	one := big.NewInt(1)
	for _, b := range []*big.Int{big.NewInt(1), big.NewInt(1000003), about(63, -1), about(200, 7), about(300, -5)} {
		for _, c := range []*big.Int{big.NewInt(2), big.NewInt(4), about(64, 1), about(100, -3), new(big.Int).Mul(about(319, 1), about(319, 1)), about(640, -1)} {
			square := new(big.Int).Mul(new(big.Int).Mul(b, b), c)
			below := new(big.Int).Sqrt(square)
			above := new(big.Int).Add(below, one)
			want := below.Cmp(new(big.Int).Sqrt(new(big.Int).Sub(square, one))) // 1, if square is a square
			opposite := new(big.Int).Neg(b)
			if got := root.Sign(number(below), number(opposite), number(c)); got != want-1 {
				t.Errorf("Sign of %v, %v, %v: %d", below, opposite, c, got)
			}
			if got := root.Sign(number(new(big.Int).Neg(below)), number(b), number(c)); got != 1-want {
				t.Errorf("Sign of -%v, %v, %v: %d", below, b, c, got)
			}
			if got := root.Sign(number(above), number(opposite), number(c)); got != 1 {
				t.Errorf("Sign of %v, %v, %v: %d", above, opposite, c, got)
			}
		}
	}
}

func TestSignAtTheLimit(t *testing.T) {
	one, most := num.Of(1), full(20)
	least := number(new(big.Int).Neg(exact(most)))
	if root.Sign(most, most, most) != 1 || root.Sign(least, least, most) != -1 || root.Sign(most, least, most) != -1 || root.Sign(least, most, most) != 1 {
		t.Error("20 digits")
	}
	for _, long := range append(wrongNumbers(), number(about(640, 0)), number(about(640, 5)), full(21), full(64), number(new(big.Int).Neg(about(640, 0)))) {
		for _, short := range []api.Num{one, num.Of(0), num.Of(4), most} {
			for _, list := range [][3]api.Num{{long, short, short}, {short, long, short}, {short, short, long}, {long, long, short}, {short, long, long}, {long, short, long}, {long, long, long}} {
				if got := root.Sign(list[0], list[1], list[2]); got != 0 {
					t.Errorf("Sign with %d digits: %d", len(long.D), got)
				}
			}
		}
	}
}

// P2.4

func TestCmp(t *testing.T) {
	list := samples(t)
	var values []*big.Float
	for _, a := range list {
		values = append(values, value(a))
	}
	for i, a := range list {
		for j, b := range list {
			if got, want := root.Cmp(a, b), compare(values[i], values[j]); got != want {
				t.Errorf("Cmp of %s and %s: %d", root.Text(a), root.Text(b), got)
			}
		}
	}
}

func TestCmpOfExamples(t *testing.T) {
	for k, c := range []struct {
		a, b [4]int
		want int
	}{
		{[4]int{0, 1, 2, 1}, [4]int{3, -1, 3, 1}, 1},
		{[4]int{1, 1, 2, 1}, [4]int{0, 1, 6, 1}, -1},
		{[4]int{-1, 1, 8, 1}, [4]int{4, -1, 5, 1}, 1},
		{[4]int{0, 1, 4, 1}, [4]int{2, 0, 0, 1}, 0},
		{[4]int{5, -1, 9, 1}, [4]int{1, 1, 1, 1}, 0},
		{[4]int{0, 1, 9, 4}, [4]int{1, 1, 1, 4}, 0},
		{[4]int{2, -1, 1, 4}, [4]int{1, 1, 1, 4}, 0},
		{[4]int{0, -1, 4, 1}, [4]int{-2, 0, 0, 1}, 0},
		{[4]int{0, -1, 1, 4}, [4]int{-1, 1, 1, 4}, 0},
		{[4]int{2, -1, 4, 1}, [4]int{0, 0, 0, 1}, 0},
		{[4]int{0, 1, 2, 1}, [4]int{0, -1, 2, 1}, 1},
		{[4]int{10, -1, 99, 1}, [4]int{9, -1, 80, 1}, -1},
		{[4]int{math.MaxInt, 1, 2, 1}, [4]int{math.MinInt, -1, 2, 1}, 1},
		{[4]int{math.MaxInt, -1, 1, 1}, [4]int{math.MaxInt - 1, 0, 0, 1}, 0},
		{[4]int{math.MinInt, 1, 4, 1}, [4]int{math.MinInt + 1, 1, 1, 1}, 0},
	} {
		a, b := simple(t, c.a[0], c.a[1], c.a[2], c.a[3]), simple(t, c.b[0], c.b[1], c.b[2], c.b[3])
		if root.Cmp(a, b) != c.want || root.Cmp(b, a) != -c.want {
			t.Errorf("case %d: %d, %d", k, root.Cmp(a, b), root.Cmp(b, a))
		}
	}
}

// √y is as near to ahead + sign √x as y can be with a denominator of 2^120: nearer than floating numbers show.
func TestCmpOfNeighbours(t *testing.T) {
	scale := about(120, 0)
	for _, ahead := range []int{1, 5, -1, 1 << 20, 1 << 50, -1 << 40, math.MaxInt} {
		for _, x := range [][2]int{{2, 1}, {3, 7}, {1 << 61, 3}, {math.MaxInt, 2}, {1, math.MaxInt}} {
			for _, sign := range []int{-1, 1} {
				a := simple(t, ahead, sign, x[0], x[1])
				side := signum(value(a))
				square := value(a)
				square.Mul(square, square).Mul(square, float(scale))
				under, _ := square.Int(nil)
				over := new(big.Int).Add(under, big.NewInt(1))
				below, above := made(t, 0, side, number(under), number(scale)), made(t, 0, side, number(over), number(scale))
				if root.Cmp(a, below) != side || root.Cmp(below, a) != -side || root.Cmp(a, above) != -side || root.Cmp(above, a) != side {
					t.Errorf("neighbours of %s", root.Text(a))
				}
			}
		}
	}
}

func TestCmpInt(t *testing.T) {
	for _, a := range samples(t) {
		v := value(a)
		for _, n := range []int{0, 1, -1, 2, -4, a.Add, 1 << 40, math.MaxInt, math.MinInt} {
			want := compare(v, float(big.NewInt(int64(n))))
			if got := root.CmpInt(a, n); got != want || got != root.Cmp(a, simple(t, n, 0, 0, 1)) {
				t.Errorf("CmpInt of %s and %d: %d", root.Text(a), n, got)
			}
		}
	}
	if root.CmpInt(simple(t, 5, -1, 9, 1), 2) != 0 || root.CmpInt(simple(t, 0, 1, 2, 1), 1) != 1 || root.CmpInt(simple(t, 0, 1, 1, 2), 1) != -1 {
		t.Error("examples")
	}
}

func TestCmpOfWrongRoots(t *testing.T) {
	right := []api.Root{simple(t, 0, 0, 0, 1), simple(t, 100, 0, 0, 1), simple(t, -100, 1, 2, 3)}
	for k, a := range wrongRoots() {
		for _, b := range append(wrongRoots(), right...) {
			if root.Cmp(a, b) != 0 || root.Cmp(b, a) != 0 {
				t.Errorf("Cmp of wrong root %d and %v", k, b)
			}
		}
		for _, n := range []int{0, 100, -100, math.MaxInt, math.MinInt} {
			if root.CmpInt(a, n) != 0 {
				t.Errorf("CmpInt of wrong root %d and %d", k, n)
			}
		}
	}
}

// P2.5

func TestPlus(t *testing.T) {
	for _, c := range []struct {
		add, n int
		ok     bool
	}{
		{3, -5, true},
		{3, 0, true},
		{0, math.MaxInt, true},
		{0, math.MinInt, true},
		{1, math.MaxInt, false},
		{-1, math.MinInt, false},
		{-1, math.MaxInt, true},
		{math.MaxInt, 0, true},
		{math.MaxInt, 1, false},
		{math.MaxInt, -1, true},
		{math.MaxInt, math.MaxInt, false},
		{math.MaxInt, math.MinInt, true},
		{math.MinInt, 0, true},
		{math.MinInt, -1, false},
		{math.MinInt, 1, true},
		{math.MinInt, math.MinInt, false},
		{math.MinInt, math.MaxInt, true},
	} {
		for _, a := range []api.Root{simple(t, c.add, 0, 0, 1), simple(t, c.add, 1, 2, 1), made(t, c.add, -1, full(8), number(about(256, -2)))} {
			got, ok := root.Plus(a, c.n)
			if !c.ok {
				refuse(t, fmt.Sprint("Plus of ", root.Text(a), " and ", c.n), got, ok)
				continue
			}
			want := a
			want.Add += c.n
			if !ok || !same(got, want) {
				t.Errorf("Plus of %s and %d: %v, %v", root.Text(a), c.n, got, ok)
			}
		}
	}
	for _, a := range wrongRoots() {
		for _, n := range []int{0, 1, -1, math.MaxInt, math.MinInt} {
			got, ok := root.Plus(a, n)
			refuse(t, "Plus of a wrong root", got, ok)
		}
	}
}

// P2.6

func TestText(t *testing.T) {
	for _, c := range []struct {
		add, sign, n, d int
		want            string
	}{
		{3, -1, 8, 18, "3-r4/9"},
		{3, 1, 4, 9, "3+r4/9"},
		{3, 1, 0, 5, "3"},
		{-7, 0, 4, 9, "-7"},
		{0, 0, 0, 1, "0"},
		{0, 1, 2, 1, "0+r2"},
		{0, -1, 1, 1, "0-r1"},
		{-5, 1, 6, 4, "-5+r3/2"},
		{-5, -1, 1, 10, "-5-r1/10"},
		{math.MinInt, 1, math.MaxInt, 1, "-9223372036854775808+r9223372036854775807"},
		{math.MaxInt, -1, 1, math.MaxInt, "9223372036854775807-r1/9223372036854775807"},
	} {
		if got := root.Text(simple(t, c.add, c.sign, c.n, c.d)); got != c.want {
			t.Errorf("%q, not %q", got, c.want)
		}
	}
	long := made(t, 1, -1, full(8), number(about(256, -2)))
	if got, want := root.Text(long), "1-r"+about(256, -1).String()+"/"+about(256, -2).String(); got != want {
		t.Errorf("%q, not %q", got, want)
	}
	for k, a := range wrongRoots() {
		if got := root.Text(a); got != "" {
			t.Errorf("wrong root %d: %q", k, got)
		}
	}
}

// Right roots that are different have different texts.
func TestTextsAreDifferent(t *testing.T) {
	var texts []string
	for _, a := range samples(t) {
		texts = append(texts, root.Text(a))
	}
	slices.Sort(texts)
	if len(slices.Compact(slices.Clone(texts))) != len(texts) {
		t.Error("two roots have one text")
	}
}
