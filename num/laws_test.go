package num_test

import (
	"slices"
	"testing"

	"etchant/api"
	"etchant/num"
)

// P1.7

// small returns the samples whose products of three have at most 64 digits.
func small() []api.Num {
	return slices.DeleteFunc(samples(), func(a api.Num) bool { return len(a.D) > 20 })
}

func TestOrderDoesNotMatter(t *testing.T) {
	for _, a := range samples() {
		for _, b := range samples() {
			sum, fits := num.Add(a, b)
			turned, ok := num.Add(b, a)
			if fits != ok || num.Cmp(sum, turned) != 0 {
				t.Errorf("sums of %v and %v", a, b)
			}
			product, fits := num.Mul(a, b)
			turned, ok = num.Mul(b, a)
			if fits != ok || num.Cmp(product, turned) != 0 {
				t.Errorf("products of %v and %v", a, b)
			}
		}
	}
}

func TestGroupsDoNotMatter(t *testing.T) {
	calls := []func(a, b api.Num) (api.Num, bool){num.Add, num.Mul}
	numbers := small()
	for i, a := range numbers {
		for j, b := range numbers {
			c := numbers[(i*7+j*3)%len(numbers)]
			for k, call := range calls {
				left, ok := call(a, b)
				left, okLeft := call(must(t, left, ok), c)
				right, ok := call(b, c)
				right, okRight := call(a, must(t, right, ok))
				if !okLeft || !okRight || num.Cmp(left, right) != 0 {
					t.Errorf("call %d of %v, %v and %v", k, a, b, c)
				}
			}
		}
	}
}

func TestProductsOfSums(t *testing.T) {
	numbers := small()
	for i, a := range numbers {
		for j, b := range numbers {
			c := numbers[(i*5+j*11)%len(numbers)]
			sum, ok := num.Add(a, b)
			whole, okWhole := num.Mul(must(t, sum, ok), c)
			first, okFirst := num.Mul(a, c)
			second, okSecond := num.Mul(b, c)
			parts, okParts := num.Add(must(t, first, okFirst), must(t, second, okSecond))
			if !okWhole || !okParts || num.Cmp(whole, parts) != 0 {
				t.Errorf("(%v + %v) %v", a, b, c)
			}
		}
	}
}

func TestSubOfItself(t *testing.T) {
	for _, a := range samples() {
		if rest, ok := num.Sub(a, a); !ok || !zero(rest) {
			t.Errorf("%v less itself: %v, %v", a, rest, ok)
		}
	}
}

// divides reports whether b is a multiple of a.
func divides(t *testing.T, a, b api.Num) bool {
	t.Helper()
	_, rest, ok := num.Div(b, a)
	return zero(must(t, rest, ok))
}

func TestDivisorsDivideGcd(t *testing.T) {
	numbers := small()
	for i, divisor := range numbers {
		if divisor.Neg || len(divisor.D) == 0 {
			continue
		}
		for j, x := range numbers {
			a, okA := num.Mul(divisor, x)
			b, okB := num.Mul(divisor, numbers[(i+j*5)%len(numbers)])
			g, ok := num.Gcd(must(t, a, okA), must(t, b, okB))
			if !divides(t, divisor, must(t, g, ok)) {
				t.Errorf("%v does not divide the Gcd %v", divisor, g)
			}
			if len(g.D) > 0 && (!divides(t, g, a) || !divides(t, g, b)) {
				t.Errorf("the Gcd %v does not divide %v and %v", g, a, b)
			}
		}
	}
}

// P1, and the rules R1, R3 and R4

// everything calls all functions with a and b, and returns the numbers and texts that they return.
func everything(a, b api.Num) ([]api.Num, []string) {
	sum, _ := num.Add(a, b)
	difference, _ := num.Sub(a, b)
	product, _ := num.Mul(a, b)
	quotient, rest, _ := num.Div(a, b)
	divisor, _ := num.Gcd(a, b)
	n, _ := num.Int(a)
	list := []api.Num{sum, difference, product, quotient, rest, divisor, num.Of(n), num.Of(num.Cmp(a, b))}
	var texts []string
	for _, x := range list {
		texts = append(texts, num.Text(x))
	}
	return list, append(texts, num.Text(a), num.Text(b))
}

func TestNilIsEmpty(t *testing.T) {
	for _, a := range append(samples(), wrong()...) {
		_, x := everything(a, api.Num{})
		_, y := everything(a, api.Num{D: []uint32{}})
		if !slices.Equal(x, y) {
			t.Errorf("%v with nil and empty: %v, %v", a, x, y)
		}
		_, x = everything(api.Num{}, a)
		_, y = everything(api.Num{D: []uint32{}}, a)
		if !slices.Equal(x, y) {
			t.Errorf("nil and empty with %v: %v, %v", a, x, y)
		}
	}
}

func TestCallsRepeat(t *testing.T) {
	numbers := append(samples(), wrong()...)
	for _, a := range numbers {
		for _, b := range numbers {
			_, x := everything(a, b)
			_, y := everything(a, b)
			if !slices.Equal(x, y) {
				t.Errorf("%v and %v: %v, then %v", a, b, x, y)
			}
		}
	}
}

// Arguments stay as they are, also beyond their lengths, and results are in memory of their own.
func TestMemory(t *testing.T) {
	numbers := append(samples(), wrong()...)
	for _, a := range numbers {
		for _, b := range numbers {
			x := api.Num{Neg: a.Neg, D: append(slices.Clone(a.D), 77)[:len(a.D)]}
			y := api.Num{Neg: b.Neg, D: append(slices.Clone(b.D), 88)[:len(b.D)]}
			results, texts := everything(x, y)
			for i, r := range results {
				r.D = r.D[:cap(r.D)]
				for k := range r.D {
					r.D[k] = uint32(100 + i)
				}
			}
			for i, r := range results {
				for _, digit := range r.D[:cap(r.D)] {
					if digit != uint32(100+i) {
						t.Fatalf("%v and %v: results share memory", a, b)
					}
				}
			}
			if !slices.Equal(x.D, a.D) || !slices.Equal(y.D, b.D) {
				t.Fatalf("%v and %v were changed", a, b)
			}
			if x.D[:len(x.D)+1][len(x.D)] != 77 || y.D[:len(y.D)+1][len(y.D)] != 88 {
				t.Fatalf("what follows %v and %v was changed", a, b)
			}
			if _, again := everything(x, y); !slices.Equal(texts, again) {
				t.Fatalf("%v and %v: results depend on others", a, b)
			}
		}
	}
}
