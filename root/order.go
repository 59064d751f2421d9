package root

import (
	"etchant/api"
	"etchant/num"
)

// tooLong is what product panics with.
const tooLong = "root: a number has too many digits"

// short reports whether a is right, and has at most so many digits.
func short(a api.Num, digits int) bool {
	return num.Right(a) && len(a.D) <= digits
}

// isOne reports whether a, which is right, is 1.
func isOne(a api.Num) bool {
	return num.Cmp(a, num.Of(1)) == 0
}

// fraction reports whether both are right, n is not negative, and d is at least 1.
func fraction(n, d api.Num) bool {
	return num.Right(n) && num.Right(d) && !n.Neg && !d.Neg && len(d.D) > 0
}

// lowest returns n and d, which are a fraction, in lowest terms.
func lowest(n, d api.Num) (api.Num, api.Num) {
	divisor, _ := num.Gcd(n, d)
	n, _, _ = num.Div(n, divisor)
	d, _, _ = num.Div(d, divisor)
	return n, d
}

// settle returns what compare returns; 0, if compare panics because of a number with too many digits.
func settle(compare func() int) (result int) {
	defer func() {
		if recover() != nil {
			result = 0
		}
	}()
	return compare()
}

// product multiplies all factors; it panics where a number would have too many digits.
func product(factors ...api.Num) api.Num {
	total := num.Of(1)
	for _, factor := range factors {
		total = fitting(num.Mul(total, factor))
	}
	return total
}

// fitting returns a number that fits, and panics for one that does not.
func fitting(a api.Num, fits bool) api.Num {
	if !fits {
		panic(tooLong)
	}
	return a
}

// side returns the sign of a right number.
func side(a api.Num) int {
	return num.Cmp(a, num.Of(0))
}

// signOf returns the sign of a + b √c, where c is not negative.
func signOf(a, b, c api.Num) int {
	first, second := side(a), side(b)*side(c)
	if first == 0 {
		return second
	}
	if second != -first {
		return first
	}
	// The two parts pull in opposite directions: the one with the greater square wins.
	return first * num.Cmp(product(a, a), product(b, b, c))
}

// order compares two right roots: first the sides on which a less the whole part of b, and the root of b, are; then, if both are on the same one, their squares.
func order(a, b api.Root) int {
	ahead := fitting(num.Sub(num.Of(a.Add), num.Of(b.Add)))
	sign := num.Of(a.Sign)
	under := product(a.N, a.D) // √(N/D) is √(N D) / D
	here := signOf(product(ahead, a.D), sign, under)
	if here < b.Sign {
		return -1
	}
	if here > b.Sign {
		return 1
	}
	// The square of ahead + sign √(N/D), less the square of the root of b, times both D. ahead has at most 64 bits, so that no number here has more than 20 digits, and the squares in signOf fit.
	whole := fitting(num.Add(product(ahead, ahead, a.D, b.D), product(a.N, b.D)))
	whole = fitting(num.Sub(whole, product(b.N, a.D)))
	return here * signOf(whole, product(num.Of(2), ahead, sign, b.D), under)
}
