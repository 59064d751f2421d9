// Package num computes with whole numbers of up to 64 digits to the base 2^32: see shared/doc/01-num.md.
package num

import (
	"strconv"
	"strings"

	"etchant/api"
)

// billion is the greatest power of ten that one digit holds; groupLen is the number of its zeros.
const (
	billion  = 1000000000
	groupLen = 9
)

// Of returns the number that stands for n.
func Of(n int) api.Num {
	size := uint64(n)
	if n < 0 {
		size = -size // the least int has no opposite among the ints, but has one here
	}
	digits := split(size)
	a, _ := number(n < 0, digits[:2])
	return a
}

// Int returns the int that a stands for; false, if a is not right, or is no int.
func Int(a api.Num) (int, bool) {
	if !Right(a) || len(a.D) > 2 {
		return 0, false
	}
	size := word(a.D)
	n := int(size)
	if a.Neg {
		n = -n
	}
	// A size that is too great wraps around to the other sign.
	if (n < 0) != a.Neg {
		return 0, false
	}
	return n, true
}

// Right reports whether a is right: at most 64 digits, no zero at their end, and no sign without digits.
func Right(a api.Num) bool {
	n := len(a.D)
	if n == 0 {
		return !a.Neg
	}
	return n <= api.MaxDigits && a.D[n-1] != 0
}

// Add returns the sum of a and b; false, if one of them is not right, or the sum has too many digits.
func Add(a, b api.Num) (api.Num, bool) {
	if !Right(a) || !Right(b) {
		return api.Num{}, false
	}
	return signedSum(a, b, b.Neg)
}

// Sub returns a less b; false, if one of them is not right, or the difference has too many digits.
func Sub(a, b api.Num) (api.Num, bool) {
	if !Right(a) || !Right(b) {
		return api.Num{}, false
	}
	return signedSum(a, b, !b.Neg)
}

// signedSum returns the sum of a and b, where negative is the sign of b.
func signedSum(a, b api.Num, negative bool) (api.Num, bool) {
	if a.Neg == negative {
		total := sum(a.D, b.D)
		return number(a.Neg, total[:max(len(a.D), len(b.D))+1])
	}
	if order(a.D, b.D) < 0 {
		rest := difference(b.D, a.D)
		return number(negative, rest[:len(b.D)])
	}
	rest := difference(a.D, b.D)
	return number(a.Neg, rest[:len(a.D)])
}

// Mul returns the product of a and b; false, if one of them is not right, or the product has too many digits.
func Mul(a, b api.Num) (api.Num, bool) {
	if !Right(a) || !Right(b) {
		return api.Num{}, false
	}
	// A product has as many digits as its factors together, or one less (or none, if one of them is 0).
	if len(a.D)+len(b.D) > api.MaxDigits+1 {
		return api.Num{}, false
	}
	total := product(a.D, b.D)
	return number(a.Neg != b.Neg, total[:len(a.D)+len(b.D)])
}

// Div returns q and r for which a is q b + r, and r is at least 0 and less than b; false, unless both are right and b is greater than 0.
func Div(a, b api.Num) (api.Num, api.Num, bool) {
	if !Right(a) || !Right(b) || b.Neg || len(b.D) == 0 {
		return api.Num{}, api.Num{}, false
	}
	quotient, rest := divide(a.D, b.D)
	if a.Neg && length(rest[:len(b.D)]) > 0 {
		// Rounding towards 0 has left a rest below 0: one b more makes it positive.
		quotient = sum(quotient[:len(a.D)], []uint32{1})
		rest = difference(b.D, rest[:len(b.D)])
	}
	// Both fit: the quotient is at most as far from 0 as a, and the rest is less than b.
	q, _ := number(a.Neg, quotient[:len(a.D)])
	r, _ := number(false, rest[:len(b.D)])
	return q, r, true
}

// Gcd returns the greatest number that divides both a and b; false, unless both are right.
func Gcd(a, b api.Num) (api.Num, bool) {
	if !Right(a) || !Right(b) {
		return api.Num{}, false
	}
	divisor := commonDivisor(a.D, b.D)
	return number(false, divisor[:])
}

// Cmp returns -1, 0 or 1, if a is less than, equal to, or greater than b; 0, if one of them is not right.
func Cmp(a, b api.Num) int {
	switch {
	case !Right(a) || !Right(b):
		return 0
	case a.Neg && b.Neg:
		return order(b.D, a.D)
	case a.Neg:
		return -1
	case b.Neg:
		return 1
	}
	return order(a.D, b.D)
}

// Text returns a in decimal; the empty string, if it is not right.
func Text(a api.Num) string {
	if !Right(a) {
		return ""
	}
	if len(a.D) == 0 {
		return "0"
	}
	var left row
	n := copy(left[:], a.D)
	text := ""
	for n > 0 {
		group := strconv.Itoa(int(cut(left[:n], billion)))
		n = length(left[:n])
		if n > 0 {
			group = strings.Repeat("0", groupLen-len(group)) + group
		}
		text = group + text
	}
	if a.Neg {
		return "-" + text
	}
	return text
}
