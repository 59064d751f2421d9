package num

import (
	"iter"
	"math/bits"

	"etchant/api"
)

// row has room for the digits of a result, the lowest one first: one more than a right number has, for what carries.
type row [api.MaxDigits + 1]uint32

// column is a digit of a result, and what it carries to the next one.
type column [2]uint32

// down visits the digits and their places, from the highest one on.
func down(digits []uint32) iter.Seq2[int, uint32] {
	return func(yield func(int, uint32) bool) {
		for k := len(digits) - 1; k >= 0; k-- {
			if !yield(k, digits[k]) {
				return
			}
		}
	}
}

// length returns how many digits there are without the zeros at the end.
func length(digits []uint32) int {
	for k, digit := range down(digits) {
		if digit != 0 {
			return k + 1
		}
	}
	return 0
}

// number returns the right number with these digits, in memory of its own; false, if they are too many.
func number(negative bool, digits []uint32) (api.Num, bool) {
	n := length(digits)
	if n == 0 {
		return api.Num{}, true
	}
	if n > api.MaxDigits {
		return api.Num{}, false
	}
	own := make([]uint32, n)
	copy(own, digits)
	return api.Num{Neg: negative, D: own}, true
}

// split returns the digits of n.
func split(n uint64) row {
	return row{uint32(n), uint32(n >> 32)}
}

// word returns the number with these digits, of which there are at most two.
func word(digits []uint32) uint64 {
	var n uint64
	for _, digit := range down(digits) {
		n = n<<32 | uint64(digit)
	}
	return n
}

// order compares two numbers without zeros at their ends.
func order(x, y []uint32) int {
	if len(x) != len(y) {
		if len(x) < len(y) {
			return -1
		}
		return 1
	}
	for k, digit := range down(x) {
		if digit < y[k] {
			return -1
		}
		if digit > y[k] {
			return 1
		}
	}
	return 0
}

// combine makes the digits of a result from the digits of two numbers, the second of which is not longer than the first.
func combine(long, short []uint32, join func(x, y, carry uint32) column) row {
	var total row
	var carry uint32
	for k, x := range long {
		var y uint32
		if k < len(short) {
			y = short[k]
		}
		both := join(x, y, carry)
		total[k], carry = both[0], both[1]
	}
	total[len(long)] = carry
	return total
}

// sum adds two numbers of at most 64 digits.
func sum(x, y []uint32) row {
	if len(x) < len(y) {
		x, y = y, x
	}
	return combine(x, y, func(x, y, carry uint32) column {
		both := uint64(x) + uint64(y) + uint64(carry)
		return column{uint32(both), uint32(both >> 32)}
	})
}

// difference takes y from x, which is neither less nor shorter, and has at most 64 digits.
func difference(x, y []uint32) row {
	return combine(x, y, func(x, y, carry uint32) column {
		both := uint64(x) - uint64(y) - uint64(carry)
		return column{uint32(both), uint32(both >> 63)}
	})
}

// product multiplies two numbers that have at most 65 digits together.
func product(x, y []uint32) row {
	var total row
	for i, p := range x {
		var carry uint64
		for k, q := range y {
			carry += uint64(p)*uint64(q) + uint64(total[i+k])
			total[i+k] = uint32(carry)
			carry >>= 32
		}
		total[i+len(y)] = uint32(carry)
	}
	return total
}

// shifted returns at most 64 digits, moved up by less than 32 bits.
func shifted(digits []uint32, by int) row {
	var result row
	var carry uint32
	for k, digit := range digits {
		result[k] = digit<<by | carry
		carry = digit >> (32 - by)
	}
	result[len(digits)] = carry
	return result
}

// divide returns the quotient and the rest of x and y, which have at most 64 digits; the highest one of y is not 0.
func divide(x, y []uint32) (row, row) {
	// Moved up until its highest bit is set, y lets takeOut guess well; the rest is moved back at the end.
	by := bits.LeadingZeros32(y[len(y)-1])
	rest, divisor := shifted(x, by), shifted(y, by)
	var quotient row
	places := max(0, len(x)-len(y)+1)
	for k := range down(quotient[:places]) {
		quotient[k] = takeOut(rest[k:k+len(y)+1], divisor[:len(y)])
	}
	var carry uint32
	for k, digit := range down(rest[:len(x)+1]) {
		rest[k] = digit>>by | carry
		carry = digit << (32 - by)
	}
	return quotient, rest
}

// takeOut takes y from x as often as it can, and returns how often. The highest bit of y is set; x has one digit more, and is less than 2^32 y.
func takeOut(x, y []uint32) uint32 {
	top := len(y)
	guess := min(word(x[top-1:])/uint64(y[top-1]), 1<<32-1)
	var carry uint64
	var borrow uint32
	for k, digit := range y {
		carry += guess * uint64(digit)
		x[k], borrow = bits.Sub32(x[k], uint32(carry), borrow)
		carry >>= 32
	}
	x[top], borrow = bits.Sub32(x[top], uint32(carry), borrow)
	// The guess is right, or up to 2 too great (Knuth, The Art of Computer Programming, 4.3.1).
	for borrow != 0 {
		guess--
		var over uint32
		for k, digit := range y {
			x[k], over = bits.Add32(x[k], digit, over)
		}
		x[top], over = bits.Add32(x[top], 0, over)
		borrow -= over
	}
	return uint32(guess)
}

// cut divides the number with these digits by n, and returns the rest.
func cut(digits []uint32, n uint32) uint32 {
	var rest uint32
	for k, digit := range down(digits) {
		digits[k], rest = bits.Div32(rest, digit, n)
	}
	return rest
}

// commonDivisor returns the greatest number that divides both x and y, which have no zeros at their ends.
func commonDivisor(x, y []uint32) row {
	var a, b row
	m, n := copy(a[:], x), copy(b[:], y)
	for n > 0 {
		if m <= 2 && n <= 2 {
			return split(commonWord(word(a[:m]), word(b[:n]))) // most steps end up here, and are quick there
		}
		_, rest := divide(a[:m], b[:n])
		a, b = b, rest
		m, n = n, length(rest[:n])
	}
	return a
}

// commonWord returns the greatest number that divides both a and b.
func commonWord(a, b uint64) uint64 {
	for b != 0 {
		a, b = b, a%b
	}
	return a
}
