package root

import (
	"slices"
	"testing"

	"etchant/api"
	"etchant/num"
)

// panics reports whether work panics.
func panics(work func()) (yes bool) {
	defer func() { yes = recover() != nil }()
	work()
	return false
}

func TestProduct(t *testing.T) {
	if num.Text(product()) != "1" || num.Text(product(num.Of(-7))) != "-7" || num.Text(product(num.Of(2), num.Of(-3), num.Of(5), num.Of(7))) != "-210" {
		t.Error("small factors")
	}
	half := api.Num{D: slices.Repeat([]uint32{1<<32 - 1}, 32)}
	if panics(func() { product(half, half) }) || !panics(func() { product(half, half, num.Of(2)) }) {
		t.Error("factors of 64 digits together, and of more")
	}
}

func TestSettle(t *testing.T) {
	half := api.Num{D: slices.Repeat([]uint32{1}, 33)}
	if settle(func() int { return -1 }) != -1 || settle(func() int { return num.Cmp(product(half, half), half) }) != 0 {
		t.Error("settle")
	}
}
