package vec_test

import (
	"math"
	"testing"

	"etchant/api"
	"etchant/vec"
)

// P5.4

func TestApply(t *testing.T) {
	for _, c := range []struct {
		m       api.Motion
		p, want api.Point
	}{
		{motion(10, 20, 1, false), at(3, 4), at(6, 23)},
		{motion(0, 0, 0, true), at(3, 4), at(-3, 4)},
		{motion(10, 20, 1, true), at(3, 4), at(6, 17)},
		{motion(0, 0, 0, false), at(3, 4), at(3, 4)},
		{motion(10, 20, 0, false), at(3, 4), at(13, 24)},
		{motion(0, 0, 1, false), at(3, 4), at(-4, 3)},
		{motion(0, 0, 2, false), at(3, 4), at(-3, -4)},
		{motion(0, 0, 3, false), at(3, 4), at(4, -3)},
		{motion(0, 0, 4, false), at(3, 4), at(3, 4)},
		{motion(0, 0, 1, true), at(3, 4), at(-4, -3)},
		{motion(0, 0, 2, true), at(3, 4), at(3, -4)},
		{motion(0, 0, 3, true), at(3, 4), at(4, 3)},
		{motion(0, 0, -1, false), at(3, 4), at(4, -3)},
		{motion(0, 0, -2, true), at(3, 4), at(3, -4)},
		{motion(0, 0, -3, false), at(3, 4), at(-4, 3)},
		{motion(0, 0, -4, true), at(3, 4), at(-3, 4)},
		{motion(0, 0, math.MinInt, false), at(3, 4), at(3, 4)},
		{motion(0, 0, math.MinInt+1, false), at(3, 4), at(-4, 3)},
		{motion(0, 0, math.MaxInt, false), at(3, 4), at(4, -3)},
		{motion(0, 0, math.MaxInt-1, true), at(3, 4), at(3, -4)},
		{motion(math.MaxInt, math.MinInt, 0, false), at(1, -1), at(math.MinInt, math.MaxInt)},
		{motion(0, 0, 0, true), at(math.MinInt, 1), at(math.MinInt, 1)},
		{motion(0, -1, 1, false), at(math.MinInt, math.MinInt), at(math.MinInt, math.MaxInt)},
		{motion(1, 1, 2, false), at(math.MinInt, math.MaxInt), at(math.MinInt+1, math.MinInt+2)},
	} {
		mustBe(t, vec.Apply(c.m, c.p), c.want, "Apply of", c.m, c.p)
	}
}

func TestApplyToAny(t *testing.T) {
	for _, m := range motions(manyTurns()) {
		for _, p := range grid(fewExtremes()) {
			mustBe(t, vec.Apply(m, p), moved(m, p), "Apply of", m, p)
		}
	}
	for seed := range uint64(20000) {
		n := someInts(6, seed)
		m, p := motion(n[0], n[1], n[2], n[3]&1 > 0), at(n[4], n[5])
		mustBe(t, vec.Apply(m, p), moved(m, p), "Apply of", m, p)
	}
}

// P5.5

func TestCompose(t *testing.T) {
	for _, c := range []struct{ m, n, want api.Motion }{
		{motion(10, 20, 1, false), motion(1, 2, 3, true), motion(8, 21, 0, true)},
		{motion(1, 2, 3, true), motion(10, 20, 1, false), motion(21, 12, 2, true)},
		{motion(10, 20, 1, true), motion(10, 20, 1, false), motion(-10, 10, 0, true)},
		{motion(10, 20, 1, true), motion(10, 20, 1, true), motion(-10, 10, 0, false)},
		{motion(0, 0, 0, true), motion(5, 6, 1, false), motion(-5, 6, 3, true)},
		{motion(5, 6, 1, false), motion(0, 0, 0, true), motion(5, 6, 1, true)},
		{motion(0, 0, 3, false), motion(0, 0, 3, false), motion(0, 0, 2, false)},
		{motion(0, 0, math.MaxInt, false), motion(0, 0, math.MaxInt, false), motion(0, 0, 2, false)},
		{motion(0, 0, math.MinInt, true), motion(0, 0, math.MinInt, true), motion(0, 0, 0, false)},
		{motion(0, 0, -1, true), motion(0, 0, math.MinInt, false), motion(0, 0, 3, true)},
		{motion(0, 0, math.MinInt, false), motion(0, 0, -1, false), motion(0, 0, 3, false)},
		{motion(0, 0, math.MaxInt, true), motion(0, 0, math.MinInt+1, true), motion(0, 0, 2, false)},
		{motion(math.MaxInt, 0, 0, false), motion(1, math.MinInt, 0, false), motion(math.MinInt, math.MinInt, 0, false)},
	} {
		mustBe(t, vec.Compose(c.m, c.n), c.want, "Compose of", c.m, c.n)
	}
}

// likeBoth returns the motion with Turn from 0 to 3 that does, by its matrix, what n does, and then m.
func likeBoth(t *testing.T, m, n api.Motion) api.Motion {
	t.Helper()
	both := matrixOf(m).times(matrixOf(n))
	place := moved(m, n.At)
	for turn := range 4 {
		for _, mirror := range []bool{false, true} {
			if k := motion(place.X, place.Y, turn, mirror); matrixOf(k) == both {
				return k
			}
		}
	}
	t.Fatal("no motion does what both do", m, n)
	return api.Motion{}
}

func TestComposeAny(t *testing.T) {
	list := motions(fewTurns())
	for _, m := range list {
		for _, n := range list {
			mustBe(t, vec.Compose(m, n), likeBoth(t, m, n), "Compose of", m, n)
		}
	}
	for seed := range uint64(20000) {
		k := someInts(8, seed)
		m, n := motion(k[0], k[1], k[2], k[3]&1 > 0), motion(k[4], k[5], k[6], k[7]&1 > 0)
		mustBe(t, vec.Compose(m, n), likeBoth(t, m, n), "Compose of", m, n)
	}
}

func TestInverse(t *testing.T) {
	for _, c := range []struct{ m, want api.Motion }{
		{motion(10, 20, 1, false), motion(-20, 10, 3, false)},
		{motion(10, 20, 1, true), motion(20, 10, 1, true)},
		{motion(0, 0, 0, false), motion(0, 0, 0, false)},
		{motion(10, 20, 0, false), motion(-10, -20, 0, false)},
		{motion(10, 20, 2, false), motion(10, 20, 2, false)},
		{motion(10, 20, 3, false), motion(20, -10, 1, false)},
		{motion(10, 20, 0, true), motion(10, -20, 0, true)},
		{motion(10, 20, 2, true), motion(-10, 20, 2, true)},
		{motion(10, 20, 3, true), motion(-20, -10, 3, true)},
		{motion(0, 0, 5, false), motion(0, 0, 3, false)},
		{motion(0, 0, 4, false), motion(0, 0, 0, false)},
		{motion(0, 0, -1, false), motion(0, 0, 1, false)},
		{motion(0, 0, -1, true), motion(0, 0, 3, true)},
		{motion(0, 0, math.MinInt, false), motion(0, 0, 0, false)},
		{motion(0, 0, math.MinInt, true), motion(0, 0, 0, true)},
		{motion(0, 0, math.MinInt+1, false), motion(0, 0, 3, false)},
		{motion(0, 0, math.MaxInt, false), motion(0, 0, 1, false)},
		{motion(0, 0, math.MaxInt, true), motion(0, 0, 3, true)},
		{motion(math.MinInt, math.MinInt, 0, false), motion(math.MinInt, math.MinInt, 0, false)},
		{motion(math.MinInt, math.MaxInt, 1, false), motion(math.MinInt+1, math.MinInt, 3, false)},
	} {
		mustBe(t, vec.Inverse(c.m), c.want, "Inverse of", c.m)
	}
}

func TestInverseOfAny(t *testing.T) {
	for _, m := range motions(manyTurns()) {
		back := vec.Inverse(m)
		mustBe(t, back.Turn, remainder(back.Turn), "Turn of Inverse of", m)
		mustBe(t, likeBoth(t, back, m), api.Motion{}, "Inverse of", m, "after it")
		mustBe(t, likeBoth(t, m, back), api.Motion{}, "Inverse of", m, "before it")
	}
}
