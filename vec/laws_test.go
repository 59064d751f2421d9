package vec_test

import (
	"math"
	"slices"
	"sync"
	"testing"

	"etchant/api"
	"etchant/vec"
)

// P5.6

func TestComposedMotionsAreAppliedInTurn(t *testing.T) {
	list := motions(fewTurns())
	for _, m := range list {
		for _, n := range list {
			for _, p := range probes() {
				mustBe(t, vec.Apply(vec.Compose(m, n), p), vec.Apply(m, vec.Apply(n, p)), "Apply of both", m, n, p)
			}
		}
	}
}

func TestInverseUndoes(t *testing.T) {
	for _, m := range motions(manyTurns()) {
		back := vec.Inverse(m)
		for _, p := range probes() {
			mustBe(t, vec.Apply(back, vec.Apply(m, p)), p, "back from", m, p)
			mustBe(t, vec.Apply(m, vec.Apply(back, p)), p, "there from", m, p)
		}
		mustBe(t, vec.Compose(back, m), api.Motion{}, "Inverse after", m)
		mustBe(t, vec.Compose(m, back), api.Motion{}, "Inverse before", m)
	}
}

func TestComposingIsAssociative(t *testing.T) {
	list := motions([]int{0, 1, 2, 3, -5, math.MinInt + 1})
	for _, a := range list {
		for _, b := range list {
			for _, c := range list {
				mustBe(t, vec.Compose(vec.Compose(a, b), c), vec.Compose(a, vec.Compose(b, c)), "Compose of", a, b, c)
			}
		}
	}
}

func TestZeroMotion(t *testing.T) {
	for _, m := range motions(manyTurns()) {
		want := m
		want.Turn = remainder(m.Turn)
		for _, zero := range []api.Motion{{}, {Turn: 4}, {Turn: -8}, {Turn: math.MinInt}} {
			mustBe(t, vec.Compose(m, zero), want, "Compose of", m, zero)
			mustBe(t, vec.Compose(zero, m), want, "Compose of", zero, m)
		}
		mustBe(t, vec.Inverse(vec.Inverse(m)), want, "Inverse of the Inverse of", m)
	}
}

// P5.7

func TestMotionsKeepProducts(t *testing.T) {
	points := grid([]int{-7, 0, 3, 1 << 40, math.MinInt})
	for _, m := range motions([]int{0, 1, 2, 3, -1, math.MinInt, math.MaxInt}) {
		origin, sign := points[0], 1
		if m.Mirror {
			sign = -1
		}
		for _, p := range points {
			a, movedA := vec.Sub(p, origin), vec.Sub(vec.Apply(m, p), vec.Apply(m, origin))
			for _, q := range points {
				b, movedB := vec.Sub(q, origin), vec.Sub(vec.Apply(m, q), vec.Apply(m, origin))
				mustBe(t, vec.Dot(movedA, movedB), vec.Dot(a, b), "Dot after", m, a, b)
				mustBe(t, vec.Cross(movedA, movedB), sign*vec.Cross(a, b), "Cross after", m, a, b)
			}
		}
	}
}

func TestMotionsKeepSides(t *testing.T) {
	points := grid([]int{-api.MaxCoord, -1, 0, 2, api.MaxCoord})
	for turn := range 4 {
		for _, m := range []api.Motion{motion(10, -20, turn, false), motion(10, -20, turn, true)} {
			sign := 1
			if m.Mirror {
				sign = -1
			}
			for _, a := range points {
				for _, b := range points {
					for _, p := range points {
						mustBe(t, vec.Side(vec.Apply(m, a), vec.Apply(m, b), vec.Apply(m, p)), sign*vec.Side(a, b, p), "Side after", m, a, b, p)
					}
				}
			}
		}
	}
}

// P5.8

// inQuarter reports whether d is zero, or lies in the quarter that begins with from, or on its sides: neither more than a quarter from its beginning nor from its end, which is the case exactly if both products are not negative.
func inQuarter(d, from, to api.Point) bool {
	return sum([]int{d.X, from.X}, []int{d.Y, from.Y}) >= 0 && sum([]int{d.X, to.X}, []int{d.Y, to.Y}) >= 0
}

func TestWithinQuarters(t *testing.T) {
	list := append(grid(upTo(4)), grid([]int{-api.MaxCoord, 1 - api.MaxCoord, -3, 1, api.MaxCoord - 1, api.MaxCoord})...)
	for _, from := range list {
		if from == at(0, 0) {
			continue
		}
		to := at(-from.Y, from.X)
		for _, d := range list {
			mustBe(t, vec.Within(d, from, to), inQuarter(d, from, to), "Within of", d, from, to)
		}
	}
}

// Each vector lies in one of four quarters, on a side in two, and zero in all; what is combined of the sides of a quarter lies in it.
func TestQuartersShareAllVectors(t *testing.T) {
	for _, from := range grid(upTo(3)) {
		if from == at(0, 0) {
			continue
		}
		for _, d := range grid(upTo(7)) {
			count, side := 0, from
			for range 4 {
				next := at(-side.Y, side.X)
				if vec.Within(d, side, next) {
					count++
				}
				side = next
			}
			want := 1
			if d == at(0, 0) {
				want = 4
			} else if sum([]int{from.X, d.X}, []int{from.Y, d.Y}) == 0 || sum([]int{from.X, d.Y}, []int{-1, from.Y, d.X}) == 0 {
				want = 2
			}
			mustBe(t, count, want, "quarters of", d, "that begin at", from)
		}
		for along := range 5 {
			for beside := range 5 {
				d := at(along*from.X-beside*from.Y, along*from.Y+beside*from.X)
				mustBe(t, vec.Within(d, from, at(-from.Y, from.X)), true, "Within of", d, "from", from)
			}
		}
	}
}

// P1, and the rules R3, R4 and R5 (there are no errors and no lists, for R1 and R2)

// everything calls all functions, and returns their results one after the other.
func everything(n []int) []int {
	a, b, c := at(n[0], n[1]), at(n[2], n[3]), at(n[4], n[5])
	m, k := motion(n[0], n[3], n[4], n[1]&1 > 0), motion(n[5], n[2], n[1], n[0]&1 > 0)
	var list []int
	for _, p := range []api.Point{vec.Add(a, b), vec.Sub(a, b), vec.Apply(m, c), vec.Compose(m, k).At, vec.Inverse(m).At} {
		list = append(list, p.X, p.Y)
	}
	for _, yes := range []bool{vec.Right(a), vec.Within(a, b, c), vec.Compose(m, k).Mirror, vec.Inverse(m).Mirror} {
		if yes {
			list = append(list, 1)
		} else {
			list = append(list, 0)
		}
	}
	return append(list, vec.Cross(a, b), vec.Dot(a, b), vec.Side(a, b, c), vec.Compose(m, k).Turn, vec.Inverse(m).Turn)
}

// The same calls return the same results, whatever was called in between, and calls at one time do not disturb each other.
func TestCallsRepeat(t *testing.T) {
	var first [][]int
	for seed := range uint64(2000) {
		first = append(first, everything(someInts(6, seed)))
	}
	var all sync.WaitGroup
	for range 8 {
		all.Go(func() {
			for seed, want := range slices.Backward(first) {
				if !slices.Equal(everything(someInts(6, uint64(seed))), want) {
					t.Errorf("calls of seed %d", seed)
				}
			}
		})
	}
	all.Wait()
}
