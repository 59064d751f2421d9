package vec

import "etchant/api"

// allTurns is how many quarter turns change nothing.
const allTurns = 4

// Apply returns where m takes p.
func Apply(m api.Motion, p api.Point) api.Point {
	if m.Mirror {
		p.X = -p.X
	}
	for range turns(m.Turn) {
		p = api.Point{X: -p.Y, Y: p.X}
	}
	return Add(p, m.At)
}

// Compose returns the motion that does what n does, and then what m does.
func Compose(m, n api.Motion) api.Motion {
	turn := n.Turn
	if m.Mirror { // Seen in a mirror, turns to the left are turns to the right.
		turn = -turn
	}
	// A sum that wraps around keeps its remainder by 4, which divides the number of ints.
	return api.Motion{At: Apply(m, n.At), Turn: turns(m.Turn + turn), Mirror: m.Mirror != n.Mirror}
}

// Inverse returns the motion that takes back what m does.
func Inverse(m api.Motion) api.Motion {
	back := api.Motion{Turn: turns(m.Turn), Mirror: m.Mirror}
	// At apart, what changes nothing when it is done twice takes itself back: all that mirror, and half turns. Only the others have turns to make up.
	if Compose(back, back) != (api.Motion{}) {
		back.Turn = allTurns - back.Turn
	}
	back.At = Apply(back, Sub(api.Point{}, m.At))
	return back
}

// turns returns the remainder of turn from 0 to 3, which for negative ints is not that of Go.
func turns(turn int) int { return (turn%allTurns + allTurns) % allTurns }
