package solve_test

import (
	"math/rand"
	"slices"
	"testing"

	"rivulet/api"
	"rivulet/fwd"
	"rivulet/solve"
	"rivulet/want"
)

// copied is a state in memory of its own.
func copied(s solve.State) solve.State {
	return solve.State{Rows: cloned(s.Rows), Seats: slices.Clone(s.Seats), Lost: slices.Clone(s.Lost)}
}

// some is a state with several of each.
func some() solve.State {
	return solve.State{
		Rows:  rows(row(0, 1, 2, 3, g1, 4, 5), row(0, 1, 2, 3, g1, 4, 5), row(6, -1, -1, 0, g2), row(6, 0, -1, 0, g3, 0)),
		Seats: []int{3, -1, 0, 3},
		Lost:  []fwd.Lost{lost(1, 2, g1), lost(1, 3, g1), lost(2, 2, g1)},
	}
}

// same fails where two states are the same, or not, otherwise than wanted, whichever is told first, or where one is changed.
func same(t *testing.T, s, o solve.State, wanted bool) {
	t.Helper()
	was, other := copied(s), copied(o)
	if got := solve.Same(s, o); got != wanted {
		t.Errorf("Same(%v, %v) = %v", s, o, got)
	}
	if got := solve.Same(o, s); got != wanted {
		t.Errorf("Same(%v, %v) = %v", o, s, got)
	}
	for _, l := range [][2]solve.State{{s, was}, {o, other}} {
		if !alike(l[0].Rows, l[1].Rows) || !slices.Equal(l[0].Seats, l[1].Seats) || !slices.Equal(l[0].Lost, l[1].Lost) {
			t.Errorf("%v became %v", l[1], l[0])
		}
	}
}

// P20.3: a state is the same as itself, and as one that has the same in other memory.
func TestSame(t *testing.T) {
	for _, s := range []solve.State{{}, some(), {Rows: some().Rows}, {Seats: some().Seats}, {Lost: some().Lost}} {
		same(t, s, s, true)
		same(t, s, copied(s), true)
	}
	same(t, some(), solve.State{}, false)
}

// P20.3, P0.4: nil and the empty list are the same, of each list, and of a row's Out.
func TestSameEmpty(t *testing.T) {
	empty := solve.State{Rows: rows(), Seats: []int{}, Lost: []fwd.Lost{}}
	for _, s := range []solve.State{{}, {Rows: rows()}, {Seats: []int{}}, {Lost: []fwd.Lost{}}, empty} {
		same(t, s, solve.State{}, true)
		same(t, s, empty, true)
		same(t, s, some(), false)
	}
	if !solve.Same(solve.State{Rows: []want.Row{{Out: []int{}}}}, solve.State{Rows: []want.Row{{}}}) {
		t.Error("an Out that is empty and one that is nil")
	}
}

// changes are all ways in which a state may be another one by one thing.
func changes() map[string]func(s *solve.State) {
	return map[string]func(s *solve.State){
		"a row less ahead":    func(s *solve.State) { s.Rows = s.Rows[1:] },
		"a row less behind":   func(s *solve.State) { s.Rows = s.Rows[:3] },
		"a row more":          func(s *solve.State) { s.Rows = append(s.Rows, s.Rows[3]) },
		"no rows":             func(s *solve.State) { s.Rows = nil },
		"rows turned":         func(s *solve.State) { slices.Reverse(s.Rows) },
		"two rows changed":    func(s *solve.State) { s.Rows[2], s.Rows[3] = s.Rows[3], s.Rows[2] },
		"a row's router":      func(s *solve.State) { s.Rows[0].Router++ },
		"a row's In":          func(s *solve.State) { s.Rows[1].In-- },
		"a row's Up":          func(s *solve.State) { s.Rows[2].Up++ },
		"a row's source":      func(s *solve.State) { s.Rows[3].Key.Source++ },
		"a row's group":       func(s *solve.State) { s.Rows[3].Key.Group++ },
		"a row's Out":         func(s *solve.State) { s.Rows[0].Out[1]++ },
		"a row's Out turned":  func(s *solve.State) { slices.Reverse(s.Rows[0].Out) },
		"a port less":         func(s *solve.State) { s.Rows[3].Out = nil },
		"a port more":         func(s *solve.State) { s.Rows[3].Out = append(s.Rows[3].Out, 0) },
		"a seat less ahead":   func(s *solve.State) { s.Seats = s.Seats[1:] },
		"a seat less behind":  func(s *solve.State) { s.Seats = s.Seats[:3] },
		"a seat more":         func(s *solve.State) { s.Seats = append(s.Seats, 0) },
		"no seats":            func(s *solve.State) { s.Seats = nil },
		"another seat":        func(s *solve.State) { s.Seats[1] = 0 },
		"the last seat":       func(s *solve.State) { s.Seats[3] = -1 },
		"two seats changed":   func(s *solve.State) { s.Seats[1], s.Seats[2] = s.Seats[2], s.Seats[1] },
		"one less lost":       func(s *solve.State) { s.Lost = s.Lost[1:] },
		"one less lost later": func(s *solve.State) { s.Lost = s.Lost[:2] },
		"one more lost":       func(s *solve.State) { s.Lost = append(s.Lost, s.Lost[2]) },
		"none lost":           func(s *solve.State) { s.Lost = nil },
		"lost at another":     func(s *solve.State) { s.Lost[2].Port++ },
		"another source lost": func(s *solve.State) { s.Lost[0].Key.Source++ },
		"another group lost":  func(s *solve.State) { s.Lost[1].Key.Group++ },
		"two lost changed":    func(s *solve.State) { s.Lost[0], s.Lost[1] = s.Lost[1], s.Lost[0] },
	}
}

// P20.3: states that differ in one thing of one list, its order or its number, are not the same.
func TestNotSame(t *testing.T) {
	for what, change := range changes() {
		s := some()
		change(&s)
		if solve.Same(s, some()) || solve.Same(some(), s) {
			t.Errorf("the same, though %s: %v", what, s)
		}
		same(t, s, copied(s), true)
	}
}

// P20.3: what networks of chance come to is the same just where all of it is.
func TestSameDrawn(t *testing.T) {
	r := rand.New(rand.NewSource(207))
	var l []solve.State
	for range 60 {
		l = append(l, solve.Of(made(t, joined(r, false))), solve.Of(made(t, drawn(r))))
	}
	l = append(l, solve.Of(made(t, api.Config{})))
	for _, s := range l {
		for _, o := range l {
			same(t, s, o, alike(s.Rows, o.Rows) && slices.Equal(s.Seats, o.Seats) && slices.Equal(s.Lost, o.Lost))
		}
	}
}
