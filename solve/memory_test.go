package solve_test

import (
	"math/rand"
	"slices"
	"testing"

	"rivulet/api"
	"rivulet/conf"
	"rivulet/fwd"
	"rivulet/solve"
	"rivulet/topo"
	"rivulet/want"
)

// spoil writes into a list, its spare room too, and behind it.
func spoil[T any](list []T, with T) {
	full := list[:cap(list)]
	for i := range full {
		full[i] = with
	}
	_ = append(list, with, with)
}

// busy is a network whose state has rows of all sorts, and something lost.
const busy = pair + `root 224.0.0.0/4 10.1.0.1
source up 10.1.0.9 225.0.0.1
source up 10.1.0.8 225.0.0.1
source left 10.3.0.9 225.0.0.2
member left 225.0.0.1 only 10.1.0.9 10.1.0.8
member right 225.0.0.1 only 10.1.0.9
member right 225.0.0.2 but
member down 225.0.0.1 but
`

// stays fails where a state is not the same as another one.
func stays(t *testing.T, s, was solve.State, when string) {
	t.Helper()
	if !alike(s.Rows, was.Rows) || !slices.Equal(s.Seats, was.Seats) || !slices.Equal(s.Lost, was.Lost) {
		t.Errorf("%s: %v became %v", when, was, s)
	}
}

// P0.4: what is written into one list of a state no other one shows, of the same state or of another one; nor does the network.
func TestOfNotShared(t *testing.T) {
	x := network(t, busy)
	was := copied(solve.Of(x))
	if len(was.Rows) < 6 || len(was.Lost) < 2 {
		t.Fatalf("too little in %v", was)
	}
	for i := range was.Rows {
		s, o := solve.Of(x), solve.Of(x)
		spoil(s.Rows[i].Out, 77)
		s.Rows[i].Out = slices.Clone(was.Rows[i].Out)
		stays(t, s, was, "an Out written into")
		stays(t, o, was, "another state's Out written into")
	}
	for i, write := range []func(s *solve.State){
		func(s *solve.State) { spoil(s.Rows, row(7, 7, 7, 7, 7, 7)); s.Rows = cloned(was.Rows) },
		func(s *solve.State) { spoil(s.Seats, 77); s.Seats = slices.Clone(was.Seats) },
		func(s *solve.State) { spoil(s.Lost, lost(7, 7, 7)); s.Lost = slices.Clone(was.Lost) },
	} {
		s, o := solve.Of(x), solve.Of(x)
		write(&s)
		stays(t, s, was, "list "+string(rune('0'+i)))
		stays(t, o, was, "another state's list")
	}
	stays(t, solve.Of(x), was, "later")
}

// P0.4: an Out that is empty has no part in another one's memory either, nor have empty lists.
func TestEmptyNotShared(t *testing.T) {
	for _, s := range []string{"", "link l 10.0.0.0/8\n", row4, row4 + "member west 225.0.0.1 only 10.1.0.9\nmember west 225.0.0.2 only 10.1.0.9\nmember east 225.0.0.1 only 10.4.0.9\n"} {
		x := network(t, s)
		one, other := solve.Of(x), solve.Of(x)
		was := copied(other)
		for i := range one.Rows {
			spoil(one.Rows[i].Out, 77)
		}
		for i, r := range one.Rows {
			if len(r.Out) != len(was.Rows[i].Out) || slices.Contains(other.Rows[i].Out, 77) {
				t.Errorf("%v, %v", one, other)
			}
		}
		spoil(one.Rows, row(7, 7, 7, 7, 7, 7))
		spoil(one.Seats, 77)
		spoil(one.Lost, lost(7, 7, 7))
		spoil(solve.Wants(x), heard(7, 7, 7))
		stays(t, other, was, "written into")
		stays(t, solve.Of(x), was, "written into, and asked again")
	}
}

// P0.4: what is written into wants, or into what is lost, no other answer shows.
func TestWantsAndLostNotShared(t *testing.T) {
	x := network(t, busy)
	l := solve.Of(x).Rows
	wanted, gone := slices.Clone(solve.Wants(x)), slices.Clone(solve.Lost(x, l))
	one, other := solve.Wants(x), solve.Wants(x)
	spoil(one, heard(7, 7, 7))
	first, second := solve.Lost(x, l), solve.Lost(x, l)
	spoil(first, lost(7, 7, 7))
	if !slices.Equal(other, wanted) || !slices.Equal(second, gone) {
		t.Errorf("%v, %v became %v, %v", wanted, gone, other, second)
	}
	wants(t, x, wanted...)
	loses(t, x, l, gone...)
}

// P0.4: rows handed in are neither changed nor kept; those behind the list's length, and ports behind an Out's, are neither read nor written.
func TestRowsNotKept(t *testing.T) {
	x := network(t, shore)
	room := rows(by(d, 0, g1), by(a, src, g1), by(b, src, g1), by(c, 0, g1), by(c, src, g2), by(b, src, g2))
	was := cloned(room)
	m := model{x, x.Config()}
	for n := range len(room) + 1 {
		loses(t, x, room[:n], m.lost(was[:n])...)
		if !alike(room, was) {
			t.Fatalf("%v became %v", was, room)
		}
	}
	outs := []int{aOwn, aShore, bShore, 77}
	for n := range len(outs) + 1 {
		one := by(a, src, g1)
		one.Out = outs[:n]
		var wanted []fwd.Lost
		if n > 1 {
			wanted = append(wanted, lost(aShore, src, g1))
		}
		loses(t, x, rows(one, by(b, src, g1)), wanted...)
		if !slices.Equal(outs, []int{aOwn, aShore, bShore, 77}) {
			t.Fatalf("the ports became %v", outs)
		}
	}
	got := solve.Lost(x, room)
	for i := range room {
		spoil(room[i].Out, 77)
	}
	spoil(room, row(7, 7, 7, 7, 7, 7))
	if wanted := m.lost(was); !slices.Equal(got, wanted) {
		t.Errorf("%v became %v", wanted, got)
	}
	loses(t, x, was, got...)
}

// P0.4: rows that have one memory for all their ports are as such that don't.
func TestRowsOfOneMemory(t *testing.T) {
	x := network(t, shore)
	out := []int{aShore, bShore, cShore, dShore}
	l := rows(row(a, 0, 0, src, g1), row(b, 0, 0, src, g1), row(c, 0, 0, 0, g1), row(d, 0, 0, 0, g1))
	for i := range l {
		l[i].Out = out
	}
	loses(t, x, l, lost(aShore, src, g1), lost(cShore, src, g1), lost(dShore, src, g1), lost(dShore, other, g1), lost(dShore, far, g1))
}

// P0.4, P0.5: the network is not changed by what is asked of it, nor by what is written into answers, so all is told again.
func TestNetworkUntouched(t *testing.T) {
	r := rand.New(rand.NewSource(208))
	for i := range 80 {
		n := drawn(r)
		if i%2 == 0 {
			n = joined(r, false)
		}
		x := made(t, n)
		s := solve.Of(x)
		was, wanted := copied(s), slices.Clone(solve.Wants(x))
		ruin(x, s, 77)
		if !conf.Same(x.Config(), n) {
			t.Errorf("the network became\n%s", conf.Text(x.Config()))
		}
		stays(t, solve.Of(x), was, "asked again")
		stays(t, solve.Of(made(t, n)), was, "made anew")
		wants(t, x, wanted...)
		loses(t, x, was.Rows, was.Lost...)
	}
}

// ruin writes into all that is handed out of a network.
func ruin(x *topo.Topo, s solve.State, with int) {
	for _, r := range s.Rows {
		spoil(r.Out, with)
	}
	spoil(s.Rows, want.Row{Router: with, Out: []int{with}})
	spoil(s.Seats, with)
	spoil(s.Lost, fwd.Lost{Port: with})
	spoil(solve.Wants(x), want.Heard{Port: with})
	spoil(solve.Lost(x, s.Rows), fwd.Lost{Port: with})
	spoil(x.Groups(), api.Addr(with))
}
