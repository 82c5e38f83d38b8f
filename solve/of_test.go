package solve_test

import (
	"math/rand"
	"slices"
	"testing"

	"rivulet/api"
	"rivulet/conf"
	"rivulet/fwd"
	"rivulet/rpf"
	"rivulet/solve"
	"rivulet/topo"
	"rivulet/want"
)

// comes fails where a network comes to another state.
func comes(t *testing.T, x *topo.Topo, l []want.Row, seats []int, ls []fwd.Lost) {
	t.Helper()
	got := solve.Of(x)
	if !alike(got.Rows, l) {
		t.Errorf("rows\n%v, not\n%v, of\n%s", got.Rows, l, conf.Text(x.Config()))
	}
	if !slices.Equal(got.Seats, seats) {
		t.Errorf("seats %v, not %v, of\n%s", got.Seats, seats, conf.Text(x.Config()))
	}
	if !slices.Equal(got.Lost, ls) {
		t.Errorf("lost %v, not %v, of\n%s", got.Lost, ls, conf.Text(x.Config()))
	}
}

// The seats of the networks of the tests: by address, but in row4 by rank.
var (
	rowSeats  = []int{aWest, bAB, bBC, dCD, dEast}
	pairSeats = []int{bUp, dDown, cLeft, dRight}
	ringSeats = []int{ringBtoA, ringCtoB, ringAtoC, ringOut}
)

// P20.1, 'Examples': without members no row, and nothing lost; the seats of all links are told: of those without routers -1.
func TestOfWithoutMembers(t *testing.T) {
	comes(t, made(t, api.Config{}), nil, nil, nil)
	comes(t, network(t, "router a 1\nrouter b 1\n"), nil, nil, nil)
	comes(t, network(t, "link k 10.0.0.0/8\nlink l 11.0.0.0/8\n"), nil, []int{-1, -1}, nil)
	comes(t, network(t, row4), nil, rowSeats, nil)
	comes(t, network(t, row4+"root 224.0.0.0/4 10.12.0.2\nsource west 10.1.0.9 225.0.0.1\nsource east 10.4.0.9 225.0.0.1\n"), nil, rowSeats, nil)
}

// P20.1: members without routers get no row, nor those on a link without a seat, nor those that listen to nobody.
func TestOfWithoutSeats(t *testing.T) {
	comes(t, network(t, "link l 10.0.0.0/8\nsource l 10.0.0.9 225.0.0.1\nmember l 225.0.0.1 but\n"), nil, []int{-1}, nil)
	rooted := row4 + "link bare 10.5.0.0/16\nroot 224.0.0.0/4 10.12.0.2\nsource west 10.1.0.9 225.0.0.1\n"
	comes(t, network(t, rooted+"member bare 225.0.0.1 but\nmember bare 225.0.0.1 only 10.1.0.9\n"), nil, append(slices.Clone(rowSeats), -1), nil)
	comes(t, network(t, rooted+"member east 225.0.0.1 only\n"), nil, append(slices.Clone(rowSeats), -1), nil)
}

// P20.1: each link has its seat, by rank, then by address, and -1 where it has no port; whether there are members or not.
func TestOfSeats(t *testing.T) {
	s := `router a 7
router b 7
router c 8
link k 10.1.0.0/16
link none 10.2.0.0/16
link l 10.3.0.0/16
link m 10.4.0.0/16
port c m 10.4.0.1
port a k 10.1.0.2
port b k 10.1.0.1
port a m 10.4.0.3
port b l 10.3.0.1
`
	comes(t, network(t, s), nil, []int{1, -1, 4, 0}, nil)
	comes(t, network(t, s+"member none 225.0.0.1 but\n"), nil, []int{1, -1, 4, 0}, nil)
}

// P20.1: a member of any source far from the root: all routers up to the root have a row, from the last one's to the root's, and nobody behind it.
func TestOfFarFromTheRoot(t *testing.T) {
	x := network(t, row4+"root 224.0.0.0/4 10.1.0.1\nmember east 225.0.0.1 but\n")
	comes(t, x, rows(
		row(a, -1, -1, 0, g1, aAB),
		row(b, bAB, aAB, 0, g1, bBC),
		row(c, cBC, bBC, 0, g1, cCD),
		row(d, dCD, cCD, 0, g1, dEast)), rowSeats, nil)
	x = network(t, row4+"root 224.0.0.0/4 10.23.0.2\nmember east 225.0.0.1 but\n")
	comes(t, x, rows(
		row(b, -1, -1, 0, g1, bBC),
		row(c, cBC, bBC, 0, g1, cCD),
		row(d, dCD, cCD, 0, g1, dEast)), rowSeats, nil)
	// At the root's own link.
	x = network(t, row4+"root 224.0.0.0/4 10.4.0.4\nmember east 225.0.0.1 but\n")
	comes(t, x, rows(row(d, -1, -1, 0, g1, dEast)), rowSeats, nil)
}

// P20.1: a member of one source alone, far from it: all routers up to the source have a row of it, whether it sends or not; a root has no part in it.
func TestOfFarFromTheSource(t *testing.T) {
	s := number("10.1.0.9")
	for _, more := range []string{"", "source west 10.1.0.9 225.0.0.1\n", "root 224.0.0.0/4 10.4.0.4\n", "source west 10.1.0.8 225.0.0.1\nroot 224.0.0.0/4 10.12.0.2\n"} {
		x := network(t, row4+more+"member east 225.0.0.1 only 10.1.0.9\n")
		comes(t, x, rows(
			row(a, aWest, -1, s, g1, aAB),
			row(b, bAB, aAB, s, g1, bBC),
			row(c, cBC, bBC, s, g1, cCD),
			row(d, dCD, cCD, s, g1, dEast)), rowSeats, nil)
	}
	// On the source's own link: its packets come in there, and go nowhere.
	x := network(t, row4+"source west 10.1.0.9 225.0.0.1\nmember west 225.0.0.1 only 10.1.0.9\n")
	comes(t, x, rows(row(a, aWest, -1, s, g1)), rowSeats, nil)
	// A router's own address.
	x = network(t, row4+"member west 225.0.0.1 only 10.23.0.2\n")
	comes(t, x, rows(row(a, aAB, bAB, number("10.23.0.2"), g1, aWest), row(b, -1, -1, number("10.23.0.2"), g1, bAB)), rowSeats, nil)
}

// P20.1: what is joined asks further: who wants any source's asks the root, and that one then asks each source, but those of other groups; on both ways there is a row of each.
func TestOfTheRootAsksTheSources(t *testing.T) {
	w, e := number("10.1.0.9"), number("10.4.0.9")
	x := network(t, row4+"root 224.0.0.0/4 10.23.0.2\nsource west 10.1.0.9 225.0.0.1\nsource east 10.4.0.9 225.0.0.1\nsource west 10.1.0.9 225.0.0.2\nmember east 225.0.0.1 but\n")
	comes(t, x, rows(
		row(a, aWest, -1, w, g1, aAB),
		row(b, -1, -1, 0, g1, bBC),
		row(b, bAB, aAB, w, g1, bBC),
		row(b, bBC, cBC, e, g1),
		row(c, cBC, bBC, 0, g1, cCD),
		row(c, cCD, dCD, e, g1, cBC),
		row(d, dCD, cCD, 0, g1, dEast),
		row(d, dEast, -1, e, g1, dCD)), rowSeats, nil)
	// The root at the other end: asked all along the row, and asking back all along it.
	x = network(t, row4+"root 224.0.0.0/4 10.1.0.1\nsource east 10.4.0.9 225.0.0.1\nmember east 225.0.0.1 but\n")
	comes(t, x, rows(
		row(a, -1, -1, 0, g1, aAB),
		row(a, aAB, bAB, e, g1),
		row(b, bAB, aAB, 0, g1, bBC),
		row(b, bBC, cBC, e, g1, bAB),
		row(c, cBC, bBC, 0, g1, cCD),
		row(c, cCD, dCD, e, g1, cBC),
		row(d, dCD, cCD, 0, g1, dEast),
		row(d, dEast, -1, e, g1, dCD)), rowSeats, nil)
}

// P20.1: members of any source beside such of one alone: the row of that one goes where both were heard, that of any where it was heard itself.
func TestOfAnyAndOne(t *testing.T) {
	w := number("10.1.0.9")
	x := network(t, row4+"root 224.0.0.0/4 10.34.0.3\nsource west 10.1.0.9 225.0.0.1\nmember east 225.0.0.1 but\nmember ab 225.0.0.1 only 10.1.0.9\nmember west 225.0.0.1 but 10.1.0.9\n")
	comes(t, x, rows(
		row(a, aAB, bAB, 0, g1, aWest),
		row(a, aWest, -1, w, g1, aAB),
		row(b, bBC, cBC, 0, g1, bAB),
		row(b, bAB, aAB, w, g1, bBC),
		row(c, -1, -1, 0, g1, cBC, cCD),
		row(c, cBC, bBC, w, g1, cCD),
		row(d, dCD, cCD, 0, g1, dEast)), rowSeats, nil)
}

// P20.1: several groups have no part in one another: each goes to its own root; the rows are in the keys' order.
func TestOfSeveralGroups(t *testing.T) {
	x := network(t, row4+"root 224.0.0.0/4 10.1.0.1\nroot 225.0.0.2/32 10.4.0.4\nmember bc 225.0.0.3 only 10.1.0.9 10.4.0.9\nmember bc 225.0.0.2 but\nmember bc 225.0.0.1 but\n")
	w, e := number("10.1.0.9"), number("10.4.0.9")
	comes(t, x, rows(
		row(a, -1, -1, 0, g1, aAB),
		row(a, aWest, -1, w, g3, aAB),
		row(b, bAB, aAB, 0, g1, bBC),
		row(b, bBC, cBC, 0, g2),
		row(b, bAB, aAB, w, g3, bBC),
		row(b, bBC, cBC, e, g3),
		row(c, cCD, dCD, 0, g2, cBC),
		row(c, cCD, dCD, e, g3, cBC),
		row(d, -1, -1, 0, g2, dCD),
		row(d, dEast, -1, e, g3, dCD)), rowSeats, nil)
}

// P20.1: of a group without a root nobody can be asked for any source's: the row of who wants it is alone; one source's is joined all the same.
func TestOfWithoutARoot(t *testing.T) {
	w := number("10.1.0.9")
	x := network(t, row4+"root 239.0.0.0/8 10.1.0.1\nsource west 10.1.0.9 225.0.0.1\nmember east 225.0.0.1 but\n")
	comes(t, x, rows(row(d, -1, -1, 0, g1, dEast)), rowSeats, nil)
	x = network(t, row4+"source west 10.1.0.9 225.0.0.1\nmember east 225.0.0.1 but\nmember cd 225.0.0.1 only 10.1.0.9\n")
	comes(t, x, rows(
		row(a, aWest, -1, w, g1, aAB),
		row(b, bAB, aAB, w, g1, bBC),
		row(c, cBC, bBC, w, g1, cCD),
		row(d, -1, -1, 0, g1, dEast),
		row(d, dCD, cCD, w, g1, dEast)), rowSeats, nil)
}

// P20.1: a root that is nobody's address is asked for as far as there is a way: the last one's row has an In and no Up, and nobody asks the sources.
func TestOfARootThatIsNobody(t *testing.T) {
	x := network(t, row4+"root 224.0.0.0/4 10.1.0.77\nsource east 10.4.0.9 225.0.0.1\nmember cd 225.0.0.1 but\n")
	comes(t, x, rows(
		row(a, aWest, -1, 0, g1, aAB),
		row(b, bAB, aAB, 0, g1, bBC),
		row(c, cBC, bBC, 0, g1, cCD),
		row(d, dCD, cCD, 0, g1)), rowSeats, nil)
	// No router has a way there.
	x = network(t, row4+"root 224.0.0.0/4 99.0.0.1\nmember cd 225.0.0.1 but\n")
	comes(t, x, rows(row(d, -1, -1, 0, g1, dCD)), rowSeats, nil)
}

// P20.1: on one link: who speaks for it asks the other one on it, who so sends there; of several that join there each is heard at that one port.
func TestOfRoutersOnOneLink(t *testing.T) {
	hub := `router a 1
router b 9
router c 5
router d 1
link l 10.0.0.0/16
link m 10.1.0.0/16
link n 10.2.0.0/16
port a l 10.0.0.1
port b l 10.0.0.2
port c l 10.0.0.3
port c m 10.1.0.3
port d l 10.0.0.4
port d n 10.2.0.4
root 224.0.0.0/4 10.0.0.1
`
	seats := []int{1, 3, 5}
	comes(t, network(t, hub+"member l 225.0.0.1 but\n"), rows(row(a, -1, -1, 0, g1, 0), row(b, 1, 0, 0, g1)), seats, nil)
	s := number("10.0.0.9")
	comes(t, network(t, hub+"source l 10.0.0.9 225.0.0.1\nmember n 225.0.0.1 but\nmember m 225.0.0.1 but\n"), rows(
		row(a, -1, -1, 0, g1, 0), row(a, 0, -1, s, g1),
		row(c, 2, 0, 0, g1, 3), row(d, 4, 0, 0, g1, 5)), seats, nil)
	// Nobody has to be asked for who sends on the link itself.
	comes(t, network(t, hub+"source l 10.0.0.9 225.0.0.1\nmember n 225.0.0.1 only 10.0.0.9\nmember l 225.0.0.1 only 10.0.0.9\n"), rows(
		row(b, 1, -1, s, g1), row(d, 4, -1, s, g1, 5)), seats, nil)
}

// P20.1: several ask one router, at one port and at several: each port is in its Out, once.
func TestOfAskedBySeveral(t *testing.T) {
	s := number("10.1.0.9")
	tree := `router c 1
router d 1
router a 1
link l 10.1.0.0/16
link m 10.2.0.0/16
link n 10.3.0.0/16
link o 10.4.0.0/16
port a n 10.3.0.1
port a l 10.1.0.1
port a m 10.2.0.1
port c m 10.2.0.2
port d m 10.2.0.3
port d n 10.3.0.2
port d o 10.4.0.1
port c o 10.4.0.2
route c 0.0.0.0/0 10.2.0.1 1
route d 0.0.0.0/0 10.3.0.1 1
route d 10.1.0.0/16 10.2.0.1 1
root 224.0.0.0/4 99.0.0.1
root 225.0.0.1/32 10.1.0.1
`
	seats := []int{1, 4, 5, 7}
	x := network(t, tree+"member o 225.0.0.1 only 10.1.0.9\nmember n 225.0.0.1 only 10.1.0.9\nmember m 225.0.0.1 only 10.1.0.9\n")
	comes(t, x, rows(row(0, 3, 2, s, g1, 7), row(1, 4, 2, s, g1, 5), row(2, 1, -1, s, g1, 2)), seats, nil)
	// A group of the other root goes by another link.
	x = network(t, tree+"member o 225.0.0.2 but\nmember n 225.0.0.2 but\nmember m 225.0.0.2 but\n")
	comes(t, x, rows(row(0, 3, 2, 0, g2, 7), row(1, 5, 0, 0, g2, 4), row(2, -1, -1, 0, g2, 0, 2)), seats, nil)
}

// P20.1: where ways go round it ends: each one of the ring asks the next one, and is asked.
func TestOfRound(t *testing.T) {
	s := number("99.0.0.1")
	rounds := func(source api.Addr) []want.Row {
		return rows(row(a, ringAtoB, ringBtoA, source, g1, ringAtoC, ringOut), row(b, ringBtoC, ringCtoB, source, g1, ringBtoA), row(c, ringCtoA, ringAtoC, source, g1, ringCtoB))
	}
	x := network(t, ring+"member out 225.0.0.1 only 99.0.0.1\n")
	if !rpf.Round(x) {
		t.Error("no way goes round")
	}
	comes(t, x, rounds(s), ringSeats, nil)
	comes(t, network(t, ring+"root 224.0.0.0/4 99.0.0.1\nsource ab 10.1.0.9 225.0.0.1\nmember out 225.0.0.1 but\n"), rounds(0), ringSeats, nil)
}

// P20.1: the least joins: nobody in a ring asks because he is asked in turn, if nobody wants it first.
func TestOfRoundWithoutMembers(t *testing.T) {
	comes(t, network(t, ring+"root 224.0.0.0/4 99.0.0.1\nsource out 10.4.0.9 225.0.0.1\n"), nil, ringSeats, nil)
	// What one group's members want goes round for that group alone.
	x := network(t, ring+"root 224.0.0.0/4 99.0.0.1\nroot 225.0.0.2/32 10.4.0.1\nsource out 10.4.0.9 225.0.0.1\nmember out 225.0.0.2 but\nmember bc 225.0.0.3 only\n")
	comes(t, x, rows(row(a, -1, -1, 0, g2, ringOut)), ringSeats, nil)
}

// P20.1: of the state that it tells, Lost is that of its rows.
func TestOfLost(t *testing.T) {
	s := number("10.1.0.9")
	x := network(t, pair+"source up 10.1.0.9 225.0.0.1\nmember left 225.0.0.1 only 10.1.0.9\nmember right 225.0.0.1 only 10.1.0.9\n")
	comes(t, x, rows(
		row(a, aUp, -1, s, g1, aDown), row(b, bUp, -1, s, g1, bDown),
		row(c, cDown, aDown, s, g1, cLeft), row(d, dDown, bDown, s, g1, dRight)), pairSeats, []fwd.Lost{lost(aDown, s, g1)})
}

// holds fails where a network's state is not that of the model, or is not what its own joins ask for.
func holds(t *testing.T, m model) solve.State {
	t.Helper()
	l := m.rows()
	comes(t, m.x, l, m.seats(), m.lost(l))
	got := solve.Of(m.x)
	asked := append(solve.Wants(m.x), want.Sends(m.x, got.Rows...)...)
	var again []want.Row
	for router := range m.n.Routers {
		again = append(again, want.Rows(m.x, router, asked...)...)
	}
	if !alike(got.Rows, again) {
		t.Errorf("rows\n%v ask for\n%v, of\n%s", got.Rows, again, conf.Text(m.n))
	}
	return got
}

// P20.1, P20.2: in networks of chance, also such whose ways go round, as the chapter's words, taken one by one, have it.
func TestOfDrawn(t *testing.T) {
	r := rand.New(rand.NewSource(201))
	round, gone, long := 0, 0, 0
	for i := range 900 {
		n := drawn(r)
		switch i % 3 {
		case 1:
			n = joined(r, false)
		case 2:
			n = astray(r, joined(r, false))
		}
		m := model{made(t, n), n}
		got := holds(t, m)
		gone += len(got.Lost)
		if len(got.Rows) > 0 && rpf.Round(m.x) {
			round++
		}
		if len(got.Rows) > 8 {
			long++
		}
	}
	if round < 20 || gone < 60 || long < 200 {
		t.Errorf("too few of a kind: %d go round, %d lost, %d of many rows", round, gone, long)
	}
}

// P0.1: a network of nearly as many of all as may be has a state, also where its ways go round, two by two.
func TestOfFull(t *testing.T) {
	n := full()
	if got := holds(t, model{made(t, n), n}); len(got.Rows) < 300 {
		t.Errorf("%d rows", len(got.Rows))
	}
	for i, way := range n.Routes {
		if way.Router%2 == 1 && way.Router < api.MaxRouters-1 {
			n.Routes[i].Via = n.Ports[2*way.Router+1].Addr
		}
	}
	m := model{made(t, n), n}
	if !rpf.Round(m.x) {
		t.Error("no way goes round")
	}
	if got := holds(t, m); len(got.Rows) < 50 {
		t.Errorf("%d rows, where ways go round", len(got.Rows))
	}
}

// P0.5: the same network has the same state and the same wants each time, also when it is made anew.
func TestSameEachTime(t *testing.T) {
	for _, s := range []string{
		row4 + "root 224.0.0.0/4 10.34.0.3\nsource west 10.1.0.9 225.0.0.1\nsource east 10.4.0.9 225.0.0.2\nmember east 225.0.0.1 but\nmember bc 225.0.0.2 but\nmember ab 225.0.0.1 only 10.1.0.9\nmember west 225.0.0.1 but 10.1.0.9\n",
		pair + "source up 10.1.0.9 225.0.0.1\nsource up 10.1.0.8 225.0.0.1\nmember left 225.0.0.1 only 10.1.0.9 10.1.0.8\nmember right 225.0.0.1 only 10.1.0.9 10.1.0.8\n",
		ring + "root 224.0.0.0/4 99.0.0.1\nmember out 225.0.0.1 but\nmember bc 225.0.0.2 but\n",
	} {
		x := network(t, s)
		was, wanted := solve.Of(x), solve.Wants(x)
		for range 30 {
			comes(t, x, was.Rows, was.Seats, was.Lost)
			comes(t, network(t, s), was.Rows, was.Seats, was.Lost)
			wants(t, x, wanted...)
		}
	}
}
