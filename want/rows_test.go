package want_test

import (
	"math"
	"math/rand"
	"slices"
	"testing"

	"rivulet/api"
	"rivulet/conf"
	"rivulet/root"
	"rivulet/topo"
	"rivulet/want"
)

// row is a row of a router.
func row(router, in, up int, source, group api.Addr, out ...int) want.Row {
	return want.Row{Router: router, In: in, Up: up, Key: key(source, group), Out: out}
}

// alike tells whether two lists of rows are the same, without a call of what is tested.
func alike(l, m []want.Row) bool {
	return slices.EqualFunc(l, m, func(a, b want.Row) bool {
		return a.Router == b.Router && a.In == b.In && a.Up == b.Up && a.Key == b.Key && slices.Equal(a.Out, b.Out)
	})
}

// rows fails where a router's rows of what was heard are others, or what was heard is changed.
func rows(t *testing.T, x *topo.Topo, router int, l []want.Heard, wanted ...want.Row) {
	t.Helper()
	was := slices.Clone(l)
	if got := want.Rows(x, router, l...); !alike(got, wanted) {
		t.Errorf("Rows(%d, %v) = %v, not %v, of\n%s", router, l, got, wanted, conf.Text(x.Config()))
	}
	if !slices.Equal(l, was) {
		t.Errorf("%v became %v", was, l)
	}
}

// all is things heard, one by one.
func all(l ...want.Heard) []want.Heard { return l }

// P17.1, 'Examples': nothing heard, no row: of each router, one without ports and a root among them, and of places that are none.
func TestNothingHeard(t *testing.T) {
	for _, x := range []*topo.Topo{network(t, line), made(t, wide()), made(t, api.Config{})} {
		n := len(x.Config().Routers)
		for router := range n {
			rows(t, x, router, nil)
			rows(t, x, router, all())
			if got := want.Rows(x, router); len(got) != 0 {
				t.Errorf("Rows(%d) = %v", router, got)
			}
		}
		for _, router := range noPlaces(n) {
			rows(t, x, router, nil)
		}
	}
}

// P17.1, P0.7: a place that is no router's has no rows, whatever was heard, and where.
func TestNoRouter(t *testing.T) {
	x := network(t, line)
	var l []want.Heard
	for port := -1; port <= nextToEnd; port++ {
		l = append(l, heard(port, 0, g1), heard(port, west, g1), heard(port, 0, cs))
	}
	for _, router := range append(noPlaces(len(x.Config().Routers)), lone) {
		rows(t, x, router, l)
	}
	rows(t, made(t, api.Config{}), 0, l)
}

// P17.1: heard at another router's ports, and at places that are none, counts for nothing: neither for a row nor for its Out.
func TestHeardElsewhere(t *testing.T) {
	x := network(t, line)
	rows(t, x, b, all(heard(aMid, 0, g1), heard(cEast, west, g1), heard(farAway, 0, g2)))
	rows(t, x, a, all(heard(bMid, 0, g1)))
	rows(t, x, c, all(heard(bEast, west, cs)))
	for _, place := range noPlaces(nextToEnd) {
		for router := range len(x.Config().Routers) {
			rows(t, x, router, all(heard(place, 0, g1), heard(place, west, g1)))
		}
		rows(t, x, c, all(heard(place, 0, g1), heard(cLast, 0, g1), heard(aMid, 0, g1)), row(c, cEast, bEast, 0, g1, cLast))
		rows(t, x, c, all(heard(cLast, west, g1), heard(place, west, g1), heard(bSide, 0, g1)), row(c, cEast, bEast, west, g1, cLast))
	}
}

// P17.1: heard for any source alone: one row, also where it was heard at In alone.
func TestAnySource(t *testing.T) {
	x := network(t, line)
	rows(t, x, c, all(heard(cLast, 0, g1)), row(c, cEast, bEast, 0, g1, cLast))
	rows(t, x, a, all(heard(aWest, 0, g1)), row(a, aMid, bMid, 0, g1, aWest))
	rows(t, x, a, all(heard(aWest, 0, cs)), row(a, aMid, bMid, 0, cs, aWest))
	rows(t, x, c, all(heard(cEast, 0, g1)), row(c, cEast, bEast, 0, g1))
	rows(t, x, a, all(heard(aMid, 0, g1), heard(aMid, 0, g1)), row(a, aMid, bMid, 0, g1))
	rows(t, x, c, all(heard(cEast, 0, g1), heard(cLast, 0, g1)), row(c, cEast, bEast, 0, g1, cLast))
	// A group to which no source sends and nobody listens.
	rows(t, x, c, all(heard(cLast, 0, 225<<24+77)), row(c, cEast, bEast, 0, 225<<24+77, cLast))
}

// P17.1: heard for one source alone: one row, of a source that is there, or not, also where it was heard at In alone.
func TestOneSource(t *testing.T) {
	x := network(t, line)
	rows(t, x, c, all(heard(cLast, west, g1)), row(c, cEast, bEast, west, g1, cLast))
	rows(t, x, a, all(heard(aMid, west, g1)), row(a, aWest, -1, west, g1, aMid))
	rows(t, x, b, all(heard(bSide, west, g1), heard(bEast, west, g1)), row(b, bMid, aMid, west, g1, bEast, bSide))
	rows(t, x, b, all(heard(bMid, west, g1)), row(b, bMid, aMid, west, g1))
	rows(t, x, b, all(heard(bMid, last, g1), heard(bEast, last, g1)), row(b, bEast, cEast, last, g1, bMid))
	// No source sends so, though west is one, and g3 a group.
	rows(t, x, b, all(heard(bEast, west, g3)), row(b, bMid, aMid, west, g3, bEast))
	// On the link, and nobody's; another router's; its own.
	rows(t, x, b, all(heard(bEast, number("10.2.0.9"), g1)), row(b, bMid, -1, number("10.2.0.9"), g1, bEast))
	rows(t, x, b, all(heard(bEast, number("10.2.0.1"), g1)), row(b, bMid, aMid, number("10.2.0.1"), g1, bEast))
	rows(t, x, b, all(heard(bEast, number("10.2.0.2"), g1)), row(b, -1, -1, number("10.2.0.2"), g1, bEast))
}

// P17.1: heard for any source and for one: a row of each; that of the one goes where both were heard, but to its own In, that of any where it was heard itself.
func TestBoth(t *testing.T) {
	x := network(t, line)
	rows(t, x, a, all(heard(aMid, west, g1), heard(aWest, 0, g1)),
		row(a, aMid, bMid, 0, g1, aWest), row(a, aWest, -1, west, g1, aMid))
	// Heard at the other one's In.
	rows(t, x, a, all(heard(aWest, west, g1), heard(aMid, 0, g1)),
		row(a, aMid, bMid, 0, g1), row(a, aWest, -1, west, g1, aMid))
	rows(t, x, c, all(heard(cLast, last, g1), heard(cEast, 0, g1)),
		row(c, cEast, bEast, 0, g1), row(c, cLast, -1, last, g1, cEast))
	// At one port both.
	rows(t, x, c, all(heard(cLast, west, g1), heard(cLast, 0, g1)),
		row(c, cEast, bEast, 0, g1, cLast), row(c, cEast, bEast, west, g1, cLast))
	// Several sources of one group have no part in each other's Out.
	rows(t, x, b, all(heard(bSide, west, g3), heard(bEast, side, g3), heard(bMid, last, g3)),
		row(b, bMid, aMid, west, g3, bSide), row(b, bEast, cEast, last, g3, bMid), row(b, bSide, -1, side, g3, bEast))
	// Nor has any source of another group.
	rows(t, x, c, all(heard(cLast, west, g1), heard(cEast, 0, g2)),
		row(c, cEast, bEast, west, g1, cLast), row(c, cEast, bEast, 0, g2))
}

// P17.1: who is no root of the group has no row of a source that he did not hear, though he heard any source's; Known or not.
func TestNoRootAsksForNone(t *testing.T) {
	x := network(t, line)
	rows(t, x, a, all(heard(aWest, 0, g1)), row(a, aMid, bMid, 0, g1, aWest))
	rows(t, x, c, all(heard(cLast, 0, g1)), row(c, cEast, bEast, 0, g1, cLast))
	rows(t, x, b, all(heard(bSide, 0, cs)), row(b, bEast, cEast, 0, cs, bSide))
	// Nobody is the root, or it has none.
	rows(t, x, a, all(heard(aWest, 0, bare)), row(a, -1, -1, 0, bare, aWest))
	rows(t, x, b, all(heard(bMid, 0, nobodys)), row(b, -1, -1, 0, nobodys, bMid))
	rows(t, x, b, all(heard(bSide, 0, hosts)), row(b, bMid, aMid, 0, hosts, bSide))
}

// P17.1: a root has a row of each source that sends to the group, as soon as it heard any source's; each goes where that was heard, but to its In.
func TestRootAsksForSources(t *testing.T) {
	x := network(t, line)
	rows(t, x, b, all(heard(bEast, 0, g1)),
		row(b, -1, -1, 0, g1, bEast), row(b, bMid, aMid, west, g1, bEast), row(b, bEast, cEast, last, g1), row(b, bSide, -1, side, g1, bEast))
	rows(t, x, b, all(heard(bSide, 0, g1), heard(bMid, 0, g1)),
		row(b, -1, -1, 0, g1, bMid, bSide), row(b, bMid, aMid, west, g1, bSide), row(b, bEast, cEast, last, g1, bMid, bSide), row(b, bSide, -1, side, g1, bMid))
	rows(t, x, b, all(heard(bMid, 0, g2)), row(b, -1, -1, 0, g2, bMid), row(b, bEast, -1, east, g2, bMid))
	// Nobody sends to that group of its.
	rows(t, x, b, all(heard(bMid, 0, g3)), row(b, -1, -1, 0, g3, bMid))
	rows(t, x, c, all(heard(cLast, 0, cs)), row(c, -1, -1, 0, cs, cLast), row(c, cEast, bEast, west, cs, cLast))
	// Heard at the source's In alone.
	rows(t, x, c, all(heard(cEast, 0, cs)), row(c, -1, -1, 0, cs, cEast), row(c, cEast, bEast, west, cs))
}

// P17.1: a root that did not hear any source's, but elsewhere, has a row of what it heard alone.
func TestRootHearsNoAny(t *testing.T) {
	x := network(t, line)
	rows(t, x, b, all(heard(aMid, 0, g1), heard(nextToEnd, 0, g1), heard(-1, 0, g1)))
	rows(t, x, b, all(heard(bEast, west, g1)), row(b, bMid, aMid, west, g1, bEast))
	rows(t, x, b, all(heard(bEast, west, g1), heard(cEast, 0, g1)), row(b, bMid, aMid, west, g1, bEast))
	// Any source's of another group of its.
	rows(t, x, b, all(heard(bEast, west, g1), heard(bSide, 0, g3)), row(b, bMid, aMid, west, g1, bEast), row(b, -1, -1, 0, g3, bSide))
}

// P17.1: a root's row of a source that it heard as well goes where both were heard; one of a source that is not known is there, if it was heard.
func TestRootHearsBoth(t *testing.T) {
	x := network(t, line)
	rows(t, x, b, all(heard(bSide, east, g2), heard(bMid, 0, g2)),
		row(b, -1, -1, 0, g2, bMid), row(b, bEast, -1, east, g2, bMid, bSide))
	// Known with another group alone: of this one there is a row only where it was heard.
	rows(t, x, b, all(heard(bMid, 0, g3), heard(bSide, west, g3)),
		row(b, -1, -1, 0, g3, bMid), row(b, bMid, aMid, west, g3, bSide))
	// A member lists it, but it is no source.
	unknown := number("10.2.0.9")
	rows(t, x, b, all(heard(bEast, 0, g2), heard(bSide, unknown, g2)),
		row(b, -1, -1, 0, g2, bEast), row(b, bMid, -1, unknown, g2, bEast, bSide), row(b, bEast, -1, east, g2))
}

// P17.1: where rpf.Key has none, In and Up are -1, and Out is all ports at which it was heard.
func TestNoWay(t *testing.T) {
	x := network(t, line)
	// No root: heard at the first port, too, whose place is the zero value of In.
	rows(t, x, c, all(heard(cEast, 0, bare), heard(cLast, 0, bare)), row(c, -1, -1, 0, bare, cEast, cLast))
	// A root, but no way there.
	rows(t, x, b, all(heard(bMid, 0, nobodys), heard(bEast, 0, nobodys)), row(b, -1, -1, 0, nobodys, bMid, bEast))
	rows(t, x, far, all(heard(farAway, 0, g1)), row(far, -1, -1, 0, g1, farAway))
	// No way to a source, and a next hop that nobody has.
	rows(t, x, b, all(heard(bMid, 77, g1)), row(b, -1, -1, 77, g1, bMid))
	rows(t, x, far, all(heard(farAway, west, g1)), row(far, -1, -1, west, g1, farAway))
	rows(t, x, a, all(heard(aWest, number("10.6.0.9"), g1)), row(a, aMid, -1, number("10.6.0.9"), g1, aWest))
	// No group at all has no root, but its sources have ways.
	rows(t, x, a, all(heard(aWest, 0, 7), heard(aMid, west, 7)), row(a, -1, -1, 0, 7, aWest), row(a, aWest, -1, west, 7, aMid))
	rows(t, x, a, all(heard(aWest, 0, 0)), row(a, -1, -1, 0, 0, aWest))
	rows(t, x, a, all(heard(aWest, math.MaxUint32, math.MaxUint32)), row(a, -1, -1, math.MaxUint32, math.MaxUint32, aWest))
}

// P17.1: a root without a way to a source of its group has a row of it all the same: In and Up -1.
func TestRootWithoutWay(t *testing.T) {
	x := network(t, "router a 1\nrouter b 1\nlink one 10.0.0.0/8\nlink two 11.0.0.0/8\nport a one 10.0.0.1\nport b two 11.0.0.1\nroot 224.0.0.0/4 10.0.0.1\nsource two 11.0.0.9 224.0.0.1\n")
	s, g := number("11.0.0.9"), number("224.0.0.1")
	rows(t, x, 0, all(heard(0, 0, g)), row(0, -1, -1, 0, g, 0), row(0, -1, -1, s, g, 0))
	rows(t, x, 1, all(heard(1, 0, g)), row(1, -1, -1, 0, g, 1))
}

// P17.1: Up is another router's port towards the source, the router that is asked, not the source itself, nor the root far off.
func TestUpIsNext(t *testing.T) {
	x := network(t, line)
	rows(t, x, c, all(heard(cLast, west, g1)), row(c, cEast, bEast, west, g1, cLast))
	rows(t, x, a, all(heard(aWest, last, g1)), row(a, aMid, bMid, last, g1, aWest))
	rows(t, x, a, all(heard(aWest, 0, cs)), row(a, aMid, bMid, 0, cs, aWest))
	// The root's address is a host's on a's link, and on nobody's else.
	rows(t, x, a, all(heard(aMid, 0, hosts)), row(a, aWest, -1, 0, hosts, aMid))
}

// P17.1: Out rises, each once, in whatever order and however often things were heard.
func TestOutRises(t *testing.T) {
	x := network(t, line)
	l := all(heard(bSide, 0, g1), heard(bMid, 0, g1), heard(bEast, west, g1))
	wanted := want.Rows(x, b, l...)
	rows(t, x, b, l, row(b, -1, -1, 0, g1, bMid, bSide), row(b, bMid, aMid, west, g1, bEast, bSide),
		row(b, bEast, cEast, last, g1, bMid, bSide), row(b, bSide, -1, side, g1, bMid))
	n := len(l)
	for code := range n * n * n * n * n {
		var order []want.Heard
		var has [3]bool
		for at := code; len(order) < 5; at /= n {
			order = append(order, l[at%n])
			has[at%n] = true
		}
		if has[0] && has[1] && has[2] {
			rows(t, x, b, order, wanted...)
		}
	}
}

// P17.1: of as many ports as a router may have, the first and the last among them.
func TestManyPorts(t *testing.T) {
	x := made(t, wide())
	var l []want.Heard
	var ports []int
	for port := range api.MaxLinks {
		ports = append(ports, port)
		l = append(l, heard(port, 0, firstGroup))
	}
	slices.Reverse(l)
	wanted := []want.Row{row(0, -1, -1, 0, firstGroup, ports...), row(0, 0, -1, 10<<24+9, firstGroup, ports[1:]...)}
	rows(t, x, 0, l, wanted...)
	for i := range l {
		l[i].Key.Source = 33<<24 + 9
	}
	rows(t, x, 0, l, row(0, api.MaxLinks-1, -1, 33<<24+9, firstGroup, ports[:api.MaxLinks-1]...))
}

// P17.1: rows are in the keys' order, by Group, then Source, each key once: those heard, in any order, and those for which a root asks, among one another.
func TestKeysOrder(t *testing.T) {
	x := network(t, line)
	l := all(heard(bEast, west, cs), heard(bEast, 0, cs), heard(bEast, math.MaxUint32, g1), heard(bEast, 1, g1), heard(bMid, 0, g2), heard(bSide, west, 0), heard(bEast, 0, g1), heard(bEast, side, g1), heard(bMid, 9, math.MaxUint32))
	wanted := []api.Key{key(west, 0), key(0, g1), key(1, g1), key(west, g1), key(last, g1), key(side, g1), key(math.MaxUint32, g1), key(0, g2), key(east, g2), key(0, cs), key(west, cs), key(9, math.MaxUint32)}
	r := rand.New(rand.NewSource(171))
	for range 200 {
		var got []api.Key
		for _, one := range want.Rows(x, b, l...) {
			got = append(got, one.Key)
		}
		if !slices.Equal(got, wanted) {
			t.Fatalf("of %v keys %v, not %v", l, got, wanted)
		}
		r.Shuffle(len(l), func(i, j int) { l[i], l[j] = l[j], l[i] })
	}
}

// P17.1: a great many things heard, of few keys and of many.
func TestManyHeard(t *testing.T) {
	x := network(t, line)
	r := rand.New(rand.NewSource(172))
	var l []want.Heard
	for range 200000 {
		l = append(l, heard([]int{bMid, bEast, bSide, aMid}[r.Intn(4)], 0, g2))
	}
	rows(t, x, b, l, row(b, -1, -1, 0, g2, bMid, bEast, bSide), row(b, bEast, -1, east, g2, bMid, bSide))
	var wanted []want.Row
	for i := range 2000 {
		g := 230<<24 + api.Addr(i)
		wanted = append(wanted, row(b, -1, -1, 0, g, bSide), row(b, bMid, aMid, west, g, bEast, bSide))
	}
	l = nil
	for i := range 20000 {
		g := 230<<24 + api.Addr(i%2000)
		l = append(l, heard(bEast, west, g), heard(bSide, 0, g))
	}
	rows(t, x, b, l, wanted...)
}

// P17.1: of many networks and of all their routers, for many things heard: just the rows that the chapter's words name.
func TestManyNetworks(t *testing.T) {
	r := rand.New(rand.NewSource(173))
	asked, beside, many := 0, 0, 0
	for range 400 {
		c := drawn(r)
		m := model{made(t, c), c}
		for range 4 {
			l := listened(r, c)
			for router := -1; router <= len(c.Routers); router++ {
				wanted := m.rows(router, l)
				rows(t, m.x, router, l, wanted...)
				for _, one := range wanted {
					many++
					asked += count(one.Up >= 0)
					beside += count(!m.hearsAnywhere(router, l, one.Key))
				}
			}
		}
	}
	if many < 2000 || asked < 400 || beside < 100 {
		t.Errorf("of %d rows %d ask others and %d are a root's beside what it heard: too few to tell", many, asked, beside)
	}
}

// count is 1 for what is so, else 0.
func count(is bool) int {
	if is {
		return 1
	}
	return 0
}

// P0.5: in whatever order, however often things were heard and rows are asked for, they are the same.
func TestOrderHeard(t *testing.T) {
	r := rand.New(rand.NewSource(174))
	for range 100 {
		c := drawn(r)
		x := made(t, c)
		l := listened(r, c)
		var wanted [][]want.Row
		for router := range c.Routers {
			wanted = append(wanted, want.Rows(x, router, l...))
		}
		for range 5 {
			other := slices.Clone(l)
			for range r.Intn(1 + len(l)) {
				other = append(other, l[r.Intn(len(l))])
			}
			r.Shuffle(len(other), func(i, j int) { other[i], other[j] = other[j], other[i] })
			for router := range c.Routers {
				rows(t, x, router, other, wanted[router]...)
			}
		}
	}
}

// P17.1: the root is that of the range with the most bits: who is the root of a wider one alone asks for none.
func TestNarrowestRoot(t *testing.T) {
	x := network(t, "router a 1\nrouter b 1\nlink one 10.0.0.0/8\nlink two 11.0.0.0/8\nport a one 10.0.0.1\nport b one 10.0.0.2\nport b two 11.0.0.1\nroute a 11.0.0.0/8 10.0.0.2 1\nroot 224.0.0.0/4 10.0.0.1\nroot 230.0.0.0/8 11.0.0.1\nsource two 11.0.0.9 230.0.0.1\nsource two 11.0.0.9 231.0.0.1\n")
	s, narrow, broad := number("11.0.0.9"), number("230.0.0.1"), number("231.0.0.1")
	if !root.Is(x, 1, narrow) || !root.Is(x, 0, broad) {
		t.Fatal("the test's own roots are others")
	}
	rows(t, x, 0, all(heard(0, 0, narrow)), row(0, 0, 1, 0, narrow))
	rows(t, x, 0, all(heard(0, 0, broad)), row(0, -1, -1, 0, broad, 0), row(0, 0, 1, s, broad))
	rows(t, x, 1, all(heard(1, 0, narrow)), row(1, -1, -1, 0, narrow, 1), row(1, 2, -1, s, narrow, 1))
	rows(t, x, 1, all(heard(1, 0, broad)), row(1, 1, 0, 0, broad))
}
