package solve_test

import (
	"math/rand"
	"slices"
	"strconv"
	"testing"

	"rivulet/addr"
	"rivulet/api"
	"rivulet/conf"
	"rivulet/fwd"
	"rivulet/topo"
	"rivulet/want"
)

// firstGroup is the first address that is a group.
const firstGroup = api.Addr(224) << 24

// The groups of the tests.
const (
	g1, g2, g3 = api.Addr(225)<<24 + 1, api.Addr(225)<<24 + 2, api.Addr(225)<<24 + 3
)

// row4 is four routers in a row, from the link west to the link east, without roots, sources and members; routes to all of its links.
const row4 = `router a 1
router b 5
router c 3
router d 4
link west 10.1.0.0/16
link ab 10.12.0.0/16
link bc 10.23.0.0/16
link cd 10.34.0.0/16
link east 10.4.0.0/16
port a west 10.1.0.1
port a ab 10.12.0.1
port b ab 10.12.0.2
port b bc 10.23.0.2
port c bc 10.23.0.3
port c cd 10.34.0.3
port d cd 10.34.0.4
port d east 10.4.0.4
route a 10.0.0.0/8 10.12.0.2 1
route b 10.1.0.0/16 10.12.0.1 1
route b 10.4.0.0/16 10.23.0.3 2
route b 10.34.0.0/16 10.23.0.3 1
route c 10.0.0.0/8 10.23.0.2 1
route c 10.4.0.0/16 10.34.0.4 1
route d 10.0.0.0/8 10.34.0.3 1
`

// The places in row4.
const (
	a, b, c, d                                 = 0, 1, 2, 3
	aWest, aAB, bAB, bBC, cBC, cCD, dCD, dEast = 0, 1, 2, 3, 4, 5, 6, 7
)

// pair is two routers that both lead from the link up to the link down, a's address there the less, with two below that lead on to a link each: c by a, d by b.
const pair = `router a 1
router b 1
router c 1
router d 1
link up 10.1.0.0/16
link down 10.2.0.0/16
link left 10.3.0.0/16
link right 10.4.0.0/16
port a up 10.1.0.1
port b up 10.1.0.2
port a down 10.2.0.1
port b down 10.2.0.2
port c down 10.2.0.3
port d down 10.2.0.4
port c left 10.3.0.3
port d right 10.4.0.4
route c 0.0.0.0/0 10.2.0.1 1
route d 0.0.0.0/0 10.2.0.2 1
`

// The places in pair.
const (
	aUp, bUp, aDown, bDown, cDown, dDown, cLeft, dRight = 0, 1, 2, 3, 4, 5, 6, 7
	upLink, downLink, leftLink, rightLink               = 0, 1, 2, 3
)

// ring is three routers of which each leads to the next one, towards all but their links; a has one more link.
const ring = `router a 1
router b 1
router c 1
link ab 10.1.0.0/16
link bc 10.2.0.0/16
link ca 10.3.0.0/16
link out 10.4.0.0/16
port a ab 10.1.0.1
port b ab 10.1.0.2
port b bc 10.2.0.1
port c bc 10.2.0.2
port c ca 10.3.0.1
port a ca 10.3.0.2
port a out 10.4.0.1
route a 0.0.0.0/0 10.1.0.2 1
route b 0.0.0.0/0 10.2.0.2 1
route c 0.0.0.0/0 10.3.0.2 1
`

// The places in ring's ports.
const (
	ringAtoB, ringBtoA, ringBtoC, ringCtoB, ringCtoA, ringAtoC, ringOut = 0, 1, 2, 3, 4, 5, 6
)

// key is the key of a source and a group.
func key(source, group api.Addr) api.Key { return api.Key{Source: source, Group: group} }

// heard is a key of a source and a group, heard at a port.
func heard(port int, source, group api.Addr) want.Heard {
	return want.Heard{Port: port, Key: key(source, group)}
}

// row is a row of a router.
func row(router, in, up int, source, group api.Addr, out ...int) want.Row {
	return want.Row{Router: router, In: in, Up: up, Key: key(source, group), Out: out}
}

// rows are rows one by one.
func rows(l ...want.Row) []want.Row { return l }

// lost is a port at which another one forwards what a source sends to a group.
func lost(port int, source, group api.Addr) fwd.Lost {
	return fwd.Lost{Port: port, Key: key(source, group)}
}

// cloned are rows in memory of their own.
func cloned(l []want.Row) []want.Row {
	l = slices.Clone(l)
	for i := range l {
		l[i].Out = slices.Clone(l[i].Out)
	}
	return l
}

// alike tells whether two lists of rows are the same.
func alike(l, m []want.Row) bool {
	return slices.EqualFunc(l, m, func(a, b want.Row) bool {
		return a.Router == b.Router && a.In == b.In && a.Up == b.Up && a.Key == b.Key && slices.Equal(a.Out, b.Out)
	})
}

// number is the address that a text tells; it panics, if it tells none.
func number(s string) api.Addr {
	a, err := addr.Parse(s)
	if err != nil {
		panic(s)
	}
	return a
}

// made is who is where in a network, which has to be valid.
func made(t testing.TB, n api.Config) *topo.Topo {
	t.Helper()
	x, err := topo.New(n)
	if err != nil {
		t.Fatalf("New of\n%s= %v", conf.Text(n), err)
	}
	return x
}

// network is who is where in the network that a text tells.
func network(t testing.TB, s string) *topo.Topo {
	t.Helper()
	n, err := conf.Parse(s)
	if err != nil {
		t.Fatalf("Parse(%q): %v", s, err)
	}
	return made(t, n)
}

// drawn is a valid network of chance: links beside and within one another, ways that lead on, nowhere and round, roots that are mostly a router, sources and members of few groups, who list sources that there are, and others.
func drawn(r *rand.Rand) (n api.Config) {
	for i := range 1 + r.Intn(6) {
		n.Routers = append(n.Routers, api.Router{Name: "r" + strconv.Itoa(i), Rank: r.Intn(3)})
	}
	for i := range 1 + r.Intn(6) {
		p := api.Prefix{Addr: api.Addr(10+r.Intn(4)) << 24, Bits: []int{8, 8, 16, 24}[r.Intn(4)]}
		n.Links = append(n.Links, api.Link{Name: "l" + strconv.Itoa(i), Prefix: p})
	}
	for range r.Intn(24) {
		link := r.Intn(len(n.Links))
		p := api.Port{Router: r.Intn(len(n.Routers)), Link: link, Addr: nearby(r, n, link)}
		n = valid(n, func(d *api.Config) { d.Ports = append(d.Ports, p) })
	}
	for range r.Intn(30) {
		to := []api.Prefix{n.Links[r.Intn(len(n.Links))].Prefix, {}}[r.Intn(2)]
		way := api.Route{Router: r.Intn(len(n.Routers)), To: to, Via: someone(r, n), Cost: r.Intn(9)}
		n = valid(n, func(d *api.Config) { d.Routes = append(d.Routes, way) })
	}
	for range r.Intn(3) {
		at := api.Range{Groups: api.Prefix{Addr: firstGroup + api.Addr(2*r.Intn(2)), Bits: 31}, Root: someone(r, n)}
		n = valid(n, func(d *api.Config) { d.Ranges = append(d.Ranges, at) })
	}
	return peopled(r, n)
}

// peopled is a network with sources and members of chance.
func peopled(r *rand.Rand, n api.Config) api.Config {
	for range r.Intn(api.MaxSources + 1) {
		link := r.Intn(len(n.Links))
		s := api.Source{Link: link, Key: key(nearby(r, n, link), firstGroup+api.Addr(r.Intn(4)))}
		n = valid(n, func(d *api.Config) { d.Sources = append(d.Sources, s) })
	}
	for range r.Intn(12) {
		m := api.Member{Link: r.Intn(len(n.Links)), Group: firstGroup + api.Addr(r.Intn(5)), Only: r.Intn(2) == 0}
		for range r.Intn(api.MaxListed + 1) {
			if len(n.Sources) > 0 && r.Intn(4) > 0 {
				m.Sources = append(m.Sources, n.Sources[r.Intn(len(n.Sources))].Key.Source)
			} else {
				m.Sources = append(m.Sources, someone(r, n))
			}
		}
		n = valid(n, func(d *api.Config) { d.Members = append(d.Members, m) })
	}
	return n
}

// valid is a network with something added to it; without it, if it would not be valid.
func valid(n api.Config, add func(d *api.Config)) api.Config {
	d := conf.Clone(n)
	add(&d)
	if conf.Valid(d) != nil {
		return n
	}
	return d
}

// nearby is an address of a link.
func nearby(r *rand.Rand, n api.Config, link int) api.Addr {
	return n.Links[link].Prefix.Addr + api.Addr(1+r.Intn(40))
}

// someone is mostly a port's address, or one of a link, or one beside all links.
func someone(r *rand.Rand, n api.Config) api.Addr {
	switch m := r.Intn(10); {
	case m < 8 && len(n.Ports) > 0:
		return n.Ports[r.Intn(len(n.Ports))].Addr
	case m < 9:
		return nearby(r, n, r.Intn(len(n.Links)))
	}
	return 99<<24 + 1
}

// full is a network of nearly as many of all as may be: a row of all routers, the sources on its first link; at its end links with members, each with several of the last routers.
func full() (n api.Config) {
	for i := range api.MaxRouters {
		n.Routers = append(n.Routers, api.Router{Name: "r" + strconv.Itoa(i), Rank: i % 3})
	}
	for i := range api.MaxLinks {
		n.Links = append(n.Links, api.Link{Name: "l" + strconv.Itoa(i), Prefix: api.Prefix{Addr: api.Addr(10+i) << 24, Bits: 8}})
	}
	last := api.MaxRouters - 1
	for i := range last {
		net := n.Links[i].Prefix.Addr
		n.Ports = append(n.Ports, api.Port{Router: i, Link: i, Addr: net + 1}, api.Port{Router: i + 1, Link: i, Addr: net + 2})
		for bits := range 6 {
			n.Routes = append(n.Routes, api.Route{Router: i + 1, To: api.Prefix{Bits: bits}, Via: net + 1, Cost: i + bits})
		}
	}
	for i := 0; len(n.Ports) < api.MaxPorts; i++ {
		link := last + i%(api.MaxLinks-last)
		n.Ports = append(n.Ports, api.Port{Router: last - i/(api.MaxLinks-last), Link: link, Addr: n.Links[link].Prefix.Addr + api.Addr(1+i)})
	}
	for i := range api.MaxRanges {
		n.Ranges = append(n.Ranges, api.Range{Groups: api.Prefix{Addr: firstGroup + api.Addr(i), Bits: 32}, Root: n.Ports[2*i].Addr})
	}
	for i := range api.MaxSources {
		n.Sources = append(n.Sources, api.Source{Key: key(n.Links[0].Prefix.Addr+9+api.Addr(i), firstGroup+api.Addr(i))})
	}
	for i := range api.MaxMembers {
		m := api.Member{Link: last + i%(api.MaxLinks-last), Group: firstGroup + api.Addr(i/2), Only: i%2 == 0}
		for j := range api.MaxListed {
			m.Sources = append(m.Sources, n.Links[0].Prefix.Addr+9+api.Addr(i/2+j))
		}
		n.Members = append(n.Members, m)
	}
	return n
}
