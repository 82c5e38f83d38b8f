package want_test

import (
	"math"
	"math/rand"
	"slices"
	"strconv"
	"testing"

	"rivulet/addr"
	"rivulet/api"
	"rivulet/conf"
	"rivulet/rpf"
	"rivulet/topo"
	"rivulet/want"
)

// firstGroup is the first address that is a group.
const firstGroup = api.Addr(224) << 24

// key is the key of a source and a group.
func key(source, group api.Addr) api.Key { return api.Key{Source: source, Group: group} }

// heard is a key of a source and a group, heard at a port.
func heard(port int, source, group api.Addr) want.Heard {
	return want.Heard{Port: port, Key: key(source, group)}
}

// made is who is where in a network, which has to be valid.
func made(t testing.TB, c api.Config) *topo.Topo {
	t.Helper()
	x, err := topo.New(c)
	if err != nil {
		t.Fatalf("New of\n%s= %v", conf.Text(c), err)
	}
	return x
}

// network is who is where in the network that a text tells.
func network(t testing.TB, s string) *topo.Topo {
	t.Helper()
	c, err := conf.Parse(s)
	if err != nil {
		t.Fatalf("Parse(%q): %v", s, err)
	}
	return made(t, c)
}

// number is the address that a text tells; it panics, if it tells none.
func number(s string) api.Addr {
	a, err := addr.Parse(s)
	if err != nil {
		panic(s)
	}
	return a
}

// line is three routers in a row, a and b on mid, b and c on east; a router without ports, and one on a link of its own; ports not in the order of routers or links.
// b is the root of 225.0.0.0/8, c that of 239.0.0.0/8; nobody is that of 232.0.0.0/8 and of 233.0.0.0/8; 224.0.0.0/8 has none.
const line = `router a 1
router b 2
router c 3
router lone 4
router far 5
link east 10.3.0.0/16
link mid 10.2.0.0/16
link west 10.1.0.0/16
link last 10.4.0.0/16
link side 10.5.0.0/16
link away 10.6.0.0/16
port c east 10.3.0.3
port b mid 10.2.0.2
port a west 10.1.0.1
port a mid 10.2.0.1
port b east 10.3.0.2
port c last 10.4.0.3
port b side 10.5.0.2
port far away 10.6.0.1
route a 10.3.0.0/16 10.2.0.2 1
route a 10.4.0.0/16 10.2.0.2 2
route a 10.6.0.0/16 10.2.0.77 2
route b 10.1.0.0/16 10.2.0.1 5
route b 10.4.0.0/16 10.3.0.3 7
route c 0.0.0.0/0 10.3.0.2 4
root 225.0.0.0/8 10.3.0.2
root 239.0.0.0/8 10.4.0.3
root 232.0.0.0/8 99.0.0.1
root 233.0.0.0/8 10.1.0.9
source west 10.1.0.9 239.0.0.1
source west 10.1.0.9 225.0.0.1
source side 10.5.0.7 225.0.0.1
source last 10.4.0.8 225.0.0.1
source east 10.3.0.7 225.0.0.2
source west 10.1.0.9 224.0.0.1
member last 225.0.0.1 but 10.5.0.7
member mid 225.0.0.1 only 10.2.0.9 10.1.0.9
member west 225.0.0.3 but
`

// The places in line.
const (
	a, b, c, lone, far                                                = 0, 1, 2, 3, 4
	cEast, bMid, aWest, aMid, bEast, cLast, bSide, farAway, nextToEnd = 0, 1, 2, 3, 4, 5, 6, 7, 8
)

// The addresses in line.
var (
	west, side, last, east = number("10.1.0.9"), number("10.5.0.7"), number("10.4.0.8"), number("10.3.0.7")
	bare, g1, g2, g3       = number("224.0.0.1"), number("225.0.0.1"), number("225.0.0.2"), number("225.0.0.3")
	nobodys, hosts, cs     = number("232.0.0.1"), number("233.0.0.1"), number("239.0.0.1")
)

// wide is a network of one router that has a port on each of as many links as may be, and is a group's root, with a source on the first link.
func wide() (c api.Config) {
	c.Routers = []api.Router{{Name: "hub"}}
	for i := range api.MaxLinks {
		net := api.Addr(10+i) << 24
		c.Links = append(c.Links, api.Link{Name: "l" + strconv.Itoa(i), Prefix: api.Prefix{Addr: net, Bits: 8}})
		c.Ports = append(c.Ports, api.Port{Link: i, Addr: net + 1})
	}
	c.Ranges = []api.Range{{Groups: api.Prefix{Addr: firstGroup, Bits: 4}, Root: c.Ports[0].Addr}}
	c.Sources = []api.Source{{Link: 0, Key: key(10<<24+9, firstGroup)}}
	return c
}

// noPlaces are places that are no port's and no router's, of so many.
func noPlaces(n int) []int {
	return []int{math.MinInt, math.MinInt32, -n - 1, -n, -2, -1, n, n + 1, 2*n + 1, 1 << 32, 1<<32 + 1, math.MaxInt32, math.MaxInt}
}

// model is a network, asked item by item, in the chapter's words.
type model struct {
	x *topo.Topo
	c api.Config
}

// hears tells whether a key was heard at a port that is a router's.
func (m model) hears(router int, l []want.Heard, k api.Key, port int) bool {
	if port < 0 || port >= len(m.c.Ports) || m.c.Ports[port].Router != router {
		return false
	}
	for _, h := range l {
		if h.Port == port && h.Key.Source == k.Source && h.Key.Group == k.Group {
			return true
		}
	}
	return false
}

// hearsAnywhere tells whether a key was heard at some port of a router.
func (m model) hearsAnywhere(router int, l []want.Heard, k api.Key) bool {
	for port := range m.c.Ports {
		if m.hears(router, l, k, port) {
			return true
		}
	}
	return false
}

// isRoot tells whether a router has a port with the root's address of the range with the most bits in which a group is.
func (m model) isRoot(router int, g api.Addr) bool {
	most, at := -1, api.Addr(0)
	for _, r := range m.c.Ranges {
		if addr.In(r.Groups, g) && r.Groups.Bits > most {
			most, at = r.Groups.Bits, r.Root
		}
	}
	for _, p := range m.c.Ports {
		if most >= 0 && p.Router == router && p.Addr == at {
			return true
		}
	}
	return false
}

// known tells whether a key is a source's.
func (m model) known(k api.Key) bool {
	for _, s := range m.c.Sources {
		if s.Key == k {
			return true
		}
	}
	return false
}

// has tells whether a router has a row of a key.
func (m model) has(router int, l []want.Heard, k api.Key) bool {
	if m.hearsAnywhere(router, l, k) {
		return true
	}
	return k.Source != 0 && m.isRoot(router, k.Group) && m.hearsAnywhere(router, l, key(0, k.Group)) && m.known(k)
}

// row is what a router's row of a key would be.
func (m model) row(router int, l []want.Heard, k api.Key) want.Row {
	r := want.Row{Router: router, In: -1, Up: -1, Key: k}
	if h, ok := rpf.Key(m.x, router, k); ok {
		r.In, r.Up = h.In, h.Up
	}
	for port := range m.c.Ports {
		if port != r.In && (m.hears(router, l, k, port) || m.hears(router, l, key(0, k.Group), port)) {
			r.Out = append(r.Out, port)
		}
	}
	return r
}

// rows are a router's rows.
func (m model) rows(router int, l []want.Heard) (rows []want.Row) {
	var named []api.Key
	for _, h := range l {
		named = append(named, h.Key)
	}
	for _, s := range m.c.Sources {
		named = append(named, s.Key)
	}
	for len(named) > 0 {
		least := named[0]
		for _, k := range named {
			if k.Group < least.Group || k.Group == least.Group && k.Source < least.Source {
				least = k
			}
		}
		if m.has(router, l, least) {
			rows = append(rows, m.row(router, l, least))
		}
		named = slices.DeleteFunc(named, func(k api.Key) bool { return k == least })
	}
	return rows
}

// drawn is a valid network of chance: links beside, within and upon one another, routes by addresses that mostly some router has, roots that are mostly a router, sources of few groups.
func drawn(r *rand.Rand) (c api.Config) {
	for i := range 1 + r.Intn(6) {
		c.Routers = append(c.Routers, api.Router{Name: "r" + strconv.Itoa(i)})
	}
	for i := range 1 + r.Intn(6) {
		p := api.Prefix{Addr: api.Addr(10+r.Intn(4)) << 24, Bits: []int{8, 8, 16, 24}[r.Intn(4)]}
		c.Links = append(c.Links, api.Link{Name: "l" + strconv.Itoa(i), Prefix: p})
	}
	for range 1 + r.Intn(24) {
		link := r.Intn(len(c.Links))
		p := api.Port{Router: r.Intn(len(c.Routers)), Link: link, Addr: nearby(r, c, link)}
		c = valid(c, func(d *api.Config) { d.Ports = append(d.Ports, p) })
	}
	for range r.Intn(30) {
		l := c.Links[r.Intn(len(c.Links))].Prefix
		to := []api.Prefix{l, l, l, {}}[r.Intn(4)]
		way := api.Route{Router: r.Intn(len(c.Routers)), To: to, Via: someone(r, c), Cost: r.Intn(9)}
		c = valid(c, func(d *api.Config) { d.Routes = append(d.Routes, way) })
	}
	for range r.Intn(4) {
		groups := []api.Prefix{{Addr: firstGroup, Bits: 4}, {Addr: firstGroup, Bits: 31}, {Addr: firstGroup + 2, Bits: 31}, {Addr: firstGroup + 1, Bits: 32}}[r.Intn(4)]
		at := api.Range{Groups: groups, Root: someone(r, c)}
		c = valid(c, func(d *api.Config) { d.Ranges = append(d.Ranges, at) })
	}
	for range r.Intn(api.MaxSources + 1) {
		link := r.Intn(len(c.Links))
		s := api.Source{Link: link, Key: key(nearby(r, c, link), firstGroup+api.Addr(r.Intn(4)))}
		c = valid(c, func(d *api.Config) { d.Sources = append(d.Sources, s) })
	}
	return c
}

// valid is a network with something added to it; without it, if it would not be valid.
func valid(c api.Config, add func(d *api.Config)) api.Config {
	d := conf.Clone(c)
	add(&d)
	if conf.Valid(d) != nil {
		return c
	}
	return d
}

// nearby is an address of a link.
func nearby(r *rand.Rand, c api.Config, link int) api.Addr {
	return c.Links[link].Prefix.Addr + api.Addr(1+r.Intn(40))
}

// someone is mostly a port's address, or one of a link, or one beside all links.
func someone(r *rand.Rand, c api.Config) api.Addr {
	switch n := r.Intn(10); {
	case n < 8 && len(c.Ports) > 0:
		return c.Ports[r.Intn(len(c.Ports))].Addr
	case n < 9:
		return nearby(r, c, r.Intn(len(c.Links)))
	}
	return 99<<24 + 1
}

// listened is what was heard, of chance: at ports of a network, some of them of one router, and at places that are none; any source's and sources' keys, sources that nobody has, and groups that are none.
func listened(r *rand.Rand, c api.Config) (l []want.Heard) {
	for range r.Intn(24) {
		h := heard(r.Intn(len(c.Ports)+2)-1, 0, firstGroup+api.Addr(r.Intn(5)))
		switch n := r.Intn(10); {
		case n < 4 && len(c.Sources) > 0:
			h.Key = c.Sources[r.Intn(len(c.Sources))].Key
		case n < 6:
			h.Key.Source = someone(r, c)
		case n == 6:
			h.Key.Group = api.Addr(r.Intn(3))
		}
		l = append(l, h)
	}
	return l
}
