package rpf_test

import (
	"math"
	"math/rand"
	"strconv"
	"testing"

	"rivulet/addr"
	"rivulet/api"
	"rivulet/conf"
	"rivulet/rib"
	"rivulet/rpf"
	"rivulet/topo"
)

// The first address that is a group, and the first behind that is none.
const (
	firstGroup = api.Addr(224) << 24
	pastGroups = api.Addr(240) << 24
)

// of is the prefix of that many bits in which an address is.
func of(a api.Addr, bits int) api.Prefix {
	many := uint64(1) << (32 - bits)
	return api.Prefix{Addr: a - api.Addr(uint64(a)%many), Bits: bits}
}

// final is the last address of a prefix.
func final(p api.Prefix) api.Addr { return p.Addr + api.Addr(uint64(1)<<(32-p.Bits)-1) }

// made is who is where in a network, which has to be valid.
func made(t testing.TB, c api.Config) *topo.Topo {
	t.Helper()
	x, err := topo.New(c)
	if err != nil {
		t.Fatalf("New: %v", err)
	}
	return x
}

// network is who is where in the network that a text tells.
func network(t testing.TB, s string) *topo.Topo {
	t.Helper()
	c, err := conf.Parse(s)
	if err != nil {
		t.Fatalf("Parse(%q): %v", s, err)
	}
	return made(t, c)
}

// number is the address that a text tells.
func number(t testing.TB, s string) api.Addr {
	t.Helper()
	a, err := addr.Parse(s)
	if err != nil {
		t.Fatalf("Parse(%q): %v", s, err)
	}
	return a
}

// noRouters are places that are no router's, of so many routers.
func noRouters(n int) []int {
	return []int{math.MinInt, math.MinInt32, -n - 1, -n, -2, -1, n, n + 1, 2*n + 1, 1 << 32, math.MaxInt32, math.MaxInt}
}

// model is a network, asked item by item, in the chapter's words.
type model struct {
	x *topo.Topo
	c api.Config
}

// to is a router's step, and whether there is one.
func (m model) to(router int, a api.Addr) (rpf.Hop, bool) {
	for _, p := range m.c.Ports {
		if p.Router == router && p.Addr == a {
			return rpf.Hop{In: -1, Up: -1, There: true}, true
		}
	}
	w, ok := rib.Look(m.x, router, a)
	if !ok {
		return rpf.Hop{}, false
	}
	h := rpf.Hop{In: w.Port, Up: -1, Cost: w.Cost}
	want := w.Via
	if w.Via == 0 {
		h.There = true
		want = a
	}
	for i, p := range m.c.Ports {
		if p.Link == m.c.Ports[w.Port].Link && p.Router != router && p.Addr == want {
			h.Up = i
		}
	}
	return h, true
}

// root is the Root of the range with the most bits in which an address is; 0, if there is none.
func (m model) root(g api.Addr) (a api.Addr) {
	most := -1
	for _, r := range m.c.Ranges {
		if g >= r.Groups.Addr && g <= final(r.Groups) && r.Groups.Bits > most {
			a, most = r.Root, r.Groups.Bits
		}
	}
	return a
}

// key is a router's step towards a key, and whether there is one.
func (m model) key(router int, k api.Key) (rpf.Hop, bool) {
	a := k.Source
	if a == 0 {
		a = m.root(k.Group)
	}
	if a == 0 {
		return rpf.Hop{}, false
	}
	return m.to(router, a)
}

// chain are the routers from one on; round, if there is one more behind as many as there are: then one is met again.
func (m model) chain(router int, a api.Addr) (list []int, round bool) {
	for range len(m.c.Routers) + 1 {
		list = append(list, router)
		h, ok := m.to(router, a)
		if !ok || h.Up == -1 {
			return list, false
		}
		router = m.c.Ports[h.Up].Router
	}
	return nil, true
}

// rounds is how many chains go round: towards sources, listed addresses and roots each.
func (m model) rounds() (sources, listed, roots int) {
	for router := range m.c.Routers {
		for _, s := range m.c.Sources {
			sources += m.roundOnce(router, s.Key.Source)
		}
		for _, one := range m.c.Members {
			for _, a := range one.Sources {
				listed += m.roundOnce(router, a)
			}
		}
		for _, r := range m.c.Ranges {
			roots += m.roundOnce(router, r.Root)
		}
	}
	return sources, listed, roots
}

// roundOnce is 1, if the chain from a router goes round, else 0.
func (m model) roundOnce(router int, a api.Addr) int {
	if _, round := m.chain(router, a); round {
		return 1
	}
	return 0
}

// valid is a network, if it is valid with what was added to it, else the one ahead.
func valid(with, ahead api.Config) api.Config {
	if conf.Valid(with) != nil {
		return ahead
	}
	return with
}

// drawn is a valid network of chance: links beside, within and upon one another; routes mostly by addresses that some router has; few things to join.
func drawn(r *rand.Rand) (c api.Config) {
	for i := range 1 + r.Intn(7) {
		c.Routers = append(c.Routers, api.Router{Name: "r" + strconv.Itoa(i)})
	}
	for i := range 1 + r.Intn(5) {
		p := of(api.Addr(10+r.Intn(3))<<24+api.Addr(r.Intn(2))<<16, 8+r.Intn(3)*4)
		c.Links = append(c.Links, api.Link{Name: "l" + strconv.Itoa(i), Prefix: p})
	}
	for range r.Intn(20) {
		link := r.Intn(len(c.Links))
		d := c
		d.Ports = append(c.Ports[:len(c.Ports):len(c.Ports)], api.Port{Router: r.Intn(len(c.Routers)), Link: link, Addr: nearby(r, c, link)})
		c = valid(d, c)
	}
	for range r.Intn(40) {
		to := of(someone(r, c), []int{0, 6, 8, 12, 16, 24, 32}[r.Intn(7)])
		d := c
		d.Routes = append(c.Routes[:len(c.Routes):len(c.Routes)], api.Route{Router: r.Intn(len(c.Routers)), To: to, Via: someone(r, c), Cost: r.Intn(40000)})
		c = valid(d, c)
	}
	return joined(r, c)
}

// wound is a valid network of chance whose routers are on one link and go to three others by one another: some of these ways go round.
func wound(r *rand.Rand) (c api.Config) {
	for i := range 4 {
		c.Links = append(c.Links, api.Link{Name: "l" + strconv.Itoa(i), Prefix: of(api.Addr(10+10*i)<<24, 8)})
	}
	many := 2 + r.Intn(6)
	for i := range many {
		c.Routers = append(c.Routers, api.Router{Name: "r" + strconv.Itoa(i)})
		c.Ports = append(c.Ports, api.Port{Router: i, Addr: 10<<24 + api.Addr(i+1)})
		for _, l := range c.Links[1:] {
			if r.Intn(3) > 0 {
				c.Routes = append(c.Routes, api.Route{Router: i, To: l.Prefix, Via: 10<<24 + api.Addr(1+r.Intn(many))})
			}
		}
	}
	return joined(r, c)
}

// joined is a network with some sources, members and ranges of chance.
func joined(r *rand.Rand, c api.Config) api.Config {
	for range r.Intn(3) {
		link := r.Intn(len(c.Links))
		d := c
		d.Sources = append(c.Sources[:len(c.Sources):len(c.Sources)], api.Source{Link: link, Key: api.Key{Source: nearby(r, c, link), Group: firstGroup + api.Addr(r.Intn(4))}})
		c = valid(d, c)
	}
	for range r.Intn(3) {
		one := api.Member{Link: r.Intn(len(c.Links)), Group: firstGroup, Only: r.Intn(2) == 0}
		for range r.Intn(3) {
			one.Sources = append(one.Sources, someone(r, c))
		}
		d := c
		d.Members = append(c.Members[:len(c.Members):len(c.Members)], one)
		c = valid(d, c)
	}
	for range r.Intn(3) {
		d := c
		d.Ranges = append(c.Ranges[:len(c.Ranges):len(c.Ranges)], api.Range{Groups: of(firstGroup, 4+4*r.Intn(8)), Root: someone(r, c)})
		c = valid(d, c)
	}
	return c
}

// nearby is an address of a link.
func nearby(r *rand.Rand, c api.Config, link int) api.Addr {
	return c.Links[link].Prefix.Addr + api.Addr(1+r.Intn(30))
}

// someone is mostly a port's address, or one of a link, or one beside all links.
func someone(r *rand.Rand, c api.Config) api.Addr {
	switch n := r.Intn(10); {
	case n < 6 && len(c.Ports) > 0:
		return c.Ports[r.Intn(len(c.Ports))].Addr
	case n < 8:
		return nearby(r, c, r.Intn(len(c.Links)))
	}
	return api.Addr(12+r.Intn(4))<<24 + api.Addr(1+r.Intn(3))
}

// around are addresses at the ends of all prefixes of a network, those of ports, next hops, sources, roots and lists, and some that are groups or of all bits alike.
func around(c api.Config) []api.Addr {
	all := []api.Addr{0, 1, firstGroup, pastGroups, math.MaxUint32}
	for _, l := range c.Links {
		all = append(all, l.Prefix.Addr, l.Prefix.Addr-1, final(l.Prefix), final(l.Prefix)+1)
	}
	for _, p := range c.Ports {
		all = append(all, p.Addr)
	}
	for _, r := range c.Routes {
		all = append(all, r.To.Addr, final(r.To), r.Via)
	}
	for _, s := range c.Sources {
		all = append(all, s.Key.Source)
	}
	for _, m := range c.Members {
		all = append(all, m.Sources...)
	}
	for _, r := range c.Ranges {
		all = append(all, r.Root)
	}
	return all
}
