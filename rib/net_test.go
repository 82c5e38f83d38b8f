package rib_test

import (
	"fmt"
	"math"
	"math/rand"
	"strconv"
	"strings"
	"testing"

	"rivulet/addr"
	"rivulet/api"
	"rivulet/conf"
	"rivulet/rib"
	"rivulet/topo"
)

// digits are an address's 32 bits, written out.
func digits(a api.Addr) string { return fmt.Sprintf("%032b", uint32(a)) }

// address is the address that such digits write; those that lack at the end are all the digit behind.
func address(s, behind string) (a api.Addr) {
	for _, digit := range s + strings.Repeat(behind, 32-len(s)) {
		a = 2*a + api.Addr(digit-'0')
	}
	return a
}

// of is the prefix of that many bits in which an address is.
func of(a api.Addr, bits int) api.Prefix {
	return api.Prefix{Addr: address(digits(a)[:bits], "0"), Bits: bits}
}

// within tells whether an address is one of those of a prefix: from its first one on, so many as there are.
func within(p api.Prefix, a api.Addr) bool {
	first, many := uint64(p.Addr), uint64(1)<<(32-p.Bits)
	return uint64(a) >= first && uint64(a) < first+many
}

// ends are the first and the last address of a prefix, with those on both sides of each.
func ends(p api.Prefix) []api.Addr {
	s := digits(p.Addr)[:p.Bits]
	first, final := address(s, "0"), address(s, "1")
	return []api.Addr{first - 1, first, first + 1, final - 1, final, final + 1}
}

// parsed is the network that a text tells.
func parsed(t testing.TB, s string) api.Config {
	t.Helper()
	c, err := conf.Parse(s)
	if err != nil {
		t.Fatalf("Parse(%q): %v", s, err)
	}
	return c
}

// made is who is where in a network, which has to be valid.
func made(t testing.TB, c api.Config) *topo.Topo {
	t.Helper()
	x, err := topo.New(c)
	if err != nil {
		t.Fatalf("New: %v", err)
	}
	return x
}

// network is who is where in the network that a text tells.
func network(t testing.TB, s string) *topo.Topo {
	t.Helper()
	return made(t, parsed(t, s))
}

// number is the address that a text tells.
func number(t testing.TB, s string) api.Addr {
	t.Helper()
	a, err := addr.Parse(s)
	if err != nil {
		t.Fatalf("Parse(%q): %v", s, err)
	}
	return a
}

// noRouters are places that are no router's, of so many routers.
func noRouters(n int) []int {
	return []int{math.MinInt, math.MinInt32, -n - 1, -n, -2, -1, n, n + 1, 2*n + 1, 1 << 32, math.MaxInt32, math.MaxInt}
}

// model is a network, asked item by item, in the chapter's words.
type model struct {
	c api.Config
}

// connected is the first of the router's ports with the most bits, and how many bits; -1, if there is none.
func (m model) connected(router int, a api.Addr) (port, bits int) {
	port, bits = -1, -1
	for i, p := range m.c.Ports {
		prefix := m.c.Links[p.Link].Prefix
		if p.Router == router && within(prefix, a) && prefix.Bits > bits {
			port, bits = i, prefix.Bits
		}
	}
	return port, bits
}

// routes are the router's routes to an address with that many bits.
func (m model) routes(router int, a api.Addr, bits int) (list []int) {
	for i, r := range m.c.Routes {
		if r.Router == router && r.To.Bits == bits && within(r.To, a) {
			list = append(list, i)
		}
	}
	return list
}

// longest are the router's routes to an address with the most bits, and how many bits; -1, if there is none.
func (m model) longest(router int, a api.Addr) ([]int, int) {
	for bits := 32; bits >= 0; bits-- {
		if list := m.routes(router, a, bits); list != nil {
			return list, bits
		}
	}
	return nil, -1
}

// look is the router's way, and how many routes are behind one another in it, if no more than most are; below 0: no way.
func (m model) look(router int, a api.Addr, most int) (rib.Way, int) {
	port, bits := m.connected(router, a)
	list, longest := m.longest(router, a)
	if port >= 0 && bits >= longest {
		return rib.Way{Port: port}, 0
	}
	if list == nil {
		return rib.Way{}, none
	}
	if most == 0 {
		return rib.Way{}, tooDeep
	}
	cost := math.MaxInt
	for _, i := range list {
		cost = min(cost, m.c.Routes[i].Cost)
	}
	for _, i := range list {
		if r := m.c.Routes[i]; r.Cost == cost {
			return m.behind(router, r, most-1)
		}
	}
	panic("no route has the least cost of all")
}

// Why a model finds no way.
const (
	none    = -1
	tooDeep = -2
)

// behind is the way by a route, with at most so many routes behind it.
func (m model) behind(router int, r api.Route, most int) (rib.Way, int) {
	w, deep := m.look(router, r.Via, most)
	if deep < 0 {
		return rib.Way{}, deep
	}
	if w.Via == 0 {
		w.Via = r.Via
	}
	w.Cost += r.Cost
	if w.Cost > 65535 {
		w.Cost = 65535
	}
	return w, deep + 1
}

// pool are addresses each of which differs in one bit from one ahead of it: they have few bits or many in common.
func pool(r *rand.Rand, n int) []api.Addr {
	all := []api.Addr{api.Addr(r.Uint32())}
	for len(all) < n {
		all = append(all, all[r.Intn(len(all))]^1<<r.Intn(32))
	}
	return all
}

// drawn is a valid network of chance, with the addresses of which it is made: its prefixes lie within one another, and its routes lead from one to another.
func drawn(r *rand.Rand) (c api.Config, asked []api.Addr) {
	asked = pool(r, 3+r.Intn(40))
	one := func() api.Addr { return asked[r.Intn(len(asked))] }
	for i := range 1 + r.Intn(3) {
		c.Routers = append(c.Routers, api.Router{Name: "r" + strconv.Itoa(i)})
	}
	for i := range 1 + r.Intn(6) {
		c.Links = append(c.Links, api.Link{Name: "l" + strconv.Itoa(i), Prefix: of(one(), 1+r.Intn(32))})
		if conf.Valid(c) != nil {
			c.Links = c.Links[:len(c.Links)-1]
		}
	}
	for range r.Intn(3*len(c.Links) + 1) {
		link := r.Intn(len(c.Links))
		p := c.Links[link].Prefix
		a := p.Addr | api.Addr(r.Uint64()&(1<<(32-p.Bits)-1))
		c.Ports = append(c.Ports, api.Port{Router: r.Intn(len(c.Routers)), Link: link, Addr: a})
		if conf.Valid(c) != nil {
			c.Ports = c.Ports[:len(c.Ports)-1]
		}
	}
	least, costs := r.Intn(33), 1+r.Intn(70)*r.Intn(900)
	for range r.Intn(api.MaxRoutes + 1) {
		to := of(one(), least+r.Intn(33-least))
		c.Routes = append(c.Routes, api.Route{Router: r.Intn(len(c.Routers)), To: to, Via: one(), Cost: r.Intn(costs)})
		if conf.Valid(c) != nil {
			c.Routes = c.Routes[:len(c.Routes)-1]
		}
	}
	return c, asked
}

// around are addresses at the ends of all prefixes of a network, those of ports and next hops, and the first and the last one.
func around(c api.Config) []api.Addr {
	all := []api.Addr{0, math.MaxUint32}
	for _, l := range c.Links {
		all = append(all, ends(l.Prefix)...)
	}
	for _, p := range c.Ports {
		all = append(all, p.Addr)
	}
	for _, r := range c.Routes {
		all = append(append(all, ends(r.To)...), r.Via)
	}
	return all
}
