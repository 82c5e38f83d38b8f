package root_test

import (
	"math"
	"math/rand"
	"strconv"
	"testing"

	"rivulet/addr"
	"rivulet/api"
	"rivulet/conf"
	"rivulet/topo"
)

// The first and the last address that is a group.
const (
	firstGroup = api.Addr(224) << 24
	lastGroup  = api.Addr(240)<<24 - 1
)

// many is how many addresses a valid prefix has.
func many(p api.Prefix) uint64 { return 1 << (32 - p.Bits) }

// within tells whether an address is one of those of a prefix: from its first one on, so many as there are.
func within(p api.Prefix, a api.Addr) bool {
	return a >= p.Addr && uint64(a-p.Addr) < many(p)
}

// of is the prefix of that many bits in which an address is.
func of(a api.Addr, bits int) api.Prefix {
	p := api.Prefix{Bits: bits}
	p.Addr = a - api.Addr(uint64(a)%many(p))
	return p
}

// ends are the first and the last address of a prefix, with those on both sides of each.
func ends(p api.Prefix) []api.Addr {
	first, final := p.Addr, p.Addr+api.Addr(many(p)-1)
	return []api.Addr{first - 1, first, first + 1, final - 1, final, final + 1}
}

// made is who is where in a network, which has to be valid.
func made(t testing.TB, c api.Config) *topo.Topo {
	t.Helper()
	x, err := topo.New(c)
	if err != nil {
		t.Fatalf("New: %v", err)
	}
	return x
}

// network is who is where in the network that a text tells.
func network(t testing.TB, s string) *topo.Topo {
	t.Helper()
	c, err := conf.Parse(s)
	if err != nil {
		t.Fatalf("Parse(%q): %v", s, err)
	}
	return made(t, c)
}

// number is the address that a text tells.
func number(t testing.TB, s string) api.Addr {
	t.Helper()
	a, err := addr.Parse(s)
	if err != nil {
		t.Fatalf("Parse(%q): %v", s, err)
	}
	return a
}

// noRouters are places that are no router's, of so many routers.
func noRouters(n int) []int {
	return []int{math.MinInt, math.MinInt32, -n - 1, -n - 2, -2, -1, n, n + 1, 2*n + 1, 1 << 32, math.MaxInt32, math.MaxInt}
}

// model is a network, asked item by item, in the chapter's words.
type model struct {
	c api.Config
}

// root is the Root of the range of that many bits in which an address is, of the most bits on downwards; 0, if there is none.
func (m model) root(g api.Addr) api.Addr {
	if g < firstGroup || g > lastGroup {
		return 0
	}
	for bits := 32; bits >= 0; bits-- {
		for _, r := range m.c.Ranges {
			if r.Groups.Bits == bits && within(r.Groups, g) {
				return r.Root
			}
		}
	}
	return 0
}

// router is the router one of whose ports has a group's root's address; -1, if none has.
func (m model) router(g api.Addr) int {
	a := m.root(g)
	for _, p := range m.c.Ports {
		if a != 0 && p.Addr == a {
			return p.Router
		}
	}
	return -1
}

// drawn is a valid network of chance, with ranges within one another and beside, whose roots are ports' addresses or none's.
func drawn(r *rand.Rand) (c api.Config) {
	for i := range 1 + r.Intn(4) {
		c.Routers = append(c.Routers, api.Router{Name: "r" + strconv.Itoa(i)})
	}
	for i := range 1 + r.Intn(4) {
		c.Links = append(c.Links, api.Link{Name: "l" + strconv.Itoa(i), Prefix: of(api.Addr(10+i)<<24, 8)})
	}
	for range r.Intn(12) {
		link := r.Intn(len(c.Links))
		a := c.Links[link].Prefix.Addr + api.Addr(1+r.Intn(20))
		c.Ports = append(c.Ports, api.Port{Router: r.Intn(len(c.Routers)), Link: link, Addr: a})
		if conf.Valid(c) != nil {
			c.Ports = c.Ports[:len(c.Ports)-1]
		}
	}
	asked := []api.Addr{firstGroup + api.Addr(r.Intn(1<<28))}
	for range r.Intn(api.MaxRanges + 1) {
		// Each one differs from one ahead of it in one bit: they have few bits or many in common.
		g := asked[r.Intn(len(asked))] ^ 1<<r.Intn(28)
		asked = append(asked, g)
		c.Ranges = append(c.Ranges, api.Range{Groups: of(g, 4+r.Intn(29)), Root: someRoot(r, c)})
		if conf.Valid(c) != nil {
			c.Ranges = c.Ranges[:len(c.Ranges)-1]
		}
	}
	return c
}

// someRoot is a port's address, or one near ports', or one of chance.
func someRoot(r *rand.Rand, c api.Config) api.Addr {
	switch n := r.Intn(8); {
	case n < 5 && len(c.Ports) > 0:
		return c.Ports[r.Intn(len(c.Ports))].Addr
	case n < 7:
		return api.Addr(10+r.Intn(5))<<24 + api.Addr(1+r.Intn(20))
	}
	return 1 + api.Addr(r.Int63n(int64(firstGroup)-1))
}

// around are addresses at the ends of all ranges of a network, those of its ports and roots, and those at the ends of the groups.
func around(c api.Config) []api.Addr {
	all := []api.Addr{0, 1, firstGroup - 1, firstGroup, lastGroup, lastGroup + 1, math.MaxUint32}
	for _, r := range c.Ranges {
		all = append(append(all, ends(r.Groups)...), r.Root)
	}
	for _, p := range c.Ports {
		all = append(all, p.Addr)
	}
	return all
}
