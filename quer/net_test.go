package quer_test

import (
	"math"
	"math/rand"
	"strconv"
	"testing"

	"rivulet/api"
	"rivulet/conf"
	"rivulet/topo"
)

// made is who is where in a network, which has to be valid.
func made(t testing.TB, c api.Config) *topo.Topo {
	t.Helper()
	x, err := topo.New(c)
	if err != nil {
		t.Fatalf("New: %v", err)
	}
	return x
}

// network is who is where in the network that a text tells.
func network(t testing.TB, s string) *topo.Topo {
	t.Helper()
	c, err := conf.Parse(s)
	if err != nil {
		t.Fatalf("Parse(%q): %v", s, err)
	}
	return made(t, c)
}

// noLinks are places that are no link's, of so many links.
func noLinks(n int) []int {
	return []int{math.MinInt, math.MinInt32, -n - 1, -n, -2, -1, n, n + 1, 2*n + 1, 1 << 32, math.MaxInt32, math.MaxInt}
}

// asker is the port on a link by whose address there is no lesser one there; -1, if the link has no port.
func asker(c api.Config, link int) int {
	for i, p := range c.Ports {
		lesser := 0
		for _, q := range c.Ports {
			if q.Link == link && q.Addr < p.Addr {
				lesser++
			}
		}
		if p.Link == link && lesser == 0 {
			return i
		}
	}
	return -1
}

// drawn is a valid network of chance, whose links have many ports, one or none, their addresses in any order.
func drawn(r *rand.Rand) (c api.Config) {
	for i := range 1 + r.Intn(api.MaxRouters) {
		c.Routers = append(c.Routers, api.Router{Name: "r" + strconv.Itoa(i), Rank: r.Intn(3)})
	}
	for i := range 1 + r.Intn(api.MaxLinks) {
		// Several have the same prefix: then the addresses of their ports are mixed.
		p := api.Prefix{Addr: api.Addr(50*r.Intn(5)) << 24, Bits: 8}
		c.Links = append(c.Links, api.Link{Name: "l" + strconv.Itoa(i), Prefix: p})
	}
	// The links behind these stay without ports.
	links, most := 1+r.Intn(len(c.Links)), r.Intn(api.MaxPorts+1)
	addrs := r.Perm(1 << 12)
	for _, place := range r.Perm(len(c.Routers) * links) {
		if len(c.Ports) == most {
			break
		}
		link := place % links
		a := c.Links[link].Prefix.Addr + 1 + api.Addr(addrs[len(c.Ports)])
		c.Ports = append(c.Ports, api.Port{Router: place / links, Link: link, Addr: a})
	}
	return c
}
