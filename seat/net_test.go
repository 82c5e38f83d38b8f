package seat_test

import (
	"math"
	"math/rand"
	"slices"
	"strconv"
	"testing"

	"rivulet/api"
	"rivulet/conf"
	"rivulet/topo"
)

// made is who is where in a network, which has to be valid.
func made(t testing.TB, c api.Config) *topo.Topo {
	t.Helper()
	x, err := topo.New(c)
	if err != nil {
		t.Fatalf("New: %v", err)
	}
	return x
}

// network is who is where in the network that a text tells.
func network(t testing.TB, s string) *topo.Topo {
	t.Helper()
	c, err := conf.Parse(s)
	if err != nil {
		t.Fatalf("Parse(%q): %v", s, err)
	}
	return made(t, c)
}

// noLinks are places that are no link's, of so many links.
func noLinks(n int) []int {
	return []int{math.MinInt, math.MinInt32, -n - 1, -n, -2, -1, n, n + 1, 2*n + 1, 1 << 32, math.MaxInt32, math.MaxInt}
}

// speaker is the port that speaks for a link, by one number a port, in which its router's rank weighs more than all addresses; -1, if the link has no port.
func speaker(c api.Config, link int) int {
	port, most := -1, -1
	for i, p := range c.Ports {
		if weight := c.Routers[p.Router].Rank<<32 + int(p.Addr); p.Link == link && weight > most {
			port, most = i, weight
		}
	}
	return port
}

// drawn is a valid network of chance, with few ranks, so that many are alike, and with links that have many ports and links that have none.
func drawn(r *rand.Rand) (c api.Config) {
	ranks := []int{0, 1, 2, 10, api.MaxCost}[:1+r.Intn(5)]
	for i := range r.Intn(api.MaxRouters + 1) {
		c.Routers = append(c.Routers, api.Router{Name: "r" + strconv.Itoa(i), Rank: ranks[r.Intn(len(ranks))]})
	}
	for i := range r.Intn(api.MaxLinks + 1) {
		// Several have the same prefix, or one within another: then their ports' addresses are mixed.
		p := api.Prefix{Addr: api.Addr(60*r.Intn(4)) << 24, Bits: 8 * (1 + r.Intn(2))}
		c.Links = append(c.Links, api.Link{Name: "l" + strconv.Itoa(i), Prefix: p})
	}
	if len(c.Links) == 0 {
		return c
	}
	addrs := r.Perm(1<<16 - 1)
	// The links behind these stay without ports.
	links := 1 + r.Intn(len(c.Links))
	for range r.Intn(2 * api.MaxPorts) {
		if len(c.Routers) == 0 || len(c.Ports) == api.MaxPorts {
			break
		}
		link := r.Intn(links)
		p := api.Port{Router: r.Intn(len(c.Routers)), Link: link, Addr: c.Links[link].Prefix.Addr + 1 + api.Addr(addrs[len(c.Ports)])}
		d := c
		// A router that is on that link already isn't put there again.
		if d.Ports = append(slices.Clone(c.Ports), p); conf.Valid(d) == nil {
			c = d
		}
	}
	return c
}
