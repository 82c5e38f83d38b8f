package topo_test

import (
	"math/rand"
	"strconv"
	"testing"

	"rivulet/api"
	"rivulet/conf"
	"rivulet/topo"
)

// written is a network with what there may be: several routers on one link, a router on several links,
// ports that are neither in the order of the routers nor in that of the links or of the addresses,
// a router without ports, links without ports, and links without members.
const written = `router a 1
router b 2
router lone 3
router c 4
link wide 10.1.0.0/16
link empty 10.2.0.0/16
link pair 10.3.0.0/16
link inner 10.1.4.0/24
link bare 10.5.0.0/16
link stub 10.6.0.0/16
port c wide 10.1.0.9
port a pair 10.3.0.7
port a wide 10.1.255.255
port b inner 10.1.4.4
port b wide 10.1.4.5
port c pair 10.3.0.1
port a stub 10.6.0.1
source pair 10.3.0.9 239.0.0.2
source bare 10.5.0.1 224.1.1.1
source pair 10.3.0.9 224.1.1.1
source wide 10.1.0.8 239.255.255.255
member bare 232.0.0.1 only 10.3.0.9
member wide 239.0.0.2 but
member bare 224.0.0.0 but 10.3.0.9 10.5.0.1
member pair 239.0.0.2 only
member wide 239.0.0.2 only 10.3.0.9
member empty 225.0.0.1 but
member wide 232.0.0.1 but
`

// parsed is the network that a text tells.
func parsed(t testing.TB, s string) api.Config {
	t.Helper()
	c, err := conf.Parse(s)
	if err != nil {
		t.Fatalf("Parse(%q): %v", s, err)
	}
	return c
}

// made is who is where in a network, which has to be valid.
func made(t testing.TB, c api.Config) *topo.Topo {
	t.Helper()
	x, err := topo.New(c)
	if err != nil || x == nil {
		t.Fatalf("New of\n%s= %v, %v", conf.Text(c), x, err)
	}
	return x
}

// full is a network that has as much as may be of all.
func full() api.Config {
	var c api.Config
	for i := range api.MaxRouters {
		c.Routers = append(c.Routers, api.Router{Name: "r" + strconv.Itoa(i), Rank: i})
	}
	for i := range api.MaxLinks {
		c.Links = append(c.Links, api.Link{Name: "l" + strconv.Itoa(i), Prefix: api.Prefix{Addr: api.Addr(i+1) << 24, Bits: 8}})
	}
	for i := range api.MaxPorts {
		// 7 and 24 have no divisor in common: a router's four ports are on four links.
		link := (i%16 + i/16*7) % 24
		c.Ports = append(c.Ports, api.Port{Router: i % 16, Link: link, Addr: api.Addr(link+1)<<24 + api.Addr(100-i)})
	}
	for i := range api.MaxRoutes {
		c.Routes = append(c.Routes, api.Route{Router: i % 16, Via: api.Addr(i + 1), Cost: i})
	}
	for i := range api.MaxRanges {
		c.Ranges = append(c.Ranges, api.Range{Groups: api.Prefix{Addr: 0xe0000000 + api.Addr(i), Bits: 32}, Root: 1})
	}
	for i := range api.MaxSources {
		c.Sources = append(c.Sources, api.Source{Link: 23 - i, Key: api.Key{Source: api.Addr(24-i)<<24 + 200, Group: 0xe8000000 - api.Addr(i)}})
	}
	for i := range api.MaxMembers {
		c.Members = append(c.Members, api.Member{Link: i * 5 % 7, Group: 0xefffffff - api.Addr(i*7%24), Sources: []api.Addr{1, 2, 3, 4}})
	}
	return c
}

// drawn is a valid network of chance: few or many of each thing.
func drawn(r *rand.Rand) (c api.Config) {
	for i := range r.Intn(api.MaxRouters + 1) {
		c.Routers = append(c.Routers, api.Router{Name: "r" + strconv.Itoa(i)})
	}
	for i, place := range r.Perm(r.Intn(api.MaxLinks + 1)) {
		c.Links = append(c.Links, api.Link{Name: "l" + strconv.Itoa(i), Prefix: api.Prefix{Addr: api.Addr(place) << 24, Bits: 8}})
	}
	if len(c.Links) == 0 {
		return c
	}
	most := r.Intn(api.MaxPorts + 1)
	for i, place := range r.Perm(len(c.Routers) * len(c.Links)) {
		if i == most {
			break
		}
		link := place % len(c.Links)
		c.Ports = append(c.Ports, api.Port{Router: place / len(c.Links), Link: link, Addr: c.Links[link].Prefix.Addr + api.Addr(place) + 1})
	}
	for i := range r.Intn(api.MaxSources + 1) {
		link := r.Intn(len(c.Links))
		// The groups of one source are several, and those of several sources may be one.
		key := api.Key{Source: c.Links[link].Prefix.Addr + 9999, Group: 0xe0000000 + api.Addr(i*5%8/2)}
		if c.Sources = append(c.Sources, api.Source{Link: link, Key: key}); conf.Valid(c) != nil {
			c.Sources = c.Sources[:len(c.Sources)-1]
		}
	}
	for range r.Intn(api.MaxMembers + 1) {
		m := api.Member{Link: r.Intn(len(c.Links)), Group: 0xe0000000 + api.Addr(r.Intn(12)), Only: r.Intn(2) == 0}
		for s := range r.Intn(api.MaxListed + 1) {
			m.Sources = append(m.Sources, api.Addr(s+1))
		}
		c.Members = append(c.Members, m)
	}
	return c
}
