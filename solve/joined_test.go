package solve_test

import (
	"math/rand"
	"slices"
	"strconv"

	"rivulet/api"
)

// joined is a valid network of chance in which each router has a way to each link, of as few hops as there may be, as dear as they are many; each group has a router as its root. Only: its members listen to sources that they list alone.
func joined(r *rand.Rand, only bool) api.Config {
	n := ways(r, joints(r))
	n.Ranges = []api.Range{{Groups: api.Prefix{Addr: firstGroup, Bits: 4}, Root: n.Ports[r.Intn(len(n.Ports))].Addr}}
	for range 1 + r.Intn(api.MaxSources) {
		link := r.Intn(len(n.Links))
		s := api.Source{Link: link, Key: key(nearby(r, n, link), firstGroup+api.Addr(r.Intn(2)))}
		n = valid(n, func(d *api.Config) { d.Sources = append(d.Sources, s) })
	}
	for range 1 + r.Intn(16) {
		m := api.Member{Link: r.Intn(len(n.Links)), Group: firstGroup + api.Addr(r.Intn(2)), Only: only || r.Intn(3) == 0}
		for range r.Intn(api.MaxListed) {
			if len(n.Sources) > 0 {
				m.Sources = append(m.Sources, n.Sources[r.Intn(len(n.Sources))].Key.Source)
			}
		}
		n = valid(n, func(d *api.Config) { d.Members = append(d.Members, m) })
	}
	return n
}

// joints are routers and links: each next router is on a link that is there already, each next link has a router that is, and more are on more of them.
func joints(r *rand.Rand) (n api.Config) {
	routers, links := 4+r.Intn(5), 2+r.Intn(4)
	for i := range routers {
		n.Routers = append(n.Routers, api.Router{Name: "r" + strconv.Itoa(i), Rank: r.Intn(3)})
	}
	for i := range links {
		n.Links = append(n.Links, api.Link{Name: "l" + strconv.Itoa(i), Prefix: api.Prefix{Addr: api.Addr(10+i) << 24, Bits: 8}})
	}
	n = on(r, n, 0, 0)
	for i := 1; i < max(routers, links); i++ {
		if i < routers {
			n = on(r, n, i, r.Intn(min(i, links)))
		}
		if i < links {
			n = on(r, n, r.Intn(min(i+1, routers)), i)
		}
	}
	for range r.Intn(4 * links) {
		n = on(r, n, r.Intn(routers), r.Intn(links))
	}
	return n
}

// on is a network with a router on a link, at an address that nobody has; itself, if the router is there.
func on(r *rand.Rand, n api.Config, router, link int) api.Config {
	for !isOn(n, router, link) {
		p := api.Port{Router: router, Link: link, Addr: nearby(r, n, link)}
		n = valid(n, func(d *api.Config) { d.Ports = append(d.Ports, p) })
	}
	return n
}

// isOn tells whether a router is on a link.
func isOn(n api.Config, router, link int) bool {
	return slices.ContainsFunc(n.Ports, func(p api.Port) bool { return p.Router == router && p.Link == link })
}

// ways is a network with a route of each router to each link on which it is not.
func ways(r *rand.Rand, n api.Config) api.Config {
	for link, l := range n.Links {
		far := hops(n, link)
		for router := range n.Routers {
			if far[router] == 0 {
				continue
			}
			near := nearer(n, router, far)
			via := n.Ports[near[r.Intn(len(near))]].Addr
			n.Routes = append(n.Routes, api.Route{Router: router, To: l.Prefix, Via: via, Cost: far[router]})
		}
	}
	return n
}

// hops are how many routers each router has to ask to come to a link.
func hops(n api.Config, link int) []int {
	far := make([]int, len(n.Routers))
	for router := range far {
		far[router] = api.MaxRouters
		if isOn(n, router, link) {
			far[router] = 0
		}
	}
	for range n.Routers {
		for _, p := range n.Ports {
			for _, o := range n.Ports {
				if p.Link == o.Link {
					far[p.Router] = min(far[p.Router], far[o.Router]+1)
				}
			}
		}
	}
	return far
}

// nearer are the ports of those on a router's links that have a hop less than it.
func nearer(n api.Config, router int, far []int) (l []int) {
	for i, p := range n.Ports {
		if isOn(n, router, p.Link) && far[p.Router] == far[router]-1 {
			l = append(l, i)
		}
	}
	return l
}

// astray is a network some of whose routes lead to others on the router's links, nearer or not, and so often round; of other costs.
func astray(r *rand.Rand, n api.Config) api.Config {
	for i, way := range n.Routes {
		via := n.Ports[r.Intn(len(n.Ports))]
		if isOn(n, way.Router, via.Link) {
			n.Routes[i].Via, n.Routes[i].Cost = via.Addr, r.Intn(3)
		}
	}
	return n
}
