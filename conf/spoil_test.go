package conf_test

import (
	"math"

	"rivulet/api"
)

// spoiler makes one item of a list of most's wrong; its class is the place of its error in the chapter's sentence.
type spoiler struct {
	what  string
	class int
	err   error
	later bool // only behind another item
	put   func(c *api.Config, i int)
}

// spoilers are the ways in which an item of the list is wrong, in the order of the classes.
func (l list) spoilers() []spoiler {
	switch l {
	case routers:
		return routerSpoilers()
	case links:
		return linkSpoilers()
	case ports:
		return portSpoilers()
	case routes:
		return routeSpoilers()
	case ranges:
		return rangeSpoilers()
	case sources:
		return sourceSpoilers()
	}
	return memberSpoilers()
}

// noNames are no names.
func noNames() []string {
	return []string{"", "9", "-a", "A", "a b", "a\n", "\u00e4", "abcdefghijklm"}
}

// noCosts are numbers that are no costs.
func noCosts() []int {
	return []int{-1, 65536, 1 << 16 << 16, math.MinInt, math.MaxInt}
}

// noPlaces are numbers that are no places of so many.
func noPlaces(n int) []int {
	return []int{-1, n, n + 1, 1 << 32, -1 << 32, math.MinInt, math.MaxInt}
}

// noPrefixes are prefixes that are not valid.
func noPrefixes() []api.Prefix {
	return []api.Prefix{
		{Bits: -1}, {Bits: 33}, {Bits: math.MinInt}, {Bits: math.MaxInt}, {Addr: 1, Bits: 31}, {Addr: 1}, {Addr: 1 << 31},
		{Addr: 0xe0000000, Bits: -1}, {Addr: 0xe0000000, Bits: 33}, {Addr: 0xe0000000, Bits: 2}, {Addr: 0xe0000001, Bits: 4}, {Addr: 0xefffffff, Bits: 31},
	}
}

// manyAddrs are addresses of groups, and 0.
func manyAddrs() []api.Addr {
	return []api.Addr{0, 0xe0000000, 0xe8000001, 0xefffffff}
}

// noGroups are addresses of no group.
func noGroups() []api.Addr {
	return []api.Addr{0, 1, 0x0a000001, 0xdfffffff, 0xf0000000, 0xffffffff}
}

func routerSpoilers() (all []spoiler) {
	for _, name := range noNames() {
		all = append(all, spoiler{"no name", 1, api.ErrName, false, func(c *api.Config, i int) { c.Routers[i].Name = name }})
	}
	all = append(all,
		spoiler{"the first's name", 2, api.ErrTwice, true, func(c *api.Config, i int) { c.Routers[i].Name = c.Routers[0].Name }},
		spoiler{"the name ahead", 2, api.ErrTwice, true, func(c *api.Config, i int) { c.Routers[i].Name = c.Routers[i-1].Name }})
	for _, n := range noCosts() {
		all = append(all, spoiler{"no rank", 3, api.ErrRange, false, func(c *api.Config, i int) { c.Routers[i].Rank = n }})
	}
	return all
}

func linkSpoilers() (all []spoiler) {
	for _, name := range noNames() {
		all = append(all, spoiler{"no name", 1, api.ErrName, false, func(c *api.Config, i int) { c.Links[i].Name = name }})
	}
	all = append(all,
		spoiler{"the first's name", 2, api.ErrTwice, true, func(c *api.Config, i int) { c.Links[i].Name = c.Links[0].Name }},
		spoiler{"the name ahead", 2, api.ErrTwice, true, func(c *api.Config, i int) { c.Links[i].Name = c.Links[i-1].Name }})
	for _, p := range noPrefixes() {
		all = append(all, spoiler{"no prefix", 3, api.ErrRange, false, func(c *api.Config, i int) { c.Links[i].Prefix = p }})
	}
	for _, p := range []api.Prefix{{Addr: 0xe0000000, Bits: 4}, {Addr: 0xe0000000, Bits: 3}, {}, {Addr: 0xe0000000, Bits: 32}, {Addr: 0xefffffff, Bits: 32}} {
		all = append(all, spoiler{"groups", 4, api.ErrKind, false, func(c *api.Config, i int) { c.Links[i].Prefix = p }})
	}
	return all
}

// behind is the first address behind a link's.
func behind(l api.Link) api.Addr {
	return l.Prefix.Addr + 1<<(32-l.Prefix.Bits)
}

// strange is a router that is not on a link.
func strange(c *api.Config, link int) int {
	on := map[int]int{}
	for _, p := range c.Ports {
		if p.Link == link {
			on[p.Router] = 1
		}
	}
	for r := range c.Routers {
		if on[r] == 0 {
			return r
		}
	}
	panic("all routers are on that link")
}

func portSpoilers() (all []spoiler) {
	for _, n := range noPlaces(16) {
		all = append(all, spoiler{"no router", 1, api.ErrNone, false, func(c *api.Config, i int) { c.Ports[i].Router = n }})
	}
	for _, n := range noPlaces(24) {
		all = append(all, spoiler{"no link", 1, api.ErrNone, false, func(c *api.Config, i int) { c.Ports[i].Link = n }})
	}
	return append(all,
		spoiler{"the address 0", 2, api.ErrAway, false, func(c *api.Config, i int) { c.Ports[i].Addr = 0 }},
		spoiler{"ahead of the link", 2, api.ErrAway, false, func(c *api.Config, i int) { c.Ports[i].Addr = c.Links[c.Ports[i].Link].Prefix.Addr - 1 }},
		spoiler{"behind the link", 2, api.ErrAway, false, func(c *api.Config, i int) { c.Ports[i].Addr = behind(c.Links[c.Ports[i].Link]) }},
		spoiler{"the first's address", 3, api.ErrTwice, true, func(c *api.Config, i int) {
			c.Ports[i] = api.Port{Router: strange(c, c.Ports[0].Link), Link: c.Ports[0].Link, Addr: c.Ports[0].Addr}
		}},
		spoiler{"the address ahead", 3, api.ErrTwice, true, func(c *api.Config, i int) {
			c.Ports[i] = api.Port{Router: strange(c, c.Ports[i-1].Link), Link: c.Ports[i-1].Link, Addr: c.Ports[i-1].Addr}
		}},
		spoiler{"the first's place", 3, api.ErrTwice, true, func(c *api.Config, i int) {
			c.Ports[i] = api.Port{Router: c.Ports[0].Router, Link: c.Ports[0].Link, Addr: c.Links[c.Ports[0].Link].Prefix.Addr + 9}
		}},
		spoiler{"the place ahead", 3, api.ErrTwice, true, func(c *api.Config, i int) {
			c.Ports[i] = api.Port{Router: c.Ports[i-1].Router, Link: c.Ports[i-1].Link, Addr: c.Links[c.Ports[i-1].Link].Prefix.Addr + 9}
		}})
}

func routeSpoilers() (all []spoiler) {
	for _, n := range noPlaces(16) {
		all = append(all, spoiler{"no router", 1, api.ErrNone, false, func(c *api.Config, i int) { c.Routes[i].Router = n }})
	}
	for _, p := range noPrefixes() {
		all = append(all, spoiler{"no prefix", 2, api.ErrRange, false, func(c *api.Config, i int) { c.Routes[i].To = p }})
	}
	for _, n := range noCosts() {
		all = append(all, spoiler{"no cost", 2, api.ErrRange, false, func(c *api.Config, i int) { c.Routes[i].Cost = n }})
	}
	for _, a := range manyAddrs() {
		all = append(all, spoiler{"no next hop", 3, api.ErrKind, false, func(c *api.Config, i int) { c.Routes[i].Via = a }})
	}
	return all
}

func rangeSpoilers() (all []spoiler) {
	for _, p := range noPrefixes() {
		all = append(all, spoiler{"no prefix", 1, api.ErrRange, false, func(c *api.Config, i int) { c.Ranges[i].Groups = p }})
	}
	for _, p := range []api.Prefix{{}, {Addr: 10 << 24, Bits: 8}, {Addr: 0xdfffffff, Bits: 32}, {Addr: 0xf0000000, Bits: 32}, {Addr: 0xe0000000, Bits: 3}, {Addr: 0xf0000000, Bits: 4}, {Addr: 0xd0000000, Bits: 4}} {
		all = append(all, spoiler{"no groups", 2, api.ErrKind, false, func(c *api.Config, i int) { c.Ranges[i].Groups = p }})
	}
	for _, a := range manyAddrs() {
		all = append(all, spoiler{"no root", 2, api.ErrKind, false, func(c *api.Config, i int) { c.Ranges[i].Root = a }})
	}
	return append(all,
		spoiler{"the first's groups", 3, api.ErrTwice, true, func(c *api.Config, i int) { c.Ranges[i].Groups = c.Ranges[0].Groups }},
		spoiler{"the groups ahead", 3, api.ErrTwice, true, func(c *api.Config, i int) { c.Ranges[i].Groups = c.Ranges[i-1].Groups }})
}

func sourceSpoilers() (all []spoiler) {
	for _, n := range noPlaces(24) {
		all = append(all, spoiler{"no link", 1, api.ErrNone, false, func(c *api.Config, i int) { c.Sources[i].Link = n }})
	}
	all = append(all,
		spoiler{"the address 0", 2, api.ErrAway, false, func(c *api.Config, i int) { c.Sources[i].Key.Source = 0 }},
		spoiler{"ahead of the link", 2, api.ErrAway, false, func(c *api.Config, i int) {
			c.Sources[i].Key.Source = c.Links[c.Sources[i].Link].Prefix.Addr - 1
		}},
		spoiler{"behind the link", 2, api.ErrAway, false, func(c *api.Config, i int) { c.Sources[i].Key.Source = behind(c.Links[c.Sources[i].Link]) }})
	for _, a := range noGroups() {
		all = append(all, spoiler{"no group", 3, api.ErrKind, false, func(c *api.Config, i int) { c.Sources[i].Key.Group = a }})
	}
	return append(all,
		spoiler{"the first port's address", 4, api.ErrTwice, false, func(c *api.Config, i int) {
			c.Sources[i].Link, c.Sources[i].Key.Source = c.Ports[0].Link, c.Ports[0].Addr
		}},
		spoiler{"the last port's address", 4, api.ErrTwice, false, func(c *api.Config, i int) {
			c.Sources[i].Link, c.Sources[i].Key.Source = c.Ports[63].Link, c.Ports[63].Addr
		}},
		spoiler{"the first's key", 4, api.ErrTwice, true, func(c *api.Config, i int) { c.Sources[i] = c.Sources[0] }},
		spoiler{"the key ahead", 4, api.ErrTwice, true, func(c *api.Config, i int) { c.Sources[i] = c.Sources[i-1] }},
		spoiler{"the first's address on another link", 4, api.ErrTwice, true, func(c *api.Config, i int) { elsewhere(c, i, 0) }},
		spoiler{"the address ahead on another link", 4, api.ErrTwice, true, func(c *api.Config, i int) { elsewhere(c, i, i-1) }})
}

// elsewhere gives a source another one's address, on the last link, which it makes one of all links' addresses.
func elsewhere(c *api.Config, i, other int) {
	c.Links[23].Prefix = api.Prefix{Addr: 0xc0000000, Bits: 3}
	c.Sources[i] = api.Source{Link: 23, Key: api.Key{Source: c.Sources[other].Key.Source, Group: 0xe9000000}}
}

func memberSpoilers() (all []spoiler) {
	for _, n := range noPlaces(24) {
		all = append(all, spoiler{"no link", 1, api.ErrNone, false, func(c *api.Config, i int) { c.Members[i].Link = n }})
	}
	for _, a := range noGroups() {
		all = append(all, spoiler{"no group", 2, api.ErrKind, false, func(c *api.Config, i int) { c.Members[i].Group = a }})
	}
	for _, a := range manyAddrs() {
		for _, list := range [][]api.Addr{{a}, {a, 1, 2, 3}, {1, 2, 3, a}, {1, 2, 3, 4, a}, {1, 2, 3, 4, 5, 6, 7, a}, {1, 1, a}, {a, a}} {
			all = append(all, spoiler{"no source", 2, api.ErrKind, false, func(c *api.Config, i int) { c.Members[i].Sources = list }})
		}
	}
	for _, list := range [][]api.Addr{{1, 2, 3, 4, 5}, {1, 2, 3, 4, 5, 6}, {1, 1, 1, 1, 1}, {1, 2, 3, 4, 1}, make5000()} {
		all = append(all, spoiler{"too many sources", 3, api.ErrMany, false, func(c *api.Config, i int) { c.Members[i].Sources = list }})
	}
	for _, list := range [][]api.Addr{{1, 1}, {1, 1, 2}, {1, 2, 1}, {2, 1, 1}, {1, 1, 2, 3}, {1, 2, 3, 1}, {3, 1, 2, 2}, {3, 1, 2, 1}, {1, 1, 1, 1}} {
		all = append(all, spoiler{"a source twice", 4, api.ErrTwice, false, func(c *api.Config, i int) { c.Members[i].Sources = list }})
	}
	return all
}

// make5000 are 5000 addresses, none twice.
func make5000() []api.Addr {
	list := make([]api.Addr, 5000)
	for i := range list {
		list[i] = api.Addr(i + 1)
	}
	return list
}
