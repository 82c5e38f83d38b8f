package conf_test

import (
	"cmp"
	"regexp"
	"slices"
	"strconv"
	"strings"

	"rivulet/api"
)

// list names one of a network's lists, by its place among them.
type list int

// The lists of a network, in their order.
const (
	routers list = iota
	links
	ports
	routes
	ranges
	sources
	members
)

// allLists are the lists of a network, in their order.
func allLists() []list {
	return []list{routers, links, ports, routes, ranges, sources, members}
}

// String is the list's name.
func (l list) String() string {
	return [...]string{"Routers", "Links", "Ports", "Routes", "Ranges", "Sources", "Members"}[l]
}

// most is how many items the list may have.
func (l list) most() int {
	return [...]int{16, 24, 64, 96, 8, 8, 24}[l]
}

// lengths are how many items each list of a network has.
func lengths(c api.Config) [7]int {
	return [...]int{len(c.Routers), len(c.Links), len(c.Ports), len(c.Routes), len(c.Ranges), len(c.Sources), len(c.Members)}
}

// small is the network that smallText tells, written out.
func small() api.Config {
	return api.Config{
		Routers: []api.Router{{Name: "a", Rank: 0}, {Name: "b-2", Rank: 65535}, {Name: "abcdefghij-9", Rank: 7}},
		Links: []api.Link{
			{Name: "west", Prefix: api.Prefix{Addr: 0x0a010000, Bits: 16}},
			{Name: "a", Prefix: api.Prefix{Addr: 0x0a020300, Bits: 24}},
			{Name: "zzzzzzzzzzzz", Prefix: api.Prefix{Addr: 0xf0000000, Bits: 4}},
		},
		Ports: []api.Port{{Router: 1, Link: 2, Addr: 0xf0000001}, {Router: 0, Link: 0, Addr: 0x0a010001}, {Router: 0, Link: 1, Addr: 0x0a0203ff}},
		Routes: []api.Route{
			{Router: 0, Via: 0x0a010002, Cost: 0},
			{Router: 2, To: api.Prefix{Addr: 0x01020304, Bits: 32}, Via: 0xffffffff, Cost: 65535},
			{Router: 1, To: api.Prefix{Addr: 0xe0000000, Bits: 3}, Via: 1, Cost: 10},
		},
		Ranges: []api.Range{
			{Groups: api.Prefix{Addr: 0xe0000000, Bits: 4}, Root: 0x63000001},
			{Groups: api.Prefix{Addr: 0xefffffff, Bits: 32}, Root: 0x0a010001},
		},
		Sources: []api.Source{
			{Link: 2, Key: api.Key{Source: 0xf0000009, Group: 0xe0000000}},
			{Link: 0, Key: api.Key{Source: 0x0a010009, Group: 0xefffffff}},
		},
		Members: []api.Member{
			{Link: 1, Group: 0xe0000001},
			{Link: 0, Group: 0xe8000007, Only: true, Sources: []api.Addr{0x0a010009, 1, 0xdfffffff, 0xf0000000}},
			{Link: 2, Group: 0xe0000001, Only: true},
			{Link: 2, Group: 0xe0000001, Sources: []api.Addr{0xffffffff}},
		},
	}
}

// smallText is small's text, written out.
const smallText = `router a 0
router b-2 65535
router abcdefghij-9 7
link west 10.1.0.0/16
link a 10.2.3.0/24
link zzzzzzzzzzzz 240.0.0.0/4
port b-2 zzzzzzzzzzzz 240.0.0.1
port a west 10.1.0.1
port a a 10.2.3.255
route a 0.0.0.0/0 10.1.0.2 0
route abcdefghij-9 1.2.3.4/32 255.255.255.255 65535
route b-2 224.0.0.0/3 0.0.0.1 10
root 224.0.0.0/4 99.0.0.1
root 239.255.255.255/32 10.1.0.1
source zzzzzzzzzzzz 240.0.0.9 224.0.0.0
source west 10.1.0.9 239.255.255.255
member a 224.0.0.1 but
member west 232.0.0.7 only 10.1.0.9 0.0.0.1 223.255.255.255 240.0.0.0
member zzzzzzzzzzzz 224.0.0.1 only
member zzzzzzzzzzzz 224.0.0.1 but 255.255.255.255
`

// letters is a name of 12 bytes that hangs on a number below 676.
func letters(n int) string {
	return "name-" + strings.Repeat("-", 5) + string(rune('a'+n/26)) + string(rune('a'+n%26))
}

// most is a valid network that has as much as may be: each list, each name, each number, each member's sources.
func most() api.Config {
	var c api.Config
	for i := range 16 {
		c.Routers = append(c.Routers, api.Router{Name: letters(i), Rank: 65535 - i})
	}
	for i := range 24 {
		c.Links = append(c.Links, api.Link{Name: letters(i), Prefix: api.Prefix{Addr: api.Addr(200+i)<<24 | 200<<16, Bits: 16}})
	}
	for i := range 64 {
		link := (i%16 + 21*(i/16)) % 24
		c.Ports = append(c.Ports, api.Port{Router: i % 16, Link: link, Addr: c.Links[link].Prefix.Addr + 200<<8 + 100 + api.Addr(i)})
	}
	for i := range 96 {
		c.Routes = append(c.Routes, api.Route{Router: i % 16, To: api.Prefix{Addr: 0xc8c8c8c8 + api.Addr(i/2), Bits: 32}, Via: 0xc8c8c864 + api.Addr(i), Cost: 65535 - i})
	}
	for i := range 8 {
		c.Ranges = append(c.Ranges, api.Range{Groups: api.Prefix{Addr: 0xe0c8c864 + api.Addr(i), Bits: 32}, Root: 0xc8c8c864 + api.Addr(i)})
		c.Sources = append(c.Sources, api.Source{Link: i, Key: api.Key{Source: c.Links[i].Prefix.Addr + 100<<8 + 100, Group: 0xe0c8c864 + api.Addr(i)}})
	}
	for i := range 24 {
		c.Members = append(c.Members, api.Member{Link: i, Group: 0xe0c8c864, Only: i%2 > 0, Sources: []api.Addr{0xc8c8c864, 0xc8c8c865, 0xc8c8c8ff, 0xc8c8c866 + api.Addr(i)}})
	}
	return c
}

// longer puts one item more behind a list, one that is right beside all of most's.
func (l list) longer(c *api.Config) {
	switch l {
	case routers:
		c.Routers = append(c.Routers, api.Router{Name: "more"})
	case links:
		c.Links = append(c.Links, api.Link{Name: "more", Prefix: api.Prefix{Addr: 9 << 24, Bits: 8}})
	case ports:
		c.Ports = append(c.Ports, api.Port{Router: 0, Link: 1, Addr: c.Links[1].Prefix.Addr + 1})
	case routes:
		c.Routes = append(c.Routes, api.Route{Via: 1})
	case ranges:
		c.Ranges = append(c.Ranges, api.Range{Groups: api.Prefix{Addr: 0xe9000000, Bits: 8}, Root: 1})
	case sources:
		c.Sources = append(c.Sources, api.Source{Link: 2, Key: api.Key{Source: c.Links[2].Prefix.Addr + 2, Group: 0xe9000000}})
	case members:
		c.Members = append(c.Members, api.Member{Group: 0xe9000000})
	}
}

// cut leaves a list its first n items.
func (l list) cut(c *api.Config, n int) {
	switch l {
	case routers:
		c.Routers = c.Routers[:n]
	case links:
		c.Links = c.Links[:n]
	case ports:
		c.Ports = c.Ports[:n]
	case routes:
		c.Routes = c.Routes[:n]
	case ranges:
		c.Ranges = c.Ranges[:n]
	case sources:
		c.Sources = c.Sources[:n]
	case members:
		c.Members = c.Members[:n]
	}
}

// told is any network as text, for messages, and to hold two against each other.
func told(c api.Config) string {
	var b strings.Builder
	line := func(kind string, words ...string) { b.WriteString(kind + " " + strings.Join(words, " ") + "; ") }
	n, a := strconv.Itoa, func(a api.Addr) string { return strconv.FormatUint(uint64(a), 16) }
	p := func(p api.Prefix) string { return a(p.Addr) + "/" + n(p.Bits) }
	for _, x := range c.Routers {
		line("router", strconv.Quote(x.Name), n(x.Rank))
	}
	for _, x := range c.Links {
		line("link", strconv.Quote(x.Name), p(x.Prefix))
	}
	for _, x := range c.Ports {
		line("port", n(x.Router), n(x.Link), a(x.Addr))
	}
	for _, x := range c.Routes {
		line("route", n(x.Router), p(x.To), a(x.Via), n(x.Cost))
	}
	for _, x := range c.Ranges {
		line("range", p(x.Groups), a(x.Root))
	}
	for _, x := range c.Sources {
		line("source", n(x.Link), a(x.Key.Source), a(x.Key.Group))
	}
	for _, x := range c.Members {
		words := []string{n(x.Link), a(x.Group), strconv.FormatBool(x.Only)}
		for _, s := range x.Sources {
			words = append(words, a(s))
		}
		line("member", words...)
	}
	return b.String()
}

// met is something that is wrong with a network, and where it is met.
type met struct {
	list         list
	place, order int
	err          error
}

// nameForm is how a name looks.
var nameForm = regexp.MustCompile(`\A[a-z][-a-z0-9]{0,11}\z`)

// span is the first and the last address of a prefix, and whether it is one.
func span(p api.Prefix) (from, to uint64, ok bool) {
	if p.Bits < 0 || p.Bits > 32 {
		return 0, 0, false
	}
	count := uint64(1) << (32 - p.Bits)
	return uint64(p.Addr), uint64(p.Addr) + count - 1, uint64(p.Addr)%count == 0
}

const firstGroup, lastGroup = 0xe0000000, 0xefffffff

// group tells whether an address is a group's.
func group(a api.Addr) bool { return a >= firstGroup && a <= lastGroup }

// out tells whether a place is none of so many.
func out(place, n int) bool { return place < 0 || place >= n }

// away tells whether an address is none of a link's.
func away(c api.Config, link int, a api.Addr) bool {
	if out(link, len(c.Links)) {
		return true
	}
	from, to, ok := span(c.Links[link].Prefix)
	return !ok || a == 0 || uint64(a) < from || uint64(a) > to
}

// wrong is the first of all that is wrong with a network: all is gathered, then held against one another.
func wrong(c api.Config) error {
	var all []met
	for l, n := range lengths(c) {
		if most := list(l).most(); n > most {
			all = append(all, met{list(l), most, 0, api.ErrMany})
		}
	}
	all = slices.Concat(all, wrongNamed(c), wrongPorts(c), wrongRoots(c), wrongEnds(c))
	if len(all) == 0 {
		return nil
	}
	return slices.MinFunc(all, func(x, y met) int {
		return cmp.Or(cmp.Compare(x.list, y.list), cmp.Compare(x.place, y.place), cmp.Compare(x.order, y.order))
	}).err
}

// noting is a list, and how to put into it what is wrong with an item of it.
func noting(all *[]met, l list) func(place, order int, bad bool, err error) {
	return func(place, order int, bad bool, err error) {
		if bad {
			*all = append(*all, met{l, place, order, err})
		}
	}
}

// wrongNamed is all that is wrong with routers and links.
func wrongNamed(c api.Config) (all []met) {
	note := noting(&all, routers)
	for i, r := range c.Routers {
		note(i, 1, !nameForm.MatchString(r.Name), api.ErrName)
		for _, x := range c.Routers[:i] {
			note(i, 2, x.Name == r.Name, api.ErrTwice)
		}
		note(i, 3, r.Rank < 0 || r.Rank > 65535, api.ErrRange)
	}
	note = noting(&all, links)
	for i, l := range c.Links {
		note(i, 1, !nameForm.MatchString(l.Name), api.ErrName)
		for _, x := range c.Links[:i] {
			note(i, 2, x.Name == l.Name, api.ErrTwice)
		}
		from, to, ok := span(l.Prefix)
		note(i, 3, !ok, api.ErrRange)
		note(i, 4, from >= firstGroup && to <= lastGroup || from <= firstGroup && to >= lastGroup, api.ErrKind)
	}
	return all
}

// wrongPorts is all that is wrong with ports and routes.
func wrongPorts(c api.Config) (all []met) {
	note := noting(&all, ports)
	for i, p := range c.Ports {
		note(i, 1, out(p.Router, len(c.Routers)) || out(p.Link, len(c.Links)), api.ErrNone)
		note(i, 2, away(c, p.Link, p.Addr), api.ErrAway)
		for _, x := range c.Ports[:i] {
			note(i, 3, x.Addr == p.Addr, api.ErrTwice)
			note(i, 3, x.Router == p.Router && x.Link == p.Link, api.ErrTwice)
		}
	}
	note = noting(&all, routes)
	for i, r := range c.Routes {
		_, _, ok := span(r.To)
		note(i, 1, out(r.Router, len(c.Routers)), api.ErrNone)
		note(i, 2, !ok || r.Cost < 0 || r.Cost > 65535, api.ErrRange)
		note(i, 3, group(r.Via) || r.Via == 0, api.ErrKind)
	}
	return all
}

// wrongRoots is all that is wrong with ranges.
func wrongRoots(c api.Config) (all []met) {
	note := noting(&all, ranges)
	for i, r := range c.Ranges {
		from, to, ok := span(r.Groups)
		note(i, 1, !ok, api.ErrRange)
		note(i, 2, from < firstGroup || to > lastGroup || group(r.Root) || r.Root == 0, api.ErrKind)
		for _, x := range c.Ranges[:i] {
			note(i, 3, x.Groups == r.Groups, api.ErrTwice)
		}
	}
	return all
}

// wrongEnds is all that is wrong with sources and members.
func wrongEnds(c api.Config) (all []met) {
	note := noting(&all, sources)
	for i, s := range c.Sources {
		note(i, 1, out(s.Link, len(c.Links)), api.ErrNone)
		note(i, 2, away(c, s.Link, s.Key.Source), api.ErrAway)
		note(i, 3, !group(s.Key.Group), api.ErrKind)
		for _, p := range c.Ports {
			note(i, 4, p.Addr == s.Key.Source, api.ErrTwice)
		}
		for _, x := range c.Sources[:i] {
			note(i, 4, x.Key == s.Key, api.ErrTwice)
			note(i, 4, x.Key.Source == s.Key.Source && x.Link != s.Link, api.ErrTwice)
		}
	}
	note = noting(&all, members)
	for i, m := range c.Members {
		note(i, 1, out(m.Link, len(c.Links)), api.ErrNone)
		note(i, 2, !group(m.Group), api.ErrKind)
		note(i, 3, len(m.Sources) > 4, api.ErrMany)
		for j, s := range m.Sources {
			note(i, 2, group(s) || s == 0, api.ErrKind)
			note(i, 4, slices.Contains(m.Sources[:j], s), api.ErrTwice)
		}
	}
	return all
}
