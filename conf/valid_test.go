package conf_test

import (
	"math"
	"testing"

	"rivulet/api"
	"rivulet/conf"
)

// faulty fails where Valid, or the other way to find it, tells another error.
func faulty(t *testing.T, c api.Config, want error, what string) {
	t.Helper()
	if got := conf.Valid(c); got != want {
		t.Errorf("%s: Valid tells %v, not %v, of %.300s", what, got, want, told(c))
	}
	if got := wrong(c); got != want {
		t.Errorf("%s: wrong tells %v, not %v, of %.300s", what, got, want, told(c))
	}
}

// P6.2: networks with nothing wrong.
func TestValidNetworks(t *testing.T) {
	faulty(t, api.Config{}, nil, "an empty network")
	faulty(t, small(), nil, "a small network")
	faulty(t, most(), nil, "the greatest network")
	for _, l := range allLists() {
		if got := lengths(most())[l]; got != l.most() {
			t.Errorf("%v: %d", l, got)
		}
	}
	// A list may end early, if no later one names what it has no more.
	for l := range allLists() {
		c := most()
		for _, later := range allLists()[l:] {
			later.cut(&c, 0)
		}
		faulty(t, c, nil, "lists cut off")
	}
}

// P6.2: each error of an item alone, at each place of its list.
func TestEachFaultAtEachPlace(t *testing.T) {
	for _, l := range allLists() {
		for _, s := range l.spoilers() {
			for i := range l.most() {
				if s.later && i == 0 {
					continue
				}
				c := most()
				s.put(&c, i)
				faulty(t, c, s.err, l.String()+": "+s.what)
			}
		}
	}
}

// P6.2: of an item's errors the one that is named first.
func TestFirstFaultOfAnItem(t *testing.T) {
	for _, l := range allLists() {
		for _, s := range l.spoilers() {
			for _, also := range l.spoilers() {
				if also.class <= s.class {
					continue
				}
				for _, i := range []int{1, l.most() - 1} {
					c := most()
					also.put(&c, i)
					s.put(&c, i)
					faulty(t, c, s.err, l.String()+": "+s.what+", ahead of: "+also.what)
				}
			}
		}
	}
}

// P6.2: of a list's errors the one of the first item, whichever is named first.
func TestFirstFaultOfAList(t *testing.T) {
	for _, l := range allLists() {
		for _, s := range l.spoilers() {
			for _, also := range l.spoilers() {
				c := most()
				also.put(&c, 2)
				s.put(&c, 1)
				faulty(t, c, s.err, l.String()+": "+s.what+", at a place ahead of: "+also.what)
			}
		}
	}
}

// P6.2: of the lists' errors the one of the first list, whichever the places are.
func TestFirstFaultOfTheLists(t *testing.T) {
	for _, l := range allLists() {
		for _, s := range l.spoilers() {
			for _, later := range allLists()[l+1:] {
				for _, also := range later.spoilers() {
					c := most()
					also.put(&c, 1)
					s.put(&c, l.most()-1)
					faulty(t, c, s.err, l.String()+": "+s.what+", ahead of: "+later.String()+": "+also.what)
				}
			}
		}
	}
}

// P6.2: a list with one more, and with two more, than as many as may be.
func TestTooMany(t *testing.T) {
	for _, l := range allLists() {
		c := most()
		l.longer(&c)
		faulty(t, c, api.ErrMany, l.String()+": one more")
		l.longer(&c)
		faulty(t, c, api.ErrMany, l.String()+": two more")
		// With nothing in the lists that none needs.
		for _, other := range allLists()[l+1:] {
			other.cut(&c, 0)
		}
		faulty(t, c, api.ErrMany, l.String()+": nothing behind")
	}
}

// P6.2: too many is told at the first that is one too many: behind what is wrong ahead of it, ahead of what is wrong with itself.
func TestTooManyBesideFaults(t *testing.T) {
	for _, l := range allLists() {
		for _, s := range l.spoilers() {
			for _, i := range []int{1, l.most() - 1} {
				c := most()
				l.longer(&c)
				s.put(&c, i)
				faulty(t, c, s.err, l.String()+": "+s.what+", ahead of one more")
			}
			c := most()
			l.longer(&c)
			s.put(&c, l.most())
			faulty(t, c, api.ErrMany, l.String()+": one more: "+s.what)
			l.longer(&c)
			faulty(t, c, api.ErrMany, l.String()+": two more: "+s.what)
		}
	}
}

// P6.2: too many of a list is told ahead of what is wrong with later lists, and behind what is wrong with earlier ones.
func TestTooManyBesideOtherLists(t *testing.T) {
	for _, l := range allLists() {
		for _, other := range allLists() {
			if l == other {
				continue
			}
			for _, s := range other.spoilers() {
				c, want := most(), s.err
				l.longer(&c)
				s.put(&c, 1)
				if l < other {
					want = api.ErrMany
				}
				faulty(t, c, want, l.String()+": one more, and "+other.String()+": "+s.what)
			}
		}
	}
}

// P6.2: of very long lists no more is looked at than as many as may be, and one more.
func TestVeryLongLists(t *testing.T) {
	const n = 1 << 20
	c := most()
	c.Routers = append(c.Routers, make([]api.Router, n)...)
	if err := conf.Valid(c); err != api.ErrMany {
		t.Errorf("Routers: %v", err)
	}
	c = most()
	c.Members = append(c.Members, make([]api.Member, n)...)
	if err := conf.Valid(c); err != api.ErrMany {
		t.Errorf("Members: %v", err)
	}
	c = most()
	c.Members[3].Sources = append(make5000(), make([]api.Addr, n)...)
	if err := conf.Valid(c); err != api.ErrKind {
		t.Errorf("a member's sources: %v", err)
	}
	if err := conf.Valid(api.Config{Routers: make([]api.Router, n)}); err != api.ErrName {
		t.Errorf("routers without names: %v", err)
	}
}

// P6.2: ranks and costs from 0 to MaxCost.
func TestRanksAndCosts(t *testing.T) {
	cases := []struct {
		n   int
		err error
	}{
		{0, nil}, {1, nil}, {255, nil}, {256, nil}, {32768, nil}, {65534, nil}, {65535, nil}, {api.MaxCost, nil},
		{-1, api.ErrRange}, {-2, api.ErrRange}, {-65535, api.ErrRange}, {65536, api.ErrRange}, {65537, api.ErrRange}, {131071, api.ErrRange},
		{1 << 32, api.ErrRange}, {1<<32 + 1, api.ErrRange}, {-1 << 32, api.ErrRange}, {math.MinInt, api.ErrRange}, {math.MaxInt, api.ErrRange},
	}
	for _, x := range cases {
		c := small()
		c.Routers[1].Rank = x.n
		faulty(t, c, x.err, "a rank")
		c = small()
		c.Routes[1].Cost = x.n
		faulty(t, c, x.err, "a cost")
	}
}

// P6.2: a link's addresses and groups have none in common.
func TestLinkPrefixes(t *testing.T) {
	cases := []struct {
		addr api.Addr
		bits int
		err  error
	}{
		// Just all groups, within them, and around them.
		{0xe0000000, 4, api.ErrKind},
		{0xe0000000, 5, api.ErrKind}, {0xe8000000, 5, api.ErrKind}, {0xe6000000, 8, api.ErrKind}, {0xef000000, 8, api.ErrKind},
		{0xe0000000, 32, api.ErrKind}, {0xefffffff, 32, api.ErrKind}, {0xeffffffe, 31, api.ErrKind}, {0xe8000001, 32, api.ErrKind},
		{0xe0000000, 3, api.ErrKind}, {0xc0000000, 2, api.ErrKind}, {0x80000000, 1, api.ErrKind}, {0, 0, api.ErrKind},
		// Beside them.
		{0xf0000000, 4, nil}, {0xd0000000, 4, nil}, {0xc0000000, 3, nil}, {0x80000000, 2, nil}, {0, 1, nil}, {0xf0000000, 5, nil},
		{0xdfffffff, 32, nil}, {0xf0000000, 32, nil}, {0xdffffffe, 31, nil}, {0xffffffff, 32, nil}, {0, 32, nil}, {0, 2, nil}, {0x0a000000, 8, nil},
		// Not valid.
		{0xe0000000, -1, api.ErrRange}, {0xe0000000, 33, api.ErrRange}, {0xe0000000, 2, api.ErrRange}, {0xe0000000, 0, api.ErrRange},
		{0xe0000001, 4, api.ErrRange}, {0xe8000000, 4, api.ErrRange}, {0x0a000001, 31, api.ErrRange}, {0x0a000000, 6, api.ErrRange},
		{0x0a000000, math.MinInt, api.ErrRange}, {0x0a000000, math.MaxInt, api.ErrRange}, {0x0a000000, 1<<32 + 8, api.ErrRange}, {0, 33, api.ErrRange}, {0, -1, api.ErrRange},
	}
	for _, x := range cases {
		p := api.Prefix{Addr: x.addr, Bits: x.bits}
		faulty(t, api.Config{Links: []api.Link{{Name: "l", Prefix: p}}}, x.err, "a link")
		faulty(t, api.Config{Links: []api.Link{{Name: "l", Prefix: api.Prefix{Bits: 8}}, {Name: "m", Prefix: p}}}, x.err, "a second link")
	}
}

// P6.2: a range is of groups alone.
func TestRangePrefixes(t *testing.T) {
	cases := []struct {
		addr api.Addr
		bits int
		err  error
	}{
		{0xe0000000, 4, nil}, {0xe0000000, 5, nil}, {0xe8000000, 5, nil}, {0xe6000000, 8, nil}, {0xef000000, 8, nil},
		{0xe0000000, 32, nil}, {0xefffffff, 32, nil}, {0xeffffffe, 31, nil}, {0xe8000001, 32, nil},
		{0xe0000000, 3, api.ErrKind}, {0xc0000000, 2, api.ErrKind}, {0x80000000, 1, api.ErrKind}, {0, 0, api.ErrKind},
		{0xf0000000, 4, api.ErrKind}, {0xd0000000, 4, api.ErrKind}, {0xdfffffff, 32, api.ErrKind}, {0xf0000000, 32, api.ErrKind}, {0x0a000000, 8, api.ErrKind}, {0, 32, api.ErrKind},
		{0xe0000000, -1, api.ErrRange}, {0xe0000000, 33, api.ErrRange}, {0xe0000000, 2, api.ErrRange}, {0xe0000001, 4, api.ErrRange}, {0xe8000000, 4, api.ErrRange},
		{0x0a000001, 8, api.ErrRange}, {0xe0000000, math.MinInt, api.ErrRange}, {0xe0000000, math.MaxInt, api.ErrRange}, {0xe0000000, 1<<32 + 4, api.ErrRange},
	}
	for _, x := range cases {
		r := api.Range{Groups: api.Prefix{Addr: x.addr, Bits: x.bits}, Root: 1}
		faulty(t, api.Config{Ranges: []api.Range{r}}, x.err, "a range")
		faulty(t, api.Config{Ranges: []api.Range{{Groups: api.Prefix{Addr: 0xe7000000, Bits: 8}, Root: 1}, r}}, x.err, "a second range")
	}
}

// P6.2: which addresses can be a next hop, a root, a member's source, and which a group.
func TestKindsOfAddresses(t *testing.T) {
	for _, a := range []api.Addr{0, 1, 0x7fffffff, 0x80000000, 0xdfffffff, 0xe0000000, 0xe0000001, 0xe8000000, 0xefffffff, 0xf0000000, 0xffffffff} {
		one, many := error(nil), error(api.ErrKind)
		if a == 0 || a >= 0xe0000000 && a <= 0xefffffff {
			one = api.ErrKind
		}
		if a >= 0xe0000000 && a <= 0xefffffff {
			many = nil
		}
		c := small()
		c.Routes[1].Via = a
		faulty(t, c, one, "a next hop")
		c = small()
		c.Ranges[1].Root = a
		faulty(t, c, one, "a root")
		for i := range 4 {
			c = small()
			c.Members[1].Sources = []api.Addr{5, 6, 7, 8}
			c.Members[1].Sources[i] = a
			faulty(t, c, one, "a member's source")
		}
		c = small()
		c.Members[1].Group = a
		faulty(t, c, many, "a member's group")
		c = small()
		c.Sources[1].Key.Group = a
		faulty(t, c, many, "a source's group")
	}
}

// P6.2: the first and the last address of a link are on it; 0 is on none.
func TestAddressesOfLinks(t *testing.T) {
	cases := []struct {
		prefix api.Prefix
		addr   api.Addr
		err    error
	}{
		{api.Prefix{Addr: 0x0a010000, Bits: 16}, 0x0a010000, nil}, {api.Prefix{Addr: 0x0a010000, Bits: 16}, 0x0a01ffff, nil},
		{api.Prefix{Addr: 0x0a010000, Bits: 16}, 0x0a00ffff, api.ErrAway}, {api.Prefix{Addr: 0x0a010000, Bits: 16}, 0x0a020000, api.ErrAway},
		{api.Prefix{Addr: 0x0a010203, Bits: 32}, 0x0a010203, nil}, {api.Prefix{Addr: 0x0a010203, Bits: 32}, 0x0a010202, api.ErrAway}, {api.Prefix{Addr: 0x0a010203, Bits: 32}, 0x0a010204, api.ErrAway},
		{api.Prefix{Bits: 8}, 0, api.ErrAway}, {api.Prefix{Bits: 8}, 1, nil}, {api.Prefix{Bits: 32}, 0, api.ErrAway}, {api.Prefix{Bits: 1}, 0, api.ErrAway}, {api.Prefix{Bits: 1}, 0x7fffffff, nil}, {api.Prefix{Bits: 1}, 0x80000000, api.ErrAway},
		{api.Prefix{Addr: 0xf0000000, Bits: 4}, 0xffffffff, nil}, {api.Prefix{Addr: 0xf0000000, Bits: 4}, 0, api.ErrAway}, {api.Prefix{Addr: 0xf0000000, Bits: 4}, 0xefffffff, api.ErrAway},
	}
	for _, x := range cases {
		c := api.Config{Routers: []api.Router{{Name: "r"}}, Links: []api.Link{{Name: "all", Prefix: api.Prefix{Addr: 0x0a000000, Bits: 8}}, {Name: "l", Prefix: x.prefix}}}
		c.Ports = []api.Port{{Link: 1, Addr: x.addr}}
		faulty(t, c, x.err, "a port")
		c.Ports = nil
		c.Sources = []api.Source{{Link: 1, Key: api.Key{Source: x.addr, Group: 0xe0000000}}}
		faulty(t, c, x.err, "a source")
	}
}

// alike is two links with the same addresses, and two routers.
func alike() api.Config {
	p := api.Prefix{Addr: 0x0a000000, Bits: 8}
	return api.Config{Routers: []api.Router{{Name: "a"}, {Name: "b"}}, Links: []api.Link{{Name: "a", Prefix: p}, {Name: "b", Prefix: p}}}
}

// P6.2: what may be there again, and what may not.
func TestTwicePorts(t *testing.T) {
	const x, y = 0x0a000001, 0x0a000002
	cases := []struct {
		ports []api.Port
		err   error
	}{
		{[]api.Port{{Router: 0, Link: 0, Addr: x}, {Router: 0, Link: 1, Addr: y}}, nil},
		{[]api.Port{{Router: 0, Link: 0, Addr: x}, {Router: 1, Link: 0, Addr: y}}, nil},
		{[]api.Port{{Router: 0, Link: 0, Addr: x}, {Router: 1, Link: 1, Addr: y}}, nil},
		{[]api.Port{{Router: 0, Link: 0, Addr: x}, {Router: 0, Link: 0, Addr: y}}, api.ErrTwice},
		{[]api.Port{{Router: 0, Link: 0, Addr: x}, {Router: 0, Link: 1, Addr: x}}, api.ErrTwice},
		{[]api.Port{{Router: 0, Link: 0, Addr: x}, {Router: 1, Link: 0, Addr: x}}, api.ErrTwice},
		{[]api.Port{{Router: 0, Link: 0, Addr: x}, {Router: 1, Link: 1, Addr: x}}, api.ErrTwice},
		{[]api.Port{{Router: 0, Link: 0, Addr: x}, {Router: 0, Link: 0, Addr: x}}, api.ErrTwice},
		// Something else wrong with the first of them is told first, and with the second of them too.
		{[]api.Port{{Router: 0, Link: 0, Addr: 1}, {Router: 0, Link: 0, Addr: x}}, api.ErrAway},
		{[]api.Port{{Router: 0, Link: 0, Addr: x}, {Router: 0, Link: 0, Addr: 1}}, api.ErrAway},
	}
	for _, k := range cases {
		c := alike()
		c.Ports = k.ports
		faulty(t, c, k.err, "ports")
	}
}

// P6.2: sources with the same address, group or link.
func TestTwiceSources(t *testing.T) {
	const x, y, g, h = 0x0a000001, 0x0a000002, 0xe0000001, 0xe0000002
	source := func(link int, s, g api.Addr) api.Source {
		return api.Source{Link: link, Key: api.Key{Source: s, Group: g}}
	}
	cases := []struct {
		sources []api.Source
		err     error
	}{
		{[]api.Source{source(0, x, g), source(0, x, h)}, nil},
		{[]api.Source{source(0, x, g), source(0, y, g)}, nil},
		{[]api.Source{source(0, x, g), source(1, y, g)}, nil},
		{[]api.Source{source(0, x, g), source(1, y, h)}, nil},
		{[]api.Source{source(0, x, g), source(0, x, g)}, api.ErrTwice},
		{[]api.Source{source(0, x, g), source(1, x, g)}, api.ErrTwice},
		{[]api.Source{source(0, x, g), source(1, x, h)}, api.ErrTwice},
		{[]api.Source{source(0, x, g), source(0, x, h), source(1, x, h)}, api.ErrTwice},
		{[]api.Source{source(0, x, g), source(0, y, g), source(0, x, g)}, api.ErrTwice},
		// Something else wrong with the first of them is told first, and with the second of them too.
		{[]api.Source{source(0, x, 1), source(1, x, g)}, api.ErrKind},
		{[]api.Source{source(0, x, g), source(1, x, 1)}, api.ErrKind},
	}
	for _, k := range cases {
		c := alike()
		c.Sources = k.sources
		faulty(t, c, k.err, "sources")
		c.Ports = []api.Port{{Addr: 0x0a000009}}
		faulty(t, c, k.err, "sources beside a port")
	}
	c := alike()
	c.Sources = []api.Source{source(0, x, g)}
	c.Ports = []api.Port{{Router: 0, Link: 1, Addr: x}}
	faulty(t, c, api.ErrTwice, "a source with the address of a port of another link")
}

// P6.2: routers, links, ranges, routes and members again.
func TestTwiceOthers(t *testing.T) {
	groups := api.Prefix{Addr: 0xe0000000, Bits: 8}
	c := small()
	c.Routes = append(c.Routes, c.Routes...)
	c.Members = append(c.Members, c.Members...)
	faulty(t, c, nil, "routes and members twice")
	c = alike()
	c.Routers[1].Name = "a"
	faulty(t, c, api.ErrTwice, "two routers of a name")
	c.Routers[0].Rank = -1
	faulty(t, c, api.ErrRange, "two routers of a name, the first of no rank")
	c = alike()
	c.Links[1].Name = "a"
	faulty(t, c, api.ErrTwice, "two links of a name")
	c.Links[0].Prefix.Bits = 33
	faulty(t, c, api.ErrRange, "two links of a name, the first without a prefix")
	c = api.Config{Ranges: []api.Range{{Groups: groups, Root: 1}, {Groups: groups, Root: 2}}}
	faulty(t, c, api.ErrTwice, "two ranges of the same groups")
	c.Ranges[0].Root = 0
	faulty(t, c, api.ErrKind, "two ranges of the same groups, the first without a root")
	c.Ranges = []api.Range{{Groups: groups, Root: 1}, {Groups: api.Prefix{Addr: 0xe0000000, Bits: 9}, Root: 1}, {Groups: api.Prefix{Addr: 0xe1000000, Bits: 8}, Root: 1}}
	faulty(t, c, nil, "ranges in one another, of one root")
}
