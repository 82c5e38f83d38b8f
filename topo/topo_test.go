package topo_test

import (
	"errors"
	"math"
	"math/rand"
	"slices"
	"testing"

	"rivulet/api"
	"rivulet/conf"
	"rivulet/topo"
)

// lists fails where a list is another one.
func lists[T comparable](t *testing.T, what string, place int, got []T, want ...T) {
	t.Helper()
	if !slices.Equal(got, want) {
		t.Errorf("%s(%d) = %v, not %v", what, place, got, want)
	}
}

// ats fails where the port of an address is another one; -1 wanted is none.
func ats(t *testing.T, x *topo.Topo, a api.Addr, want int) {
	t.Helper()
	port, ok := x.At(a)
	if ok != (want >= 0) || port != max(want, 0) {
		t.Errorf("At(%#x) = %d, %v, not %d", a, port, ok, want)
	}
}

// places are all places of a list of so many, and some that are none.
func places(n int) []int {
	all := []int{math.MinInt, -n - 1, -n, -2, -1, n, n + 1, 2 * n, 1 << 32, math.MaxInt}
	for i := range n {
		all = append(all, i)
	}
	return all
}

// rises tells whether each item of a list is above the one ahead of it.
func rises[T int | api.Addr](list []T) bool {
	for i := 1; i < len(list); i++ {
		if list[i] <= list[i-1] {
			return false
		}
	}
	return true
}

// exactly fails where a list doesn't rise, or has another thing than just those of n places that belong there.
func exactly(t *testing.T, what string, place int, got []int, n int, belongs func(i int) bool) {
	t.Helper()
	count := 0
	for i := range n {
		if belongs(i) {
			count++
		}
		if slices.Contains(got, i) != belongs(i) {
			t.Errorf("%s(%d) = %v: %d in it is %v, not %v", what, place, got, i, !belongs(i), belongs(i))
		}
	}
	if len(got) != count || !rises(got) {
		t.Errorf("%s(%d) = %v: not %d that rise", what, place, got, count)
	}
}

// holds fails where an answer of one made of that network is another one than is found by asking item by item.
func holds(t *testing.T, x *topo.Topo, c api.Config) {
	t.Helper()
	if got := x.Config(); !conf.Same(got, c) {
		t.Errorf("Config() =\n%snot\n%s", conf.Text(got), conf.Text(c))
	}
	ports, members := len(c.Ports), len(c.Members)
	for _, link := range places(len(c.Links)) {
		exactly(t, "On", link, x.On(link), ports, func(i int) bool { return c.Ports[i].Link == link })
		exactly(t, "Members", link, x.Members(link), members, func(i int) bool { return c.Members[i].Link == link })
	}
	for _, router := range places(len(c.Routers)) {
		exactly(t, "Of", router, x.Of(router), ports, func(i int) bool { return c.Ports[i].Router == router })
	}
	for _, port := range places(ports) {
		exactly(t, "Others", port, x.Others(port), ports, func(i int) bool {
			return port >= 0 && port < ports && c.Ports[i].Link == c.Ports[port].Link && c.Ports[i].Router != c.Ports[port].Router
		})
	}
	holdsAt(t, x, c)
	holdsGroups(t, x, c)
}

// holdsAt fails where an address has another port, or has one and should have none.
func holdsAt(t *testing.T, x *topo.Topo, c api.Config) {
	t.Helper()
	asked := []api.Addr{0, 1, 0xe0000000, math.MaxUint32}
	for _, p := range c.Ports {
		asked = append(asked, p.Addr-1, p.Addr, p.Addr+1, p.Addr^1<<31, p.Addr^1<<16)
	}
	for _, s := range c.Sources {
		asked = append(asked, s.Key.Source, s.Key.Group)
	}
	for _, l := range c.Links {
		asked = append(asked, l.Prefix.Addr)
	}
	for _, a := range asked {
		ats(t, x, a, slices.IndexFunc(c.Ports, func(p api.Port) bool { return p.Addr == a }))
	}
}

// holdsGroups fails where the groups don't rise, one lacks, or one is there that nobody names.
func holdsGroups(t *testing.T, x *topo.Topo, c api.Config) {
	t.Helper()
	got := x.Groups()
	var named []api.Addr
	for _, s := range c.Sources {
		named = append(named, s.Key.Group)
	}
	for _, m := range c.Members {
		named = append(named, m.Group)
	}
	for _, g := range named {
		if !slices.Contains(got, g) {
			t.Errorf("Groups() = %v: %d lacks", got, g)
		}
	}
	for _, g := range got {
		if !slices.Contains(named, g) {
			t.Errorf("Groups() = %v: nobody names %d", got, g)
		}
	}
	if !rises(got) {
		t.Errorf("Groups() = %v: it doesn't rise", got)
	}
}

// P8.1: of an empty network all are none.
func TestEmpty(t *testing.T) {
	for _, c := range []api.Config{{}, {Routers: []api.Router{}, Links: []api.Link{}, Ports: []api.Port{}, Sources: []api.Source{}, Members: []api.Member{}}} {
		x := made(t, c)
		for _, place := range places(3) {
			lists(t, "On", place, x.On(place))
			lists(t, "Of", place, x.Of(place))
			lists(t, "Others", place, x.Others(place))
			lists(t, "Members", place, x.Members(place))
			ats(t, x, api.Addr(place), -1)
		}
		lists(t, "Groups", 0, x.Groups())
		if !conf.Same(x.Config(), api.Config{}) {
			t.Errorf("Config() of an empty network: %s", conf.Text(x.Config()))
		}
	}
}

// P8.1: a network with its answers, written out.
func TestWritten(t *testing.T) {
	c := parsed(t, written)
	x := made(t, c)
	if got := conf.Text(x.Config()); got != written {
		t.Errorf("Config() =\n%s", got)
	}
	for link, want := range [][]int{{0, 2, 4}, {}, {1, 5}, {3}, {}, {6}, {}, {}} {
		lists(t, "On", link, x.On(link), want...)
	}
	for router, want := range [][]int{{1, 2, 6}, {3, 4}, {}, {0, 5}, {}, {}} {
		lists(t, "Of", router, x.Of(router), want...)
	}
	for port, want := range [][]int{{2, 4}, {5}, {0, 4}, {}, {0, 2}, {1}, {}, {}, {}} {
		lists(t, "Others", port, x.Others(port), want...)
	}
	for link, want := range [][]int{{1, 4, 6}, {5}, {3}, {}, {0, 2}, {}, {}, {}} {
		lists(t, "Members", link, x.Members(link), want...)
	}
	for port, a := range []api.Addr{0x0a010009, 0x0a030007, 0x0a01ffff, 0x0a010404, 0x0a010405, 0x0a030001, 0x0a060001} {
		ats(t, x, a, port)
	}
	// No port has a source's address, one beside a port's, a link's, a group's, or none at all.
	for _, a := range []api.Addr{0x0a030009, 0x0a050001, 0x0a010008, 0x0a01000a, 0x0a020001, 0x0a010000, 0xef000002, 0, math.MaxUint32} {
		ats(t, x, a, -1)
	}
	lists(t, "Groups", 0, x.Groups(), 0xe0000000, 0xe0010101, 0xe1000001, 0xe8000001, 0xef000002, 0xefffffff)
	holds(t, x, c)
}

// P8.1: a place below 0, or past the end, is none, beside places that are.
func TestPlacesThatAreNone(t *testing.T) {
	c := full()
	x := made(t, c)
	for _, asked := range []struct {
		what string
		list func(int) []int
		n    int
	}{{"On", x.On, len(c.Links)}, {"Of", x.Of, len(c.Routers)}, {"Others", x.Others, len(c.Ports)}, {"Members", x.Members, len(c.Links)}} {
		for _, place := range []int{-1, -2, -asked.n, math.MinInt, math.MinInt32, asked.n, asked.n + 1, math.MaxInt32, math.MaxInt, 1 << 32} {
			lists(t, asked.what, place, asked.list(place))
		}
	}
}

// P8.1: all routers on one link, and a router on all links.
func TestManyTogether(t *testing.T) {
	var lan, hub api.Config
	all := full()
	lan.Routers, lan.Links = all.Routers, all.Links[:1]
	hub.Routers, hub.Links = all.Routers[:1], all.Links
	for i := range api.MaxRouters {
		lan.Ports = append(lan.Ports, api.Port{Router: i * 5 % 16, Addr: 1<<24 + api.Addr(50-i)})
	}
	for i := range api.MaxLinks {
		hub.Ports = append(hub.Ports, api.Port{Link: i * 5 % 24, Addr: api.Addr(i*5%24+1) << 24})
	}
	x := made(t, lan)
	lists(t, "On", 0, x.On(0), 0, 1, 2, 3, 4, 5, 6, 7, 8, 9, 10, 11, 12, 13, 14, 15)
	lists(t, "Others", 7, x.Others(7), 0, 1, 2, 3, 4, 5, 6, 8, 9, 10, 11, 12, 13, 14, 15)
	lists(t, "Of", 5, x.Of(5), 1)
	holds(t, x, lan)
	x = made(t, hub)
	lists(t, "Of", 0, x.Of(0), 0, 1, 2, 3, 4, 5, 6, 7, 8, 9, 10, 11, 12, 13, 14, 15, 16, 17, 18, 19, 20, 21, 22, 23)
	lists(t, "Others", 7, x.Others(7))
	lists(t, "On", 5, x.On(5), 1)
	holds(t, x, hub)
}

// P8.1: groups that sources alone name, that members alone name, and both, each once.
func TestGroups(t *testing.T) {
	const head = "link l 10.0.0.0/8\n"
	for _, y := range []struct {
		s    string
		want []api.Addr
	}{
		{"", nil},
		{"root 224.0.0.0/4 10.0.0.1\n", nil},
		{"source l 10.0.0.1 224.0.0.0\n", []api.Addr{0xe0000000}},
		{"member l 239.255.255.255 but\n", []api.Addr{0xefffffff}},
		{"member l 239.255.255.255 only 10.0.0.1 10.0.0.2\n", []api.Addr{0xefffffff}},
		{"source l 10.0.0.1 224.0.0.9\nmember l 224.0.0.9 but\n", []api.Addr{0xe0000009}},
		{"source l 10.0.0.1 224.0.0.9\nmember l 224.0.0.8 but\n", []api.Addr{0xe0000008, 0xe0000009}},
		{"source l 10.0.0.1 224.0.0.9\nsource l 10.0.0.2 224.0.0.9\nsource l 10.0.0.1 224.0.0.2\n", []api.Addr{0xe0000002, 0xe0000009}},
		{"member l 225.0.0.1 but\nmember l 225.0.0.1 but\nmember l 224.0.0.1 only\nmember l 225.0.0.1 only\n", []api.Addr{0xe0000001, 0xe1000001}},
	} {
		lists(t, "Groups", 0, made(t, parsed(t, head+y.s)).Groups(), y.want...)
	}
}

// P8.1: as found by asking item by item, of networks with as much as may be, and of many of chance.
func TestAgainstItemByItem(t *testing.T) {
	holds(t, made(t, full()), full())
	r := rand.New(rand.NewSource(8))
	for range 300 {
		c := drawn(r)
		holds(t, made(t, c), c)
	}
}

// refused fails where New of a network doesn't tell that error, bare, and nothing beside.
func refused(t *testing.T, what string, c api.Config, want error) {
	t.Helper()
	if x, err := topo.New(c); x != nil || err != want {
		t.Errorf("%s: New = %v, %v, not %v", what, x, err, want)
	}
	if err := conf.Valid(c); err != want {
		t.Errorf("%s: Valid tells %v, not %v", what, err, want)
	}
}

// P8.1: what conf.Valid tells of a network that is not valid, bare, for each kind of item.
func TestNotValid(t *testing.T) {
	for _, y := range []struct {
		what string
		with func(c *api.Config)
		err  error
	}{
		{"router's name", func(c *api.Config) { c.Routers[1].Name = "B" }, api.ErrName},
		{"router's name twice", func(c *api.Config) { c.Routers[1].Name = "a" }, api.ErrTwice},
		{"router's rank", func(c *api.Config) { c.Routers[1].Rank = -1 }, api.ErrRange},
		{"routers", func(c *api.Config) { c.Routers = append(full().Routers, api.Router{Name: "more"}) }, api.ErrMany},
		{"link's name", func(c *api.Config) { c.Links[4].Name = "" }, api.ErrName},
		{"link's name twice", func(c *api.Config) { c.Links[4].Name = "wide" }, api.ErrTwice},
		{"link's prefix", func(c *api.Config) { c.Links[4].Prefix.Bits = 33 }, api.ErrRange},
		{"link of groups", func(c *api.Config) { c.Links[4].Prefix = api.Prefix{} }, api.ErrKind},
		{"links", func(c *api.Config) { c.Links = append(full().Links, api.Link{Name: "more"}) }, api.ErrMany},
		{"port's router", func(c *api.Config) { c.Ports[6].Router = 4 }, api.ErrNone},
		{"port's router below 0", func(c *api.Config) { c.Ports[6].Router = -1 }, api.ErrNone},
		{"port's link", func(c *api.Config) { c.Ports[6].Link = 6 }, api.ErrNone},
		{"port's link below 0", func(c *api.Config) { c.Ports[6].Link = math.MinInt }, api.ErrNone},
		{"port's address", func(c *api.Config) { c.Ports[6].Addr = 0x0a070001 }, api.ErrAway},
		{"port's address twice", func(c *api.Config) { c.Ports[4].Addr = 0x0a010009 }, api.ErrTwice},
		{"router twice on a link", func(c *api.Config) { c.Ports[4].Router = 0 }, api.ErrTwice},
		{"ports", func(c *api.Config) { *c = full(); c.Ports = append(c.Ports, c.Ports[0]) }, api.ErrMany},
		{"route's router", func(c *api.Config) { c.Routes = []api.Route{{Router: 4, Via: 1}} }, api.ErrNone},
		{"route's cost", func(c *api.Config) { c.Routes = []api.Route{{Via: 1, Cost: 65536}} }, api.ErrRange},
		{"route's via", func(c *api.Config) { c.Routes = []api.Route{{}} }, api.ErrKind},
		{"routes", func(c *api.Config) { *c = full(); c.Routes = append(c.Routes, c.Routes[0]) }, api.ErrMany},
		{"range's groups", func(c *api.Config) {
			c.Ranges = []api.Range{{Groups: api.Prefix{Addr: 0xe0000001, Bits: 4}, Root: 1}}
		}, api.ErrRange},
		{"range's root", func(c *api.Config) { c.Ranges = []api.Range{{Groups: api.Prefix{Addr: 0xe0000000, Bits: 4}}} }, api.ErrKind},
		{"range twice", func(c *api.Config) { c.Ranges = append(full().Ranges[:3:3], full().Ranges[1]) }, api.ErrTwice},
		{"ranges", func(c *api.Config) { *c = full(); c.Ranges = append(c.Ranges, api.Range{}) }, api.ErrMany},
		{"source's link", func(c *api.Config) { c.Sources[3].Link = 6 }, api.ErrNone},
		{"source's link below 0", func(c *api.Config) { c.Sources[3].Link = -1 }, api.ErrNone},
		{"source's address", func(c *api.Config) { c.Sources[3].Key.Source = 0 }, api.ErrAway},
		{"source's group", func(c *api.Config) { c.Sources[3].Key.Group = 0xf0000000 }, api.ErrKind},
		{"source at a port", func(c *api.Config) { c.Sources[3].Key.Source = 0x0a010009 }, api.ErrTwice},
		{"sources", func(c *api.Config) { *c = full(); c.Sources = append(c.Sources, c.Sources[0]) }, api.ErrMany},
		{"member's link", func(c *api.Config) { c.Members[5].Link = 6 }, api.ErrNone},
		{"member's link below 0", func(c *api.Config) { c.Members[5].Link = -7 }, api.ErrNone},
		{"member's group", func(c *api.Config) { c.Members[5].Group = 0x0a000000 }, api.ErrKind},
		{"member's sources", func(c *api.Config) { c.Members[5].Sources = []api.Addr{1, 2, 3, 4, 5} }, api.ErrMany},
		{"member's source twice", func(c *api.Config) { c.Members[5].Sources = []api.Addr{1, 2, 1} }, api.ErrTwice},
		{"members", func(c *api.Config) { *c = full(); c.Members = append(c.Members, c.Members[0]) }, api.ErrMany},
	} {
		c := parsed(t, written)
		y.with(&c)
		refused(t, y.what, c, y.err)
	}
	// The first that is wrong is told.
	c := parsed(t, written)
	c.Members[0].Link, c.Ports[3].Addr, c.Routers[2].Rank = 99, 0, 65536
	refused(t, "router, port, member", c, api.ErrRange)
	c.Routers[2].Rank = 3
	refused(t, "port, member", c, api.ErrAway)
}

// P8.1: whatever a network is made of, it is refused with conf.Valid's error, or all holds. Each 4 bytes are an item.
func FuzzNew(f *testing.F) {
	f.Add([]byte{})
	f.Add([]byte{0, 0, 0, 0, 0, 1, 0, 0, 1, 0, 0, 0, 1, 1, 0, 0, 2, 0, 0, 1, 2, 1, 0, 2, 2, 0, 1, 3, 3, 0, 9, 1, 4, 0, 1, 0, 4, 0, 2, 0, 4, 1, 1, 0})
	f.Add([]byte{0, 0, 0, 0, 1, 0, 0, 0, 2, 0, 0, 1, 2, 0, 0, 2})
	f.Add([]byte{3, 200, 1, 1})
	f.Fuzz(func(t *testing.T, b []byte) {
		var c api.Config
		for ; len(b) >= 4 && len(b) < 1000; b = b[4:] {
			x, y, z := int(int8(b[1])), int(int8(b[2])), api.Addr(b[3])
			switch b[0] % 5 {
			case 0:
				c.Routers = append(c.Routers, api.Router{Name: "r" + string(rune('a'+len(c.Routers)%26)), Rank: x})
			case 1:
				c.Links = append(c.Links, api.Link{Name: "l" + string(rune('a'+len(c.Links)%26)), Prefix: api.Prefix{Addr: 10<<24 + z<<8, Bits: 24}})
			case 2:
				c.Ports = append(c.Ports, api.Port{Router: x, Link: y, Addr: 10<<24 + z})
			case 3:
				c.Sources = append(c.Sources, api.Source{Link: x, Key: api.Key{Source: 10<<24 + api.Addr(y), Group: 0xe0000000 + z}})
			case 4:
				c.Members = append(c.Members, api.Member{Link: x, Group: 0xe0000000 + api.Addr(y), Sources: []api.Addr{z}})
			}
		}
		want := conf.Valid(c)
		x, err := topo.New(c)
		if err != want || errors.Unwrap(err) != nil || (x == nil) != (err != nil) {
			t.Fatalf("New = %v, %v, not %v", x, err, want)
		}
		if err == nil {
			holds(t, x, c)
		}
	})
}
