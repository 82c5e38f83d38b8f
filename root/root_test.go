package root_test

import (
	"math/rand"
	"slices"
	"strconv"
	"testing"

	"rivulet/addr"
	"rivulet/api"
	"rivulet/conf"
	"rivulet/root"
	"rivulet/topo"
)

// rooted fails where a group's root is another one; 0 wanted is none.
func rooted(t *testing.T, x *topo.Topo, g, want api.Addr) {
	t.Helper()
	if a, ok := root.Of(x, g); a != want || ok != (want != 0) {
		t.Errorf("Of(%s) = %s, %v, not %s", addr.Text(g), addr.Text(a), ok, addr.Text(want))
	}
}

// routed fails where another router is a group's root, or Is tells another one; -1 wanted is none.
func routed(t *testing.T, x *topo.Topo, g api.Addr, want int) {
	t.Helper()
	if r, ok := root.Router(x, g); r != max(want, 0) || ok != (want >= 0) {
		t.Errorf("Router(%s) = %d, %v, not %d", addr.Text(g), r, ok, want)
	}
	routers := len(x.Config().Routers)
	for r := range routers {
		if got := root.Is(x, r, g); got != (r == want) {
			t.Errorf("Is(%d, %s) = %v, and the root is %d", r, addr.Text(g), got, want)
		}
	}
	for _, r := range noRouters(routers) {
		if root.Is(x, r, g) {
			t.Errorf("Is(%d, %s), and there are %d routers", r, addr.Text(g), routers)
		}
	}
}

// holds fails where an answer for an address is another one than the model's.
func holds(t *testing.T, x *topo.Topo, m model, g api.Addr) {
	t.Helper()
	rooted(t, x, g, m.root(g))
	routed(t, x, g, m.router(g))
}

// nested are ranges within one another, neither in the order of their bits nor of their addresses.
const nested = `root 239.1.0.0/16 10.0.0.3
root 239.1.2.3/32 10.0.0.5
root 224.0.0.0/4 10.0.0.1
root 239.1.2.0/24 10.0.0.4
root 232.0.0.0/8 10.0.0.6
root 239.0.0.0/8 10.0.0.2
root 239.1.2.2/31 10.0.0.7
`

// nestedRoots are the last bytes of the roots of some groups in nested.
var nestedRoots = []struct {
	g    string
	last api.Addr
}{
	{"224.0.0.0", 1}, {"231.255.255.255", 1}, {"233.0.0.0", 1}, {"238.255.255.255", 1},
	{"232.0.0.0", 6}, {"232.1.2.3", 6}, {"232.255.255.255", 6},
	{"239.0.0.0", 2}, {"239.0.255.255", 2}, {"239.2.0.0", 2}, {"239.255.255.255", 2},
	{"239.1.0.0", 3}, {"239.1.1.255", 3}, {"239.1.3.0", 3}, {"239.1.255.255", 3},
	{"239.1.2.0", 4}, {"239.1.2.1", 4}, {"239.1.2.4", 4}, {"239.1.2.255", 4},
	{"239.1.2.2", 7}, {"239.1.2.3", 5},
}

// P10.1: of several ranges within one another the one with the most bits, in whatever order they stand.
func TestOfNested(t *testing.T) {
	c := network(t, nested).Config()
	r := rand.New(rand.NewSource(10))
	for range 50 {
		x := made(t, c)
		for _, y := range nestedRoots {
			rooted(t, x, number(t, y.g), 10<<24+y.last)
		}
		r.Shuffle(len(c.Ranges), func(i, j int) { c.Ranges[i], c.Ranges[j] = c.Ranges[j], c.Ranges[i] })
	}
}

// P10.1: a group that is in no range has none, be it next to one.
func TestOfInNone(t *testing.T) {
	x := network(t, "router a 1\nlink l 10.0.0.0/8\nport a l 10.0.0.1\nroot 225.0.0.0/8 10.0.0.1\nroot 239.1.2.0/24 10.0.0.1\nroot 239.1.2.3/32 10.0.0.2\nroot 230.0.0.7/32 10.0.0.1\n")
	for _, s := range []string{
		"224.0.0.0", "224.255.255.255", "226.0.0.0", "239.1.1.255", "239.1.3.0", "239.0.2.0",
		"230.0.0.6", "230.0.0.8", "230.0.1.7", "231.0.0.7", "239.255.255.255",
	} {
		rooted(t, x, number(t, s), 0)
		routed(t, x, number(t, s), -1)
	}
	for _, s := range []string{"225.0.0.0", "225.255.255.255", "239.1.2.0", "239.1.2.255", "230.0.0.7"} {
		rooted(t, x, number(t, s), 10<<24+1)
		routed(t, x, number(t, s), 0)
	}
}

// P10.1: an address that is no group has none: below, above, a root's own, one that differs from a range's in its first bits alone.
func TestOfNoGroup(t *testing.T) {
	const head = "router a 1\nlink l 10.0.0.0/8\nport a l 10.0.0.1\n"
	for _, s := range []string{"", "root 224.0.0.0/4 10.0.0.1\n", "root 224.0.0.0/24 10.0.0.1\nroot 239.255.255.255/32 10.0.0.1\nroot 234.0.0.0/8 10.0.0.1\n"} {
		x := network(t, head+s)
		for _, g := range []string{
			"0.0.0.0", "0.0.0.1", "10.0.0.0", "10.0.0.1", "127.255.255.255", "128.0.0.0", "192.0.0.0", "223.255.255.255", "223.0.0.0",
			"240.0.0.0", "240.0.0.1", "255.255.255.255", "106.0.0.0", "170.0.0.0", "202.0.0.0", "250.0.0.0", "96.0.0.0",
		} {
			rooted(t, x, number(t, g), 0)
			routed(t, x, number(t, g), -1)
		}
	}
}

// P10.1: without ranges no group has a root, whatever else there is.
func TestNoRanges(t *testing.T) {
	for _, s := range []string{
		"",
		"router a 1\nrouter b 2\nlink l 10.0.0.0/8\nport b l 10.0.0.1\nroute a 224.0.0.0/4 10.0.0.1 1\nsource l 10.0.0.9 239.0.0.1\nmember l 239.0.0.1 but\n",
	} {
		x := network(t, s)
		for _, g := range append(around(x.Config()), number(t, "239.0.0.1")) {
			rooted(t, x, g, 0)
			routed(t, x, g, -1)
		}
	}
}

// P10.1: ranges of each number of bits: a group is in one up to its ends, and not behind them.
func TestOfEnds(t *testing.T) {
	for bits := 4; bits <= 32; bits++ {
		for _, g := range []api.Addr{firstGroup, firstGroup + 0x5555555, firstGroup + 0xaaaaaaa, firstGroup + 1<<27, lastGroup} {
			p := of(g, bits)
			x := made(t, api.Config{Ranges: []api.Range{{Groups: p, Root: 9}}})
			for _, a := range append(ends(p), g) {
				want := api.Addr(0)
				if within(p, a) {
					want = 9
				}
				rooted(t, x, a, want)
				routed(t, x, a, -1)
			}
			rooted(t, x, g^1<<(32-bits), 0)
		}
	}
}

// P10.1: as many ranges as may be, each within the one ahead.
func TestOfMany(t *testing.T) {
	var c api.Config
	for i := range api.MaxRanges {
		c.Ranges = append(c.Ranges, api.Range{Groups: of(lastGroup, 4*i+4), Root: api.Addr(i + 1)})
	}
	x := made(t, c)
	for i := range api.MaxRanges - 1 {
		// The bit just behind the range's own takes it out of the next one.
		rooted(t, x, lastGroup&^(1<<(27-4*i)), api.Addr(i+1))
	}
	rooted(t, x, lastGroup, api.MaxRanges)
}

// owned is a network in which a root is an address of the first router, of the others, of a source, of none; the ports are not in the order of the routers.
const owned = `router a 1
router b 2
router c 3
router lone 4
link l 10.0.0.0/8
link m 11.0.0.0/8
link n 12.0.0.0/8
port c l 10.0.0.1
port b m 11.0.0.2
port a m 11.0.0.1
port b l 10.0.0.2
port c n 12.0.0.3
root 224.0.0.0/4 10.0.0.2
root 225.0.0.0/8 11.0.0.1
root 226.0.0.0/8 12.0.0.3
root 227.0.0.0/8 11.0.0.2
root 228.0.0.0/8 10.0.0.9
root 229.0.0.0/8 99.0.0.1
root 230.0.0.0/8 10.0.0.77
root 230.1.0.0/16 10.0.0.1
source l 10.0.0.9 239.0.0.1
`

// P10.1: Router is whose port has the root's address, by any of its ports; none, where the range with the most bits has another root, though one of fewer bits has a router's.
func TestRouterAndIs(t *testing.T) {
	x := network(t, owned)
	for _, y := range []struct {
		g      string
		router int
		root   string
	}{
		{"224.0.0.1", 1, "10.0.0.2"}, {"239.0.0.1", 1, "10.0.0.2"}, {"231.0.0.0", 1, "10.0.0.2"},
		{"225.0.0.1", 0, "11.0.0.1"},
		{"226.0.0.1", 2, "12.0.0.3"}, {"230.1.0.1", 2, "10.0.0.1"},
		{"227.0.0.1", 1, "11.0.0.2"},
		{"228.0.0.1", -1, "10.0.0.9"},
		{"229.0.0.1", -1, "99.0.0.1"},
		{"230.0.0.1", -1, "10.0.0.77"},
	} {
		rooted(t, x, number(t, y.g), number(t, y.root))
		routed(t, x, number(t, y.g), y.router)
	}
	for _, s := range []string{"10.0.0.1", "10.0.0.2", "11.0.0.1", "223.255.255.255", "240.0.0.0"} {
		routed(t, x, number(t, s), -1)
	}
}

// P10.1, P0.7: each of as many routers as may be, and places below 0 and past the end.
func TestIsEachRouter(t *testing.T) {
	c := api.Config{Links: []api.Link{{Name: "l", Prefix: of(10<<24, 8)}}}
	for i := range api.MaxRouters {
		c.Routers = append(c.Routers, api.Router{Name: "r" + strconv.Itoa(i)})
		c.Ports = append(c.Ports, api.Port{Router: i, Addr: 10<<24 + api.Addr(100-i)})
	}
	for i := range api.MaxRouters {
		c.Ranges = []api.Range{{Groups: of(firstGroup, 4), Root: c.Ports[i].Addr}}
		x := made(t, c)
		routed(t, x, lastGroup, i)
		routed(t, x, lastGroup+1, -1)
	}
}

// P10.1: as found by asking item by item, of many networks of chance.
func TestAgainstItemByItem(t *testing.T) {
	r := rand.New(rand.NewSource(11))
	roots, routers := 0, 0
	for range 300 {
		c := drawn(r)
		x := made(t, c)
		for _, g := range append(around(c), firstGroup+api.Addr(r.Intn(1<<28))) {
			m := model{c}
			holds(t, x, m, g)
			if m.root(g) != 0 {
				roots++
			}
			if m.router(g) >= 0 {
				routers++
			}
		}
	}
	if routers < 500 || roots-routers < 500 {
		t.Errorf("%d roots are found only, %d of them routers", roots, routers)
	}
}

// P0.4, P0.5: what is asked changes nothing, and hangs on the network alone; two networks are told apart, asked in turns.
func TestNothingChanged(t *testing.T) {
	r := rand.New(rand.NewSource(12))
	for range 20 {
		c, d := drawn(r), drawn(r)
		x, y := made(t, c), made(t, d)
		asked := append(around(c), around(d)...)
		for range 2 {
			for _, g := range asked {
				holds(t, x, model{c}, g)
				holds(t, y, model{d}, g)
			}
			slices.Reverse(asked)
		}
		if !conf.Same(x.Config(), c) || !conf.Same(y.Config(), d) {
			t.Errorf("the networks became\n%s\n%s", conf.Text(x.Config()), conf.Text(y.Config()))
		}
	}
}

// P10.1: whatever a valid network is made of, all is as found by asking item by item. Each 6 bytes are a port or a range.
func FuzzRoot(f *testing.F) {
	f.Add([]byte{}, uint32(firstGroup))
	f.Add([]byte{0, 1, 0, 0, 0, 5, 1, 4, 0, 0, 0, 5, 1, 12, 15, 0, 0, 6, 0, 0, 0, 0, 0, 6}, uint32(239<<24+1))
	f.Add([]byte{1, 32, 1, 2, 3, 9, 1, 8, 1, 2, 3, 9}, uint32(225<<24+2<<16+3<<8))
	f.Fuzz(func(t *testing.T, b []byte, g uint32) {
		c := api.Config{
			Routers: []api.Router{{Name: "a"}, {Name: "b"}},
			Links:   []api.Link{{Name: "l", Prefix: of(10<<24, 8)}, {Name: "m", Prefix: of(10<<24, 24)}},
		}
		for ; len(b) >= 6; b = b[6:] {
			if d := with(c, [6]byte(b)); conf.Valid(d) == nil {
				c = d
			}
		}
		x := made(t, c)
		for _, a := range append(around(c), api.Addr(g), firstGroup|api.Addr(g>>4)) {
			holds(t, x, model{c}, a)
		}
	})
}

// with is a network with one port or range more, as 6 bytes tell.
func with(c api.Config, b [6]byte) api.Config {
	a := 10<<24 + api.Addr(b[5])
	if b[0]%2 == 0 {
		c.Ports = append(slices.Clone(c.Ports), api.Port{Router: int(b[1] % 2), Link: int(b[2] % 2), Addr: a})
		return c
	}
	g := api.Addr(b[2])<<24 + api.Addr(b[3])<<16 + api.Addr(b[4])<<8
	c.Ranges = append(slices.Clone(c.Ranges), api.Range{Groups: of(firstGroup+g%(1<<28), int(b[1]%33)), Root: a})
	return c
}
