package rpf_test

import (
	"cmp"
	"math/rand"
	"slices"
	"strconv"
	"strings"
	"testing"

	"rivulet/addr"
	"rivulet/api"
	"rivulet/conf"
	"rivulet/rib"
	"rivulet/rpf"
	"rivulet/topo"
)

// steps fails where a router's step is another one.
func steps(t *testing.T, x *topo.Topo, router int, a api.Addr, want rpf.Hop) {
	t.Helper()
	if h, ok := rpf.To(x, router, a); h != want || !ok {
		t.Errorf("To(%d, %s) = %+v, %v, not %+v", router, addr.Text(a), h, ok, want)
	}
}

// stuck fails where a router has a step, or something beside the false.
func stuck(t *testing.T, x *topo.Topo, router int, a api.Addr) {
	t.Helper()
	if h, ok := rpf.To(x, router, a); h != (rpf.Hop{}) || ok {
		t.Errorf("To(%d, %s) = %+v, %v, and there is no way", router, addr.Text(a), h, ok)
	}
}

// joins fails where a router's step towards a key is another one, or there is one though none is wanted.
func joins(t *testing.T, x *topo.Topo, router int, k api.Key, want rpf.Hop, is bool) {
	t.Helper()
	if h, ok := rpf.Key(x, router, k); h != want || ok != is {
		t.Errorf("Key(%d, (%s, %s)) = %+v, %v, not %+v, %v", router, addr.Text(k.Source), addr.Text(k.Group), h, ok, want, is)
	}
}

// chains fails where the routers of a chain are others; none wanted is a false.
func chains(t *testing.T, x *topo.Topo, router int, a api.Addr, want ...int) {
	t.Helper()
	l, ok := rpf.Chain(x, router, a)
	if !slices.Equal(l, want) || ok != (len(want) > 0) {
		t.Errorf("Chain(%d, %s) = %v, %v, not %v", router, addr.Text(a), l, ok, want)
	}
}

// rounds fails where a network goes round, or doesn't, other than wanted.
func rounds(t *testing.T, x *topo.Topo, want bool) {
	t.Helper()
	if got := rpf.Round(x); got != want {
		t.Errorf("Round() = %v, not %v, of\n%s", got, want, conf.Text(x.Config()))
	}
}

// nothing fails where something is answered of a place that is no router's.
func nothing(t *testing.T, x *topo.Topo, router int, a api.Addr) {
	t.Helper()
	stuck(t, x, router, a)
	chains(t, x, router, a)
	joins(t, x, router, api.Key{Source: a, Group: firstGroup}, rpf.Hop{}, false)
	joins(t, x, router, api.Key{Group: a}, rpf.Hop{}, false)
}

// holds fails where an answer for a router and an address is another one than the model's.
func holds(t *testing.T, x *topo.Topo, m model, router int, a api.Addr) {
	t.Helper()
	h, is := m.to(router, a)
	if is {
		steps(t, x, router, a, h)
		chain, _ := m.chain(router, a)
		chains(t, x, router, a, chain...)
	} else {
		stuck(t, x, router, a)
		chains(t, x, router, a)
	}
	for _, k := range []api.Key{{Source: a, Group: firstGroup}, {Source: a}, {Group: a}, {Group: firstGroup + a%16}} {
		h, is := m.key(router, k)
		joins(t, x, router, k, h, is)
	}
}

// row is three routers in a row, a and b on mid, b and c on east; a router without ports; ports not in the order of routers or links; a source on west, and one on mid.
const row = `router a 1
router b 2
router c 3
router lone 4
link east 10.3.0.0/16
link mid 10.2.0.0/16
link west 10.1.0.0/16
link far 10.4.0.0/16
port c east 10.3.0.3
port b mid 10.2.0.2
port a west 10.1.0.1
port a mid 10.2.0.1
port b east 10.3.0.2
port c far 10.4.0.3
route a 10.3.0.0/16 10.2.0.2 1
route a 10.4.0.0/16 10.2.0.2 2
route b 10.1.0.0/16 10.2.0.1 5
route b 10.4.0.0/16 10.3.0.3 7
route c 0.0.0.0/0 10.3.0.2 4
route a 50.0.0.0/8 10.2.0.9 11
route a 51.0.0.0/8 10.2.0.77 12
route a 52.0.0.0/8 10.2.0.1 13
route a 53.0.0.0/8 10.1.0.1 14
route a 54.0.0.0/8 10.3.0.3 100
route a 55.0.0.0/8 10.4.0.3 65535
route b 56.0.0.0/8 10.3.0.2 9
route a 57.0.0.0/8 58.0.0.1 9
route c 59.0.0.0/8 10.3.0.2 0
root 224.0.0.0/4 10.3.0.2
root 239.0.0.0/8 10.4.0.3
root 232.0.0.0/8 99.0.0.1
root 232.1.0.0/16 10.1.0.9
source west 10.1.0.9 239.0.0.1
source mid 10.2.0.9 239.0.0.1
member far 224.1.0.1 but
member far 232.0.0.7 only 10.1.0.9
member west 239.0.0.1 but 10.1.0.9
`

// P11.1: towards its own address, of each of its ports, a router has no port to go by.
func TestToOwn(t *testing.T) {
	x := network(t, row)
	c := x.Config()
	for _, p := range c.Ports {
		for router := range c.Routers {
			if h, ok := rpf.To(x, router, p.Addr); (ok && h.In == -1) != (router == p.Router) {
				t.Errorf("To(%d, %s) = %+v, %v, and the address is router %d's", router, addr.Text(p.Addr), h, ok, p.Router)
			}
		}
		steps(t, x, p.Router, p.Addr, rpf.Hop{In: -1, Up: -1, There: true})
		chains(t, x, p.Router, p.Addr, p.Router)
	}
}

// P11.1: an own address is taken ahead of rib's way: be it by a route of more bits, or by another port of more bits, or one ahead of it.
func TestToOwnAhead(t *testing.T) {
	const head = "router a 1\nrouter b 1\nlink l 10.0.0.0/8\nlink m 10.0.0.0/8\nlink in 10.1.0.0/16\nport a l 10.0.0.1\nport b l 10.0.0.9\nport a m 10.1.0.2\nport a in 10.1.0.3\n"
	for _, s := range []string{"", "route a 10.1.0.2/32 10.0.0.9 7\nroute a 10.0.0.1/32 10.0.0.9 7\n", "route a 10.0.0.0/8 99.0.0.1 1\nroute a 10.1.0.3/32 98.0.0.1 1\n"} {
		x := network(t, head+s)
		for _, a := range []api.Addr{10<<24 + 1, 10<<24 + 1<<16 + 2, 10<<24 + 1<<16 + 3} {
			steps(t, x, 0, a, rpf.Hop{In: -1, Up: -1, There: true})
			chains(t, x, 0, a, 0)
		}
		steps(t, x, 0, 10<<24+9, rpf.Hop{In: 0, Up: 1, There: true})
	}
}

// P11.1: an address on one of the router's links is there: up is who has it, if a router does; nobody, if it is a source's, nobody's or the link's first or last.
func TestToOnLink(t *testing.T) {
	x := network(t, row)
	for _, y := range []struct {
		router int
		s      string
		in, up int
	}{
		{0, "10.2.0.2", 3, 1}, {1, "10.2.0.1", 1, 3}, {1, "10.3.0.3", 4, 0}, {2, "10.3.0.2", 0, 4},
		{0, "10.1.0.9", 2, -1}, {0, "10.2.0.9", 3, -1}, {1, "10.2.0.9", 1, -1},
		{0, "10.1.0.2", 2, -1}, {0, "10.2.0.3", 3, -1}, {1, "10.3.7.7", 4, -1}, {2, "10.4.0.4", 5, -1},
		{0, "10.1.0.0", 2, -1}, {0, "10.1.255.255", 2, -1}, {1, "10.3.0.0", 4, -1}, {2, "10.4.255.255", 5, -1},
	} {
		steps(t, x, y.router, number(t, y.s), rpf.Hop{In: y.in, Up: y.up, There: true})
	}
}

// P11.1: an address reached by routes is not there; up is who has the next hop on the link, though the address be another router's; the cost is that of all routes behind one another.
func TestToByRoutes(t *testing.T) {
	x := network(t, row)
	for _, y := range []struct {
		router       int
		s            string
		in, up, cost int
	}{
		{0, "10.3.0.2", 3, 1, 1}, {0, "10.3.0.3", 3, 1, 1}, {0, "10.3.9.9", 3, 1, 1}, {0, "10.4.0.3", 3, 1, 2},
		{1, "10.1.0.1", 1, 3, 5}, {1, "10.1.0.9", 1, 3, 5}, {1, "10.4.0.3", 4, 0, 7}, {1, "10.4.1.1", 4, 0, 7},
		{2, "10.1.0.9", 0, 4, 4}, {2, "10.2.0.2", 0, 4, 4}, {2, "10.2.0.1", 0, 4, 4}, {2, "255.255.255.255", 0, 4, 4}, {2, "0.0.0.0", 0, 4, 4}, {2, "239.0.0.1", 0, 4, 4},
		{0, "54.1.1.1", 3, 1, 101}, {0, "55.1.1.1", 3, 1, 65535}, {2, "59.1.1.1", 0, 4, 0},
	} {
		steps(t, x, y.router, number(t, y.s), rpf.Hop{In: y.in, Up: y.up, Cost: y.cost})
	}
}

// P11.1: a next hop that no other router has on that link is nobody's: a source's, nobody's, the port's own, another of its own ports'.
func TestToNextHopNobody(t *testing.T) {
	x := network(t, row)
	for _, y := range []struct {
		router   int
		s        string
		in, cost int
	}{
		{0, "50.0.0.1", 3, 11}, {0, "51.0.0.1", 3, 12}, {0, "52.0.0.1", 3, 13}, {0, "53.0.0.1", 2, 14}, {1, "56.0.0.1", 4, 9},
	} {
		steps(t, x, y.router, number(t, y.s), rpf.Hop{In: y.in, Up: -1, Cost: y.cost})
		chains(t, x, y.router, number(t, y.s), y.router)
	}
}

// P11.1: who has the address on another link, beside, within or around that one, is not up, be it a router's port.
func TestToOtherLink(t *testing.T) {
	const head = `router a 1
router b 2
router c 3
link l 10.0.0.0/8
link same 10.0.0.0/8
link in 10.1.0.0/16
link apart 20.0.0.0/8
port a l 10.0.0.1
port a same 10.0.0.11
port b same 10.0.0.2
port c in 10.1.0.3
port b l 10.2.0.2
port b apart 20.0.0.2
port a in 10.1.0.1
port c l 10.1.0.4
port c same 10.0.0.3
`
	x := network(t, head+"route a 30.0.0.0/8 10.0.0.2 1\nroute a 31.0.0.0/8 10.2.0.2 2\nroute a 32.0.0.0/8 10.1.0.4 3\nroute a 33.0.0.0/8 10.1.0.3 4\nroute a 34.0.0.0/8 10.0.0.11 5\nroute a 35.0.0.0/8 10.0.0.1 6\n")
	for _, y := range []struct {
		s          string
		route      int
		in, up     int
		otherwhere string
	}{
		{"10.0.0.2", 30, 0, -1, "b's on same, and l is the first of these"},
		{"10.2.0.2", 31, 0, 4, "b's on l"},
		{"10.1.0.4", 32, 6, -1, "c's on l, and in has more bits"},
		{"10.1.0.3", 33, 6, 3, "c's on in"},
		{"10.0.0.3", 0, 0, -1, "c's on same"},
	} {
		steps(t, x, 0, number(t, y.s), rpf.Hop{In: y.in, Up: y.up, There: true})
		if y.route > 0 {
			steps(t, x, 0, api.Addr(y.route)<<24, rpf.Hop{In: y.in, Up: y.up, Cost: y.route - 29})
		}
	}
	// By its own address on same, which l takes in: nobody is up.
	steps(t, x, 0, 34<<24, rpf.Hop{In: 0, Up: -1, Cost: 5})
	steps(t, x, 0, 35<<24, rpf.Hop{In: 0, Up: -1, Cost: 6})
	stuck(t, x, 0, 20<<24+2)
	// a's own address on a link that c asks for by another one.
	steps(t, x, 2, 10<<24+1, rpf.Hop{In: 7, Up: 0, There: true})
	steps(t, x, 2, 10<<24+11, rpf.Hop{In: 7, Up: -1, There: true})
	steps(t, x, 2, 10<<24+1<<16+1, rpf.Hop{In: 3, Up: 6, There: true})
}

// P11.1: false, where rib.Look has no way: none at all, or to no next hop; a router without ports; an empty network.
func TestToNone(t *testing.T) {
	x := network(t, row)
	for _, s := range []string{"10.5.0.1", "9.255.255.255", "0.0.0.0", "255.255.255.255", "99.0.0.1", "57.0.0.1", "58.0.0.1"} {
		stuck(t, x, 0, number(t, s))
		chains(t, x, 0, number(t, s))
		joins(t, x, 0, api.Key{Source: number(t, s) | 1, Group: firstGroup}, rpf.Hop{}, false)
	}
	for _, a := range around(x.Config()) {
		stuck(t, x, 3, a)
		chains(t, x, 3, a)
	}
	nothing(t, made(t, api.Config{}), 0, 10<<24+1)
}

// P11.1, P11.2, P0.7: a place below 0, or past the end, is no router: nothing is answered, of what others have too.
func TestNoRouter(t *testing.T) {
	for _, s := range []string{"", row, ring(3), line(4)} {
		x := network(t, s)
		for _, router := range noRouters(len(x.Config().Routers)) {
			for _, a := range append(around(x.Config()), 10<<24+9, firstGroup+5, 239<<24+1) {
				nothing(t, x, router, a)
			}
		}
	}
}

// P11.1: Key of a source's key is To of its source, whatever the group and its root; of any source's, To of the group's root.
func TestKey(t *testing.T) {
	x := network(t, row)
	for _, y := range []struct {
		router        int
		source, group string
		want          rpf.Hop
	}{
		{0, "10.1.0.9", "239.0.0.1", rpf.Hop{In: 2, Up: -1, There: true}},
		{1, "10.1.0.9", "239.0.0.1", rpf.Hop{In: 1, Up: 3, Cost: 5}},
		{1, "10.1.0.9", "224.0.0.1", rpf.Hop{In: 1, Up: 3, Cost: 5}},
		{1, "10.1.0.9", "0.0.0.0", rpf.Hop{In: 1, Up: 3, Cost: 5}},
		{1, "10.1.0.9", "10.3.0.2", rpf.Hop{In: 1, Up: 3, Cost: 5}},
		{1, "10.3.0.2", "239.0.0.1", rpf.Hop{In: -1, Up: -1, There: true}},
		{2, "0.0.0.1", "239.0.0.1", rpf.Hop{In: 0, Up: 4, Cost: 4}},
		{2, "224.0.0.1", "239.0.0.1", rpf.Hop{In: 0, Up: 4, Cost: 4}},
		{0, "0.0.0.0", "224.1.0.1", rpf.Hop{In: 3, Up: 1, Cost: 1}},
		{1, "0.0.0.0", "224.1.0.1", rpf.Hop{In: -1, Up: -1, There: true}},
		{2, "0.0.0.0", "224.1.0.1", rpf.Hop{In: 0, Up: 4, There: true}},
		{0, "0.0.0.0", "239.0.0.1", rpf.Hop{In: 3, Up: 1, Cost: 2}},
		{1, "0.0.0.0", "239.0.0.1", rpf.Hop{In: 4, Up: 0, Cost: 7}},
		{2, "0.0.0.0", "239.0.0.1", rpf.Hop{In: -1, Up: -1, There: true}},
		{2, "0.0.0.0", "232.0.0.1", rpf.Hop{In: 0, Up: 4, Cost: 4}},
		{0, "0.0.0.0", "232.1.0.1", rpf.Hop{In: 2, Up: -1, There: true}},
	} {
		joins(t, x, y.router, api.Key{Source: number(t, y.source), Group: number(t, y.group)}, y.want, true)
	}
	for _, g := range []string{"0.0.0.0", "10.3.0.2", "10.1.0.9", "223.255.255.255", "240.0.0.0", "255.255.255.255"} {
		for router := range 3 {
			joins(t, x, router, api.Key{Group: number(t, g)}, rpf.Hop{}, false)
		}
	}
	// A root to which there is no way, and a router without ports.
	joins(t, x, 0, api.Key{Group: number(t, "232.0.0.1")}, rpf.Hop{}, false)
	joins(t, x, 3, api.Key{Group: number(t, "224.1.0.1")}, rpf.Hop{}, false)
	joins(t, x, 3, api.Key{Source: number(t, "10.1.0.9"), Group: number(t, "224.1.0.1")}, rpf.Hop{}, false)
}

// P11.1: without ranges no group has a root; towards a source there is a way nevertheless, a default one towards 0 too.
func TestKeyNoRanges(t *testing.T) {
	x := network(t, "router a 1\nlink l 10.0.0.0/8\nport a l 10.0.0.1\nroute a 0.0.0.0/0 10.0.0.9 3\nsource l 10.0.0.8 239.0.0.1\n")
	joins(t, x, 0, api.Key{Source: 10<<24 + 8, Group: 239<<24 + 1}, rpf.Hop{In: 0, Up: -1, There: true}, true)
	joins(t, x, 0, api.Key{Group: 239<<24 + 1}, rpf.Hop{}, false)
	joins(t, x, 0, api.Key{}, rpf.Hop{}, false)
	steps(t, x, 0, 0, rpf.Hop{In: 0, Up: -1, Cost: 3})
}

// routers are so many routers, all of them on one link.
func routers(n int) string {
	var b strings.Builder
	b.WriteString("link l 10.0.0.0/8\n")
	for i := range n {
		name := "r" + strconv.Itoa(i)
		b.WriteString("router " + name + " 1\nport " + name + " l 10.0.0." + strconv.Itoa(i+1) + "\n")
	}
	return b.String()
}

// route is a line: from a router to 30.0.0.0/8 by another one.
func route(from, by int) string {
	return "route r" + strconv.Itoa(from) + " 30.0.0.0/8 10.0.0." + strconv.Itoa(by+1) + " 1\n"
}

// line is so many routers, each of which but the first goes by the one ahead to 30.0.0.0/8, on which the first is.
func line(n int) string {
	s := routers(n) + "link end 30.0.0.0/8\nport r0 end 30.0.0.1\n"
	for i := range n - 1 {
		s += route(i+1, i)
	}
	return s
}

// ring is so many routers, each of which goes to 30.0.0.0/8 by the one behind it, the last by the first.
func ring(n int) string {
	s := routers(n)
	for i := range n {
		s += route(i, (i+1)%n)
	}
	return s
}

// P11.2: a line of routers, as many as may be, down to the one that is on the link, or has the address.
func TestChainLine(t *testing.T) {
	for _, n := range []int{1, 2, 3, api.MaxRouters} {
		x := network(t, line(n)+"root 224.0.0.0/4 30.0.0.1\nmember end 224.0.0.1 only 30.0.0.9\nsource end 30.0.0.7 224.0.0.1\n")
		var want []int
		for router := range n {
			want = append([]int{router}, want...)
			for _, a := range []api.Addr{30<<24 + 1, 30<<24 + 9, 30 << 24, 31<<24 - 1} {
				chains(t, x, router, a, want...)
			}
		}
		rounds(t, x, false)
	}
	x := network(t, row)
	for _, y := range []struct {
		router int
		s      string
		want   []int
	}{
		{2, "10.1.0.9", []int{2, 1, 0}}, {2, "10.1.0.1", []int{2, 1, 0}}, {1, "10.1.0.9", []int{1, 0}}, {0, "10.1.0.9", []int{0}},
		{0, "10.4.0.3", []int{0, 1, 2}}, {0, "10.4.9.9", []int{0, 1, 2}}, {1, "10.4.0.3", []int{1, 2}}, {2, "10.4.0.3", []int{2}},
		{0, "10.2.0.2", []int{0, 1}}, {1, "10.2.0.1", []int{1, 0}}, {0, "10.2.0.9", []int{0}}, {2, "10.2.0.9", []int{2, 1}},
	} {
		chains(t, x, y.router, number(t, y.s), y.want...)
	}
	rounds(t, x, false)
}

// P11.2: a chain ends with a router that has no way, if that is not the first, and with one whose next hop is nobody's.
func TestChainEnds(t *testing.T) {
	s := routers(5) + route(4, 3) + route(3, 2) + route(2, 1)
	aims := "member l 224.0.0.1 only 30.0.0.1\nroot 224.0.0.0/4 30.0.0.2\n"
	for _, x := range []*topo.Topo{
		network(t, s+aims),
		network(t, s+route(1, 76)+aims),
		network(t, s+route(1, 1)+aims),
		network(t, s+"route r1 30.0.0.0/8 31.0.0.1 1\nroute r1 31.0.0.0/8 30.0.0.1 1\n"+aims),
	} {
		for router, want := range [][]int{nil, nil, {2, 1}, {3, 2, 1}, {4, 3, 2, 1}} {
			if router != 1 {
				chains(t, x, router, 30<<24+1, want...)
			}
		}
		rounds(t, x, false)
	}
	chains(t, network(t, s), 1, 30<<24+1)
	chains(t, network(t, s+route(1, 1)), 1, 30<<24+1, 1)
}

// P11.2: false, and no routers, of a chain that goes round, and of one that comes into such a ring from beside.
func TestChainRound(t *testing.T) {
	for _, n := range []int{2, 3, 7, api.MaxRouters} {
		x := network(t, ring(n))
		for router := range n {
			chains(t, x, router, 30<<24+1)
			steps(t, x, router, 30<<24+1, rpf.Hop{In: router, Up: (router + 1) % n, Cost: 1})
			chains(t, x, router, 10<<24+100, router)
		}
	}
	// 5, 4 come into the ring of 1, 2, 3; 0, 6 lead beside it.
	x := network(t, routers(7)+route(1, 2)+route(2, 3)+route(3, 1)+route(4, 2)+route(5, 4)+route(6, 0))
	for router := 1; router <= 5; router++ {
		chains(t, x, router, 30<<24+1)
	}
	chains(t, x, 0, 30<<24+1)
	chains(t, x, 6, 30<<24+1, 6, 0)
}

// P11.2: a way goes round for some addresses of a prefix alone, where longer ones lead out of the ring.
func TestChainWayOut(t *testing.T) {
	x := network(t, ring(3)+"route r1 30.1.0.0/16 10.0.0.99 1\nroute r2 30.2.0.0/16 99.0.0.1 1\n")
	chains(t, x, 0, 30<<24+1<<16, 0, 1)
	chains(t, x, 1, 30<<24+1<<16, 1)
	chains(t, x, 2, 30<<24+1<<16, 2, 0, 1)
	chains(t, x, 0, 30<<24+2<<16, 0, 1, 2)
	chains(t, x, 2, 30<<24+2<<16)
	chains(t, x, 0, 30<<24+3<<16)
}

// P11.2: Round, where ways go round towards a source, a listed address, a root, wherever it stands; not where they do towards something else alone.
func TestRound(t *testing.T) {
	const link = "link s 30.0.0.0/8\nlink o 40.0.0.0/8\n"
	for _, y := range []struct {
		s    string
		want bool
	}{
		{"", false},
		{"source s 30.0.0.1 224.0.0.1\n", true},
		{"source o 40.0.0.1 224.0.0.1\nsource s 30.0.0.1 224.0.0.1\n", true},
		{"source s 30.0.0.1 224.0.0.1\nsource o 40.0.0.1 224.0.0.1\n", true},
		{"source o 40.0.0.1 224.0.0.1\n", false},
		{"member l 224.0.0.1 only 30.0.0.1\n", true},
		{"member l 224.0.0.1 but 30.0.0.1\n", true},
		{"member l 224.0.0.1 only 40.0.0.1 40.0.0.2 40.0.0.3 30.0.0.1\n", true},
		{"member l 224.0.0.1 but 30.0.0.1 40.0.0.1\n", true},
		{"member l 224.0.0.1 only\nmember l 224.0.0.1 but\nmember s 224.0.0.1 only 30.0.0.1\n", true},
		{"member l 224.0.0.1 but\nmember s 224.0.0.1 but\n", false},
		{"member s 224.0.0.1 only 40.0.0.1 10.0.0.1 10.0.0.2 10.0.0.77\n", false},
		{"root 224.0.0.0/4 30.0.0.1\n", true},
		{"root 224.0.0.0/4 40.0.0.1\nroot 239.0.0.0/8 30.255.255.255\nroot 232.0.0.0/8 10.0.0.1\n", true},
		{"root 224.0.0.0/4 10.0.0.2\nmember s 224.0.0.1 but\n", false},
		{"root 224.0.0.0/4 10.0.0.2\nroot 225.0.0.0/8 10.0.0.77\nroot 226.0.0.0/8 40.0.0.1\nroot 227.0.0.0/8 99.0.0.1\n", false},
		{"source o 40.0.0.1 224.0.0.1\nmember l 224.0.0.1 only 40.0.0.1\nroot 224.0.0.0/4 10.0.0.1\n", false},
		{"source o 40.0.0.1 224.0.0.1\nmember l 224.0.0.1 only 40.0.0.1\nroot 224.0.0.0/4 30.0.0.1\n", true},
	} {
		rounds(t, network(t, ring(4)+link+y.s), y.want)
	}
}

// P11.2: ways that go round towards a group, a port's address, a route's next hop, a link's prefix, 0, aren't asked for.
func TestRoundElsewhere(t *testing.T) {
	const all = "route r0 0.0.0.0/0 10.0.0.2 1\nroute r1 0.0.0.0/0 10.0.0.1 1\nroute r2 60.0.0.0/8 50.0.0.1 1\nlink o 50.0.0.0/8\nport r2 o 50.0.0.1\n"
	const things = "source l 10.0.0.99 224.0.0.1\nmember o 224.0.0.1 but 10.0.0.98\nmember l 224.0.0.2 only 10.0.0.99\nroot 224.0.0.0/4 10.0.0.3\n"
	x := network(t, routers(3)+all+things)
	for _, a := range []api.Addr{0, 50<<24 + 1, 60 << 24, 224<<24 + 1, 20 << 24} {
		chains(t, x, 0, a)
		chains(t, x, 1, a)
	}
	rounds(t, x, false)
	rounds(t, network(t, routers(3)+all+things+"member o 224.0.0.2 only 50.0.0.1\n"), true)
	rounds(t, network(t, routers(3)+all+things+"root 225.0.0.0/8 50.0.0.1\n"), true)
	rounds(t, network(t, routers(3)+all+things+"source o 50.0.0.9 225.0.0.1\n"), true)
	rounds(t, network(t, routers(3)+all), false)
}

// P11.2: rings of each size, at each place of as many routers as may be; what comes into one goes round, too.
func TestRoundPlaces(t *testing.T) {
	const aim = "root 224.0.0.0/4 30.0.0.1\n"
	for first := range api.MaxRouters - 1 {
		s := routers(api.MaxRouters) + route(first, first+1)
		rounds(t, network(t, s+aim), false)
		rounds(t, network(t, s+route(first+1, first)+aim), true)
		rounds(t, network(t, s+route(first+1, (first+2)%api.MaxRouters)+route((first+2)%api.MaxRouters, first)+aim), true)
	}
	for n := 2; n <= api.MaxRouters; n++ {
		rounds(t, network(t, ring(n)+aim), true)
		rounds(t, network(t, ring(n)), false)
		rounds(t, network(t, line(n)+aim), false)
	}
}

// P11.2: an empty network, and one of routers alone, go nowhere round; nor do aims without routers.
func TestRoundEmpty(t *testing.T) {
	for _, s := range []string{"", "router a 1\nrouter b 1\n", routers(3), "link l 10.0.0.0/8\nsource l 10.0.0.1 224.0.0.1\nmember l 224.0.0.1 only 10.0.0.1\nroot 224.0.0.0/4 10.0.0.1\n"} {
		rounds(t, network(t, s), false)
	}
}

// tally counts what kinds of answers there are of a router and an address.
func tally(met map[string]int, m model, router int, a api.Addr) {
	h, ok := m.to(router, a)
	w, _ := rib.Look(m.x, router, a)
	_, some := m.x.At(cmp.Or(w.Via, a))
	chain, round := m.chain(router, a)
	for kind, is := range map[string]bool{
		"no way":               !ok,
		"own":                  h.In == -1,
		"there, up":            ok && h.There && h.Up >= 0,
		"there, nobody's":      ok && h.There && h.In >= 0 && h.Up < 0,
		"there, on other link": ok && h.There && h.In >= 0 && h.Up < 0 && some,
		"by routes, up":        ok && !h.There && h.Up >= 0,
		"by routes, nobody's":  ok && !h.There && h.Up < 0,
		"by routes, wrong one": ok && !h.There && h.Up < 0 && some,
		"round":                round,
		"chain of 3 and more":  len(chain) > 2,
	} {
		if is {
			met[kind]++
		} else {
			met[kind] += 0
		}
	}
}

// P11.1, P11.2: as found by asking item by item, of many networks of chance.
func TestAgainstItemByItem(t *testing.T) {
	r := rand.New(rand.NewSource(11))
	met := map[string]int{}
	for range 400 {
		c := drawn(r)
		x := made(t, c)
		m := model{x, c}
		asked := append(around(c), api.Addr(r.Uint32()))
		slices.Sort(asked)
		for _, a := range slices.Compact(asked) {
			for router := range c.Routers {
				holds(t, x, m, router, a)
				tally(met, m, router, a)
			}
			nothing(t, x, len(c.Routers), a)
			nothing(t, x, -1, a)
		}
	}
	for kind, n := range met {
		if n < 100 {
			t.Errorf("%d only are: %s", n, kind)
		}
	}
}

// P11.2: Round as found by asking chain by chain, of many networks of chance: for each kind of aim that it alone goes round.
func TestRoundAgainstChains(t *testing.T) {
	r := rand.New(rand.NewSource(12))
	var none, sources, listed, roots int
	for i := range 4000 {
		c := wound(r)
		if i%4 == 0 {
			c = drawn(r)
		}
		x := made(t, c)
		s, l, o := model{x, c}.rounds()
		rounds(t, x, s+l+o > 0)
		switch {
		case s+l+o == 0:
			none++
		case l+o == 0:
			sources++
		case s+o == 0:
			listed++
		case s+l == 0:
			roots++
		}
	}
	if min(none, sources, listed, roots) < 30 {
		t.Errorf("%d networks only go round nowhere, %d towards sources alone, %d towards listed ones, %d towards roots", none, sources, listed, roots)
	}
}

// P11.1, P11.2: whatever a valid network is made of, all is as found by asking item by item. Each 6 bytes are an item.
func FuzzRpf(f *testing.F) {
	f.Add([]byte{}, uint32(0))
	f.Add([]byte{0, 0, 8, 10, 0, 0, 1, 0, 0, 10, 1, 0, 1, 1, 0, 10, 2, 0, 2, 0, 8, 20, 10, 2, 2, 1, 8, 20, 10, 1, 5, 4, 224, 0, 20, 1}, uint32(20<<24))
	f.Add([]byte{0, 0, 8, 10, 0, 0, 0, 0, 16, 10, 0, 0, 1, 0, 0, 10, 1, 0, 1, 1, 1, 10, 2, 0, 3, 0, 0, 10, 9, 0, 4, 1, 0, 20, 1, 0}, uint32(10<<24+2))
	f.Fuzz(func(t *testing.T, b []byte, a uint32) {
		c := api.Config{Routers: []api.Router{{Name: "a"}, {Name: "b"}, {Name: "c"}}}
		for ; len(b) >= 6; b = b[6:] {
			c = valid(with(c, [6]byte(b)), c)
		}
		x := made(t, c)
		m := model{x, c}
		for _, one := range append(around(c), api.Addr(a)) {
			for router := range c.Routers {
				holds(t, x, m, router, one)
			}
			nothing(t, x, 3, one)
			nothing(t, x, int(int32(a|1<<31)), one)
		}
		sources, listed, roots := m.rounds()
		rounds(t, x, sources+listed+roots > 0)
	})
}

// with is a network with one item more, as 6 bytes tell.
func with(c api.Config, b [6]byte) api.Config {
	a := api.Addr(b[3])<<24 + api.Addr(b[4])
	group := firstGroup + api.Addr(b[5])
	switch b[0] % 6 {
	case 0:
		c.Links = append(slices.Clone(c.Links), api.Link{Name: "l" + strconv.Itoa(len(c.Links)), Prefix: of(a, int(b[2]%33))})
	case 1:
		c.Ports = append(slices.Clone(c.Ports), api.Port{Router: int(b[1] % 3), Link: int(b[2] % 4), Addr: a})
	case 2:
		c.Routes = append(slices.Clone(c.Routes), api.Route{Router: int(b[1] % 3), To: of(a, int(b[2]%33)), Via: api.Addr(b[4])<<24 + api.Addr(b[5]), Cost: int(b[1]) * 257})
	case 3:
		c.Sources = append(slices.Clone(c.Sources), api.Source{Link: int(b[1] % 4), Key: api.Key{Source: a, Group: group}})
	case 4:
		c.Members = append(slices.Clone(c.Members), api.Member{Link: int(b[1] % 4), Group: group, Only: b[2]%2 == 0, Sources: []api.Addr{a, a + 1}})
	case 5:
		c.Ranges = append(slices.Clone(c.Ranges), api.Range{Groups: of(group, int(b[1]%33)), Root: a})
	}
	return c
}
