package rib_test

import (
	"math"
	"math/rand"
	"slices"
	"strconv"
	"strings"
	"testing"

	"rivulet/addr"
	"rivulet/api"
	"rivulet/conf"
	"rivulet/rib"
	"rivulet/topo"
)

// connects fails where an address is connected by another port; -1 wanted is by none.
func connects(t *testing.T, x *topo.Topo, router int, a api.Addr, want int) {
	t.Helper()
	port, ok := rib.Connected(x, router, a)
	if ok != (want >= 0) || port != max(want, 0) {
		t.Errorf("Connected(%d, %s) = %d, %v, not %d", router, addr.Text(a), port, ok, want)
	}
}

// routes fails where there are other routes to an address, or they come in another order.
func routes(t *testing.T, x *topo.Topo, router int, a api.Addr, want ...int) {
	t.Helper()
	if got := rib.Routes(x, router, a); !slices.Equal(got, want) {
		t.Errorf("Routes(%d, %s) = %v, not %v", router, addr.Text(a), got, want)
	}
}

// looks fails where there is another way to an address.
func looks(t *testing.T, x *topo.Topo, router int, a api.Addr, want rib.Way) {
	t.Helper()
	if got, ok := rib.Look(x, router, a); got != want || !ok {
		t.Errorf("Look(%d, %s) = %v, %v, not %v", router, addr.Text(a), got, ok, want)
	}
}

// lost fails where there is a way to an address, or something beside the false.
func lost(t *testing.T, x *topo.Topo, router int, a api.Addr) {
	t.Helper()
	if got, ok := rib.Look(x, router, a); got != (rib.Way{}) || ok {
		t.Errorf("Look(%d, %s) = %v, %v, and there is no way", router, addr.Text(a), got, ok)
	}
}

// nothing fails where something is answered of a place that is no router's.
func nothing(t *testing.T, x *topo.Topo, router int, a api.Addr) {
	t.Helper()
	connects(t, x, router, a, -1)
	routes(t, x, router, a)
	lost(t, x, router, a)
}

// holds fails where an answer for an address is another one than the model's; it tells how many routes are behind one another, or why there is no way.
func holds(t *testing.T, x *topo.Topo, m model, router int, a api.Addr) int {
	t.Helper()
	port, _ := m.connected(router, a)
	connects(t, x, router, a, port)
	list, _ := m.longest(router, a)
	routes(t, x, router, a, list...)
	w, deep := m.look(router, a, 6)
	if deep < 0 {
		lost(t, x, router, a)
	} else {
		looks(t, x, router, a, w)
	}
	return deep
}

// nested is a network whose links lie within one another, several with one prefix; ports are not in the order of the links.
const nested = `router a 1
router b 2
router lone 3
link wide 10.0.0.0/8
link small 10.1.2.0/24
link mid 10.1.0.0/16
link again 10.1.0.0/16
link one 10.1.2.3/32
link half 0.0.0.0/1
link apart 10.200.0.0/13
port b small 10.1.2.9
port a again 10.1.0.9
port a mid 10.1.0.8
port a wide 10.0.0.1
port b mid 10.1.2.8
port a small 10.1.2.1
port b again 10.1.9.9
port a one 10.1.2.3
port b half 9.9.9.9
port a apart 10.207.255.255
`

// P9.1: of several links within one another the one with the most bits, of several with one prefix the first port.
func TestConnectedLongest(t *testing.T) {
	x := network(t, nested)
	for _, y := range []struct {
		router int
		s      string
		want   int
	}{
		{0, "10.0.0.0", 3}, {0, "10.255.255.255", 3}, {0, "10.0.255.255", 3}, {0, "10.2.0.0", 3},
		{0, "10.1.0.0", 1}, {0, "10.1.1.255", 1}, {0, "10.1.3.0", 1}, {0, "10.1.255.255", 1},
		{0, "10.1.2.0", 5}, {0, "10.1.2.2", 5}, {0, "10.1.2.4", 5}, {0, "10.1.2.255", 5},
		{0, "10.1.2.3", 7},
		{0, "10.199.255.255", 3}, {0, "10.200.0.0", 9}, {0, "10.207.255.255", 9}, {0, "10.208.0.0", 3},
		{1, "10.1.2.3", 0}, {1, "10.1.2.255", 0}, {1, "10.1.3.0", 4}, {1, "10.1.0.9", 4},
		{1, "10.2.0.0", 8}, {1, "0.0.0.0", 8}, {1, "127.255.255.255", 8},
	} {
		connects(t, x, y.router, number(t, y.s), y.want)
	}
}

// P9.1: an address that is on no link of the router, one just outside too, is on none; so is each of a router without ports.
func TestConnectedNone(t *testing.T) {
	x := network(t, nested)
	for _, y := range []struct {
		router int
		s      string
	}{
		{0, "9.255.255.255"}, {0, "11.0.0.0"}, {0, "0.0.0.0"}, {0, "255.255.255.255"}, {0, "138.1.2.3"},
		{1, "128.0.0.0"}, {1, "255.255.255.255"}, {1, "138.1.2.3"},
		{2, "10.1.2.3"}, {2, "0.0.0.0"}, {2, "10.0.0.1"},
	} {
		connects(t, x, y.router, number(t, y.s), -1)
		lost(t, x, y.router, number(t, y.s))
	}
}

// P9.1: links of each number of bits: an address is on one up to its ends, and not behind them.
func TestConnectedEnds(t *testing.T) {
	for bits := 1; bits <= 32; bits++ {
		for _, a := range []api.Addr{10<<24 + 0x5555, 0x55555555, 0x2aaaaaaa, 0xdfffffff, 1 << 31} {
			c := api.Config{
				Routers: []api.Router{{Name: "a"}},
				Links:   []api.Link{{Name: "l", Prefix: of(a, bits)}},
				Ports:   []api.Port{{Addr: a}},
			}
			if conf.Valid(c) != nil {
				continue // such a prefix has groups in it
			}
			x := made(t, c)
			for _, b := range append(ends(of(a, bits)), a, a^1<<(32-bits)) {
				holds(t, x, model{c}, 0, b)
			}
		}
	}
}

// P9.1, P9.2, P0.7: a place below 0, or past the end, is no router: nothing is answered, of what others have too.
func TestNoRouter(t *testing.T) {
	for _, s := range []string{"", nested, routed, chain(7)} {
		x := network(t, s)
		for _, router := range noRouters(len(x.Config().Routers)) {
			for _, a := range append(around(x.Config()), 10<<24+9) {
				nothing(t, x, router, a)
			}
		}
	}
	nothing(t, made(t, api.Config{}), 0, 10<<24)
}

// routed is a network whose routes' prefixes lie within one another, several with one prefix, of two routers in turns.
const routed = `router a 1
router b 2
router lone 3
link l 99.0.0.0/8
port b l 99.0.0.2
port a l 99.0.0.1
route b 0.0.0.0/0 99.0.0.1 1
route a 20.1.0.0/16 99.0.0.7 5
route a 20.0.0.0/8 99.0.0.3 9
route b 20.1.0.0/16 99.0.0.1 2
route a 20.1.0.0/16 99.0.0.5 3
route a 20.1.2.0/24 99.0.0.9 65535
route a 20.0.0.0/8 99.0.0.4 8
route a 20.1.0.0/16 99.0.0.6 3
route b 20.1.2.3/32 99.0.0.1 4
route a 224.0.0.0/4 99.0.0.8 0
`

// P9.1: the routes with the most bits, all of that prefix, rising, the router's own alone.
func TestRoutesLongest(t *testing.T) {
	x := network(t, routed)
	for _, y := range []struct {
		router int
		s      string
		want   []int
	}{
		{0, "20.0.0.0", []int{2, 6}}, {0, "20.0.255.255", []int{2, 6}}, {0, "20.2.0.0", []int{2, 6}}, {0, "20.255.255.255", []int{2, 6}},
		{0, "20.1.0.0", []int{1, 4, 7}}, {0, "20.1.1.255", []int{1, 4, 7}}, {0, "20.1.3.0", []int{1, 4, 7}}, {0, "20.1.255.255", []int{1, 4, 7}},
		{0, "20.1.2.0", []int{5}}, {0, "20.1.2.3", []int{5}}, {0, "20.1.2.255", []int{5}},
		{0, "224.0.0.0", []int{9}}, {0, "239.255.255.255", []int{9}},
		{0, "19.255.255.255", nil}, {0, "21.0.0.0", nil}, {0, "240.0.0.0", nil}, {0, "0.0.0.0", nil}, {0, "148.1.2.3", nil}, {0, "99.0.0.2", nil},
		{1, "20.1.2.3", []int{8}}, {1, "20.1.2.2", []int{3}}, {1, "20.1.2.4", []int{3}}, {1, "20.0.0.0", []int{0}},
		{1, "0.0.0.0", []int{0}}, {1, "255.255.255.255", []int{0}}, {1, "99.0.0.2", []int{0}},
		{2, "20.1.2.3", nil}, {2, "0.0.0.0", nil},
	} {
		routes(t, x, y.router, number(t, y.s), y.want...)
	}
}

// P9.1: as many routes of one router and one prefix as may be.
func TestRoutesMany(t *testing.T) {
	c := api.Config{Routers: []api.Router{{Name: "a"}, {Name: "b"}}}
	var all []int
	for i := range api.MaxRoutes {
		c.Routes = append(c.Routes, api.Route{Router: 1, To: of(20<<24, 8), Via: 1, Cost: api.MaxRoutes - i})
		all = append(all, i)
	}
	x := made(t, c)
	routes(t, x, 1, 20<<24+5, all...)
	routes(t, x, 0, 20<<24+5)
	routes(t, x, 1, 21<<24)
	lost(t, x, 1, 20<<24+5)
}

// P9.2: of the routes the one of the least cost, of several the first; with no port, or no route, what there is.
func TestLookLeastCost(t *testing.T) {
	x := network(t, routed)
	for _, y := range []struct {
		router int
		s      string
		want   rib.Way
	}{
		{0, "20.1.9.9", rib.Way{Port: 1, Via: 99<<24 + 5, Cost: 3}},
		{0, "20.9.9.9", rib.Way{Port: 1, Via: 99<<24 + 4, Cost: 8}},
		{0, "20.1.2.9", rib.Way{Port: 1, Via: 99<<24 + 9, Cost: 65535}},
		{0, "230.1.2.9", rib.Way{Port: 1, Via: 99<<24 + 8, Cost: 0}},
		{0, "99.9.9.9", rib.Way{Port: 1}},
		{0, "99.0.0.1", rib.Way{Port: 1}},
		{1, "20.1.2.3", rib.Way{Port: 0, Via: 99<<24 + 1, Cost: 4}},
		{1, "20.1.2.9", rib.Way{Port: 0, Via: 99<<24 + 1, Cost: 2}},
		{1, "21.1.2.3", rib.Way{Port: 0, Via: 99<<24 + 1, Cost: 1}},
		{1, "99.0.0.1", rib.Way{Port: 0}},
	} {
		looks(t, x, y.router, number(t, y.s), y.want)
	}
	for _, s := range []string{"21.1.2.3", "98.255.255.255", "100.0.0.0"} {
		lost(t, x, 0, number(t, s))
		lost(t, x, 2, number(t, s))
	}
}

// P9.2: a port is taken ahead of routes of as many bits, or fewer, however dear; a route of more bits ahead of it.
func TestLookConnectedOrRoute(t *testing.T) {
	const head = "router a 1\nlink hop 99.0.0.0/8\nlink l 10.1.0.0/16\nport a hop 99.0.0.1\nport a l 10.1.0.1\n"
	near := rib.Way{Port: 1}
	for _, y := range []struct {
		to   string
		want rib.Way
	}{
		{"0.0.0.0/0", near}, {"10.0.0.0/8", near}, {"10.0.0.0/15", near}, {"10.1.0.0/16", near},
		{"10.1.0.0/17", rib.Way{Via: 99<<24 + 9}}, {"10.1.2.0/24", rib.Way{Via: 99<<24 + 9}}, {"10.1.2.3/32", rib.Way{Via: 99<<24 + 9}},
		{"10.1.128.0/17", near}, {"10.1.2.2/32", near},
	} {
		x := network(t, head+"route a "+y.to+" 99.0.0.9 0\n")
		looks(t, x, 0, 10<<24+1<<16+2<<8+3, y.want)
		connects(t, x, 0, 10<<24+1<<16+2<<8+3, 1)
	}
	// The routes of fewer bits don't count, nor do another router's.
	x := network(t, head+"router b 1\nroute a 10.0.0.0/8 99.0.0.9 0\nroute a 10.1.2.0/24 99.0.0.8 7\nroute b 10.1.2.3/32 99.0.0.7 0\n")
	looks(t, x, 0, 10<<24+1<<16+2<<8+3, rib.Way{Via: 99<<24 + 8, Cost: 7})
	lost(t, x, 2, 10<<24+1<<16+2<<8+3)
	// A next hop is asked for likewise: its route of more bits is taken ahead of the port.
	x = network(t, head+"route a 20.0.0.0/8 10.1.2.3 5\nroute a 10.1.2.0/24 99.0.0.8 7\nroute a 21.0.0.0/8 10.1.3.3 5\n")
	looks(t, x, 0, 20<<24, rib.Way{Via: 99<<24 + 8, Cost: 12})
	looks(t, x, 0, 21<<24, rib.Way{Port: 1, Via: 10<<24 + 1<<16 + 3<<8 + 3, Cost: 5})
}

// chain is a network in which n routes stand behind one another: the address 1.0.0.0 is on a port's link, and each next one is by the one ahead, at the cost of its number.
func chain(n int) string {
	var b strings.Builder
	b.WriteString("router a 1\nlink l 1.0.0.0/8\nlink m 200.0.0.0/8\nport a m 200.0.0.1\nport a l 1.0.0.1\n")
	for i := n; i > 0; i-- {
		b.WriteString("route a " + strconv.Itoa(i+1) + ".0.0.0/8 " + strconv.Itoa(i) + ".0.0.77 " + strconv.Itoa(i) + "\n")
	}
	return b.String()
}

// P9.2: as many routes behind one another as MaxDeep, and not one more; costs are added, and Via is the next hop on the link.
func TestLookDeep(t *testing.T) {
	x := network(t, chain(12))
	looks(t, x, 0, 1<<24, rib.Way{Port: 1})
	for n, cost := range []int{1, 3, 6, 10, 15, 21} {
		looks(t, x, 0, api.Addr(n+2)<<24+5, rib.Way{Port: 1, Via: 1<<24 + 77, Cost: cost})
	}
	for n := 7; n <= 12; n++ {
		lost(t, x, 0, api.Addr(n+1)<<24+5)
		routes(t, x, 0, api.Addr(n+1)<<24+5, 12-n)
	}
}

// P9.2: costs added are at most MaxCost, wherever the dear ones stand.
func TestLookCostCut(t *testing.T) {
	for _, y := range []struct{ first, second, third, want int }{
		{0, 0, 0, 0}, {1, 2, 4, 7}, {65534, 1, 0, 65535}, {65533, 1, 0, 65534}, {65535, 0, 0, 65535},
		{65535, 1, 0, 65535}, {1, 65535, 0, 65535}, {0, 1, 65535, 65535}, {65535, 65535, 65535, 65535}, {32768, 32767, 0, 65535}, {32768, 32768, 0, 65535}, {30000, 30000, 30000, 65535},
	} {
		x := network(t, "router a 1\nlink l 1.0.0.0/8\nport a l 1.0.0.1\n"+
			"route a 2.0.0.0/8 1.0.0.9 "+strconv.Itoa(y.first)+"\n"+
			"route a 3.0.0.0/8 2.0.0.9 "+strconv.Itoa(y.second)+"\n"+
			"route a 4.0.0.0/8 3.0.0.9 "+strconv.Itoa(y.third)+"\n")
		looks(t, x, 0, 4<<24, rib.Way{Via: 1<<24 + 9, Cost: y.want})
	}
}

// P9.2: where the next hop is not there no other route is taken, be it dearer or of fewer bits, nor a port of fewer.
func TestLookNextHopGone(t *testing.T) {
	const head = "router a 1\nrouter b 1\nlink l 10.0.0.0/8\nlink m 30.0.0.0/8\nport a l 10.0.0.1\nport b m 30.0.0.1\n"
	for _, s := range []string{
		"route a 20.0.0.0/8 99.0.0.1 1\n",
		"route a 20.0.0.0/8 30.0.0.1 1\n",
		"route a 20.0.0.0/8 99.0.0.1 1\nroute a 20.0.0.0/8 10.0.0.9 2\n",
		"route a 20.0.0.0/8 99.0.0.1 1\nroute a 20.0.0.0/8 10.0.0.9 1\n",
		"route a 20.1.0.0/16 99.0.0.1 1\nroute a 20.0.0.0/8 10.0.0.9 1\n",
		"route a 20.1.0.0/16 99.0.0.1 1\nroute a 0.0.0.0/0 10.0.0.9 1\nroute a 96.0.0.0/4 98.0.0.1 1\n",
		"route a 20.0.0.0/8 21.0.0.1 1\nroute a 21.0.0.0/8 99.0.0.1 1\n",
		"route a 20.0.0.0/8 21.0.0.1 1\nroute b 21.0.0.0/8 10.0.0.9 1\n",
		"link inner 20.0.0.0/8\nport a inner 20.0.0.1\nroute a 20.1.0.0/16 99.0.0.1 1\n",
	} {
		lost(t, network(t, head+s), 0, 20<<24+1<<16+5)
	}
	x := network(t, head+"route a 20.0.0.0/8 99.0.0.1 2\nroute a 20.0.0.0/8 10.0.0.9 1\n")
	looks(t, x, 0, 20<<24, rib.Way{Via: 10<<24 + 9, Cost: 1})
}

// P9.2: routes whose next hops lead to one another have no way, and it ends.
func TestLookRound(t *testing.T) {
	const head = "router a 1\nlink l 10.0.0.0/8\nport a l 10.0.0.1\n"
	for _, s := range []string{
		"route a 20.0.0.0/8 20.0.0.1 1\n",
		"route a 20.0.0.0/8 20.0.0.1 0\n",
		"route a 0.0.0.0/0 20.0.0.1 65535\n",
		"route a 20.0.0.0/8 21.0.0.1 1\nroute a 21.0.0.0/8 20.0.0.1 1\n",
		"route a 20.0.0.0/8 21.0.0.1 1\nroute a 21.0.0.0/8 22.0.0.1 1\nroute a 22.0.0.0/8 20.0.0.1 1\n",
		"route a 20.0.0.0/8 21.0.0.1 1\nroute a 21.0.0.0/8 22.0.0.1 1\nroute a 22.0.0.0/8 21.0.0.1 1\n",
		"route a 20.0.0.0/8 10.1.0.1 1\nroute a 10.1.0.0/16 10.1.9.9 1\n",
	} {
		lost(t, network(t, head+s), 0, 20<<24+5)
	}
	// One behind another, with a route within it that leads out: none goes round.
	x := network(t, head+"route a 20.0.0.0/8 20.1.0.1 1\nroute a 20.1.0.0/16 20.1.1.1 1\nroute a 20.1.1.0/24 10.0.0.9 1\n")
	looks(t, x, 0, 20<<24+5, rib.Way{Via: 10<<24 + 9, Cost: 3})
}

// P9.2: Via is 0 of an address on a link, one of the router's own and the link's first and last too.
func TestLookOnLink(t *testing.T) {
	x := network(t, nested)
	for _, y := range []struct {
		s    string
		want int
	}{{"10.0.0.0", 3}, {"10.255.255.255", 3}, {"10.0.0.1", 3}, {"10.1.0.8", 1}, {"10.1.2.3", 7}, {"10.1.2.4", 5}, {"10.1.2.9", 5}} {
		looks(t, x, 0, number(t, y.s), rib.Way{Port: y.want})
	}
}

// P9.2: a next hop that is the router's own address is on its link, too.
func TestLookByItself(t *testing.T) {
	x := network(t, "router a 1\nlink l 10.0.0.0/8\nport a l 10.0.0.1\nroute a 20.0.0.0/8 10.0.0.1 4\n")
	looks(t, x, 0, 20<<24, rib.Way{Via: 10<<24 + 1, Cost: 4})
}

// P9.1, P9.2: as found by asking item by item, of many networks of chance: ways of each depth are among them, and none for each reason.
func TestAgainstItemByItem(t *testing.T) {
	r := rand.New(rand.NewSource(9))
	met := map[int]int{}
	for range 150 {
		c, asked := drawn(r)
		x := made(t, c)
		asked = append(asked, around(c)...)
		slices.Sort(asked)
		for _, a := range slices.Compact(asked) {
			for router := range c.Routers {
				met[holds(t, x, model{c}, router, a)]++
			}
			nothing(t, x, len(c.Routers), a)
			nothing(t, x, -1, a)
		}
	}
	for deep := tooDeep; deep <= api.MaxDeep; deep++ {
		if met[deep] < 50 {
			t.Errorf("%d ways only are of the depth %d", met[deep], deep)
		}
	}
}

// P9.1, P9.2: whatever a valid network is made of, all is as found by asking item by item. Each 6 bytes are an item.
func FuzzLook(f *testing.F) {
	f.Add([]byte{}, uint32(0))
	f.Add([]byte{0, 8, 10, 0, 0, 0, 1, 0, 0, 10, 1, 0, 2, 0, 8, 20, 10, 9}, uint32(20<<24))
	f.Add([]byte{0, 8, 10, 0, 0, 0, 1, 0, 0, 10, 1, 0, 2, 0, 8, 20, 21, 9, 2, 0, 8, 21, 10, 9, 2, 0, 0, 0, 20, 200}, uint32(21<<24+5))
	f.Fuzz(func(t *testing.T, b []byte, a uint32) {
		c := api.Config{Routers: []api.Router{{Name: "a"}, {Name: "b"}}}
		for ; len(b) >= 6; b = b[6:] {
			if d := with(c, [6]byte(b)); conf.Valid(d) == nil {
				c = d
			}
		}
		x := made(t, c)
		for _, one := range append(around(c), api.Addr(a)) {
			for _, router := range []int{0, 1} {
				holds(t, x, model{c}, router, one)
			}
			nothing(t, x, 2, one)
		}
		nothing(t, x, int(int32(a|1<<31)), math.MaxUint32)
	})
}

// with is a network with one item more, as 6 bytes tell.
func with(c api.Config, b [6]byte) api.Config {
	p := of(api.Addr(b[3])<<24, int(b[2]%33))
	switch b[0] % 3 {
	case 0:
		c.Links = append(slices.Clone(c.Links), api.Link{Name: "l" + strconv.Itoa(len(c.Links)), Prefix: p})
	case 1:
		c.Ports = append(slices.Clone(c.Ports), api.Port{Router: int(b[1] % 2), Link: int(b[2]), Addr: api.Addr(b[3])<<24 + api.Addr(b[4])})
	case 2:
		c.Routes = append(slices.Clone(c.Routes), api.Route{Router: int(b[1] % 2), To: p, Via: api.Addr(b[4]) << 24, Cost: int(b[5]) * 257})
	}
	return c
}
