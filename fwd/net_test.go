package fwd_test

import (
	"math/rand"
	"slices"
	"strconv"
	"testing"

	"rivulet/api"
	"rivulet/conf"
	"rivulet/fwd"
	"rivulet/rpf"
	"rivulet/topo"
	"rivulet/want"
)

// firstGroup is the first address that is a group.
const firstGroup = api.Addr(224) << 24

// line is three routers in a row, a and b on mid, b and c on east, b the root; a source on the first link and one on the last.
const line = `router a 1
router b 2
router c 3
link west 10.1.0.0/16
link mid 10.2.0.0/16
link east 10.3.0.0/16
link last 10.4.0.0/16
port a west 10.1.0.1
port a mid 10.2.0.1
port b mid 10.2.0.2
port b east 10.3.0.2
port c east 10.3.0.3
port c last 10.4.0.3
route a 0.0.0.0/0 10.2.0.2 1
route b 10.1.0.0/16 10.2.0.1 1
route b 10.4.0.0/16 10.3.0.3 1
route c 0.0.0.0/0 10.3.0.2 1
root 225.0.0.0/8 10.3.0.2
source west 10.1.0.9 225.0.0.1
source last 10.4.0.9 225.0.0.1
`

// The places in line.
const (
	a, b, c                                = 0, 1, 2
	aWest, aMid, bMid, bEast, cEast, cLast = 0, 1, 2, 3, 4, 5
)

// made is who is where in a network, which has to be valid.
func made(t testing.TB, n api.Config) *topo.Topo {
	t.Helper()
	x, err := topo.New(n)
	if err != nil {
		t.Fatalf("New of\n%s= %v", conf.Text(n), err)
	}
	return x
}

// heard is a key of a source and a group, heard at a port.
func heard(port int, source, group api.Addr) want.Heard {
	return want.Heard{Port: port, Key: key(source, group)}
}

// P19.1: over a line two sources' packets go each by the rows of who is on their way: by one of the source, where there is one, else by that of any; what comes from the other end is not taken.
func TestDoOnALine(t *testing.T) {
	n, err := conf.Parse(line)
	if err != nil {
		t.Fatal(err)
	}
	x := made(t, n)
	west, last := n.Sources[0].Key.Source, n.Sources[1].Key.Source
	var l []want.Row
	for router, one := range [][]want.Heard{a: {heard(aMid, west, g1)}, b: {heard(bEast, 0, g1)}, c: {heard(cLast, 0, g1), heard(cEast, last, g1)}} {
		l = append(l, want.Rows(x, router, one...)...)
	}
	byWest, byLast, byAny := row(0, 0, 0, west, g1), row(0, 0, 0, last, g1), row(0, 0, 0, 0, g1)
	for _, ls := range [][]fwd.Lost{nil, losses(lost(cLast, last, g1), lost(aMid, 0, g1), lost(bEast, west, g2))} {
		does(t, a, l, ls, packet(aWest, west, g1), sent(byWest, aMid))
		does(t, b, l, ls, packet(bMid, west, g1), sent(byWest, bEast))
		does(t, c, l, ls, packet(cEast, west, g1), sent(byAny, cLast))
		does(t, a, l, ls, packet(aMid, west, g1), wrong(byWest))
		does(t, b, l, ls, packet(bEast, west, g1), wrong(byWest))
		does(t, c, l, ls, packet(cLast, west, g1), wrong(byAny))
		does(t, c, l, ls, packet(cLast, last, g1), sent(byLast, cEast))
		does(t, b, l, ls, packet(bEast, last, g1), sent(byLast))
		does(t, a, l, ls, packet(aMid, last, g1), none())
		does(t, c, l, ls, packet(cEast, last, g1), wrong(byLast))
		// The root takes nobody's by its row of any source: it is itself where that leads.
		does(t, b, l, ls, packet(bMid, last+1, g1), wrong(byAny))
		does(t, b, l, ls, packet(bEast, 0, g1), wrong(byAny))
	}
	ls := losses(lost(cLast, west, g1), lost(bEast, west, g1))
	does(t, b, l, ls, packet(bMid, west, g1), sent(byWest))
	does(t, c, l, ls, packet(cEast, west, g1), sent(byAny))
	does(t, c, l, ls, packet(cEast, west+1, g1), sent(byAny, cLast))
}

// drawn is a valid network of chance: links beside and within one another, routes by addresses of ports, roots that are ports', sources of few groups.
func drawn(r *rand.Rand) (n api.Config) {
	for i := range 1 + r.Intn(6) {
		n.Routers = append(n.Routers, api.Router{Name: "r" + strconv.Itoa(i)})
	}
	for i := range 1 + r.Intn(6) {
		p := api.Prefix{Addr: api.Addr(10+r.Intn(4)) << 24, Bits: []int{8, 8, 16, 24}[r.Intn(4)]}
		n.Links = append(n.Links, api.Link{Name: "l" + strconv.Itoa(i), Prefix: p})
	}
	for range 1 + r.Intn(24) {
		link := r.Intn(len(n.Links))
		p := api.Port{Router: r.Intn(len(n.Routers)), Link: link, Addr: nearby(r, n, link)}
		n = valid(n, func(d *api.Config) { d.Ports = append(d.Ports, p) })
	}
	for range r.Intn(30) {
		to := []api.Prefix{n.Links[r.Intn(len(n.Links))].Prefix, {}}[r.Intn(2)]
		way := api.Route{Router: r.Intn(len(n.Routers)), To: to, Via: someone(r, n), Cost: r.Intn(9)}
		n = valid(n, func(d *api.Config) { d.Routes = append(d.Routes, way) })
	}
	for range r.Intn(3) {
		at := api.Range{Groups: api.Prefix{Addr: firstGroup + api.Addr(2*r.Intn(2)), Bits: 31}, Root: someone(r, n)}
		n = valid(n, func(d *api.Config) { d.Ranges = append(d.Ranges, at) })
	}
	for range r.Intn(api.MaxSources + 1) {
		link := r.Intn(len(n.Links))
		s := api.Source{Link: link, Key: key(nearby(r, n, link), firstGroup+api.Addr(r.Intn(4)))}
		n = valid(n, func(d *api.Config) { d.Sources = append(d.Sources, s) })
	}
	return n
}

// valid is a network with something added to it; without it, if it would not be valid.
func valid(n api.Config, add func(d *api.Config)) api.Config {
	d := conf.Clone(n)
	add(&d)
	if conf.Valid(d) != nil {
		return n
	}
	return d
}

// nearby is an address of a link.
func nearby(r *rand.Rand, n api.Config, link int) api.Addr {
	return n.Links[link].Prefix.Addr + api.Addr(1+r.Intn(40))
}

// someone is mostly a port's address, or one of a link.
func someone(r *rand.Rand, n api.Config) api.Addr {
	if len(n.Ports) > 0 && r.Intn(10) > 0 {
		return n.Ports[r.Intn(len(n.Ports))].Addr
	}
	return nearby(r, n, r.Intn(len(n.Links)))
}

// keyOf is of chance a source's key, or one of any source, or one of a source that there is not.
func keyOf(r *rand.Rand, n api.Config) api.Key {
	switch m := r.Intn(10); {
	case m < 5 && len(n.Sources) > 0:
		return n.Sources[r.Intn(len(n.Sources))].Key
	case m < 8:
		return key(0, firstGroup+api.Addr(r.Intn(4)))
	}
	return key(someone(r, n), firstGroup+api.Addr(r.Intn(4)))
}

// rowsOf are all routers' rows of what was heard, of chance, at their ports.
func rowsOf(r *rand.Rand, x *topo.Topo, n api.Config) (l []want.Row) {
	var hs []want.Heard
	for range r.Intn(40) {
		hs = append(hs, want.Heard{Port: r.Intn(len(n.Ports) + 1), Key: keyOf(r, n)})
	}
	for router := range n.Routers {
		l = append(l, want.Rows(x, router, hs...)...)
	}
	return l
}

// lostOf are ports lost of chance for packets of a network.
func lostOf(r *rand.Rand, n api.Config) (ls []fwd.Lost) {
	for range r.Intn(12) {
		ls = append(ls, fwd.Lost{Port: r.Intn(len(n.Ports) + 1), Key: keyOf(r, n)})
	}
	return ls
}

// towards tells by which port a router would have a key's packets; false: by none.
func towards(x *topo.Topo, router int, k api.Key) (int, bool) {
	h, ok := rpf.Key(x, router, k)
	return h.In, ok && h.In >= 0
}

// P0.11: in networks of chance a router sends on just what came by the port towards its row's source or root, by its own ports, each once, and never back.
func TestSentAlways(t *testing.T) {
	r := rand.New(rand.NewSource(192))
	kinds := make([]int, 3)
	for range 400 {
		n := drawn(r)
		x := made(t, n)
		l, ls := rowsOf(r, x, n), lostOf(r, n)
		for range 30 {
			port := r.Intn(len(n.Ports) + 1)
			if port == len(n.Ports) {
				continue
			}
			router, p := n.Ports[port].Router, fwd.Packet{Key: keyOf(r, n), Port: port}
			d := fwd.Do(router, l, ls, p)
			kinds[d.Kind]++
			does(t, router, l, ls, p, deed(router, l, ls, p))
			if d.Kind == fwd.None {
				continue
			}
			if in, ok := towards(x, router, d.Row); (d.Kind == fwd.Sent) != (ok && in == port) {
				t.Errorf("router %d, %v: %v, of %d, %v in\n%s", router, p, d, in, ok, conf.Text(n))
			}
			onOwn(t, x, router, port, d.Out)
		}
	}
	if slices.Min(kinds) < 300 {
		t.Errorf("too few of a kind: %v", kinds)
	}
}

// onOwn fails where some of the ports by which a router sends on is none of its, or that by which it came in, or stands there twice.
func onOwn(t *testing.T, x *topo.Topo, router, in int, out []int) {
	t.Helper()
	for i, port := range out {
		if port == in || !slices.Contains(x.Of(router), port) || slices.Contains(out[:i], port) {
			t.Errorf("router %d sends on by %v what came by %d", router, out, in)
		}
	}
}
