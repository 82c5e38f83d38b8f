package quer_test

import (
	"math"
	"math/rand"
	"slices"
	"strconv"
	"testing"

	"rivulet/api"
	"rivulet/conf"
	"rivulet/quer"
	"rivulet/topo"
)

// rising are addresses from the first to the last one, with those at which a number that has a sign, or fewer bits, would go wrong.
var rising = []api.Addr{0, 1, 2, 9, 10, 255, 256, 65535, 65536, 10<<24 + 1, math.MaxInt32 - 1, math.MaxInt32, 1 << 31, 1<<31 + 1, 200 << 24, math.MaxUint32 - 1, math.MaxUint32}

// first fails where the least of some addresses is at another place, or where they are changed; -1 wanted is none.
func first(t *testing.T, want int, l ...api.Addr) {
	t.Helper()
	ahead := slices.Clone(l)
	if n, ok := quer.Least(l...); n != max(want, 0) || ok != (want >= 0) {
		t.Errorf("Least(%v) = %d, %v, not %d", l, n, ok, want)
	}
	if !slices.Equal(l, ahead) {
		t.Errorf("Least made %v of %v", l, ahead)
	}
}

// asks fails where another port asks on a link; -1 wanted is none.
func asks(t *testing.T, x *topo.Topo, link, want int) {
	t.Helper()
	if port, ok := quer.Of(x, link); port != max(want, 0) || ok != (want >= 0) {
		t.Errorf("Of(%d) = %d, %v, not %d, of\n%s", link, port, ok, want, conf.Text(x.Config()))
	}
}

// holds fails where on some link another port asks than found by asking port by port, or where on no link one does.
func holds(t *testing.T, x *topo.Topo, c api.Config) {
	t.Helper()
	for link := range c.Links {
		asks(t, x, link, asker(c, link))
	}
	for _, link := range noLinks(len(c.Links)) {
		asks(t, x, link, -1)
	}
}

// steps fails where a tick makes another turn, or where what was heard is changed.
func steps(t *testing.T, want, u quer.Turn, own api.Addr, heard ...api.Addr) {
	t.Helper()
	ahead := slices.Clone(heard)
	if got := quer.Step(u, own, heard...); got != want {
		t.Errorf("Step(%v, %d, %v) = %v, not %v", u, own, heard, got, want)
	}
	if !slices.Equal(heard, ahead) {
		t.Errorf("Step made %v of %v", heard, ahead)
	}
}

// P13.1: of none there is none.
func TestLeastOfNone(t *testing.T) {
	first(t, -1)
	first(t, -1, nil...)
	first(t, -1, []api.Addr{}...)
}

// P13.1: of one it is that one, whatever it is.
func TestLeastOfOne(t *testing.T) {
	for _, a := range rising {
		first(t, 0, a)
	}
}

// P13.1: of any two the lesser one, of the same ones the first.
func TestLeastOfTwo(t *testing.T) {
	for i, a := range rising {
		for j, b := range rising {
			want := 0
			if j < i {
				want = 1
			}
			first(t, want, a, b)
		}
	}
}

// P13.1: of up to five, in any order, several alike or not: the first than which none is less.
func TestLeastInAnyOrder(t *testing.T) {
	few := []api.Addr{0, 7, 1<<31 - 1, 1 << 31, math.MaxUint32}
	var try func(l []api.Addr)
	try = func(l []api.Addr) {
		want := -1
		if len(l) > 0 {
			want = slices.Index(l, slices.Min(l))
		}
		first(t, want, l...)
		if len(l) == len(few) {
			return
		}
		for _, a := range few {
			try(append(slices.Clone(l), a))
		}
	}
	try(nil)
}

// P13.1: of several alike that are the least the first, wherever they stand.
func TestLeastAlike(t *testing.T) {
	first(t, 0, 3, 3, 3)
	first(t, 1, 4, 3, 3, 4, 3)
	first(t, 0, 3, 4, 3)
	first(t, 2, 4, 4, 3, 3)
	first(t, 1, math.MaxUint32, 0, 0)
	first(t, 0, make([]api.Addr, 100)...)
	first(t, 0, slices.Repeat([]api.Addr{math.MaxUint32}, 100)...)
	first(t, 50, slices.Concat(slices.Repeat([]api.Addr{2}, 50), slices.Repeat([]api.Addr{1}, 50))...)
}

// P13.1: of very many, the least of them anywhere.
func TestLeastOfMany(t *testing.T) {
	r := rand.New(rand.NewSource(13))
	for range 50 {
		l := make([]api.Addr, 1+r.Intn(2000))
		for i := range l {
			l[i] = 8 + api.Addr(r.Uint32())>>1
		}
		n := r.Intn(len(l))
		l[n] = 7
		first(t, n, l...)
		l[len(l)-1] = 7
		first(t, n, l...)
	}
}

// P0.4: what lies behind the length of what is handed in is neither read nor written.
func TestBehindTheEnd(t *testing.T) {
	full := []api.Addr{9, 8, 6, 5, 0}
	same := slices.Clone(full)
	for n := range len(full) + 1 {
		// Each one is less than all ahead of it: the last one within is the least.
		first(t, n-1, full[:n]...)
		want := quer.Turn{Asks: 1}
		if n > 2 {
			want = quer.Turn{Other: api.Hold}
		}
		steps(t, want, quer.Turn{}, 7, full[:n]...)
		if !slices.Equal(full, same) {
			t.Fatalf("%v became %v", same, full)
		}
	}
}

// mixed is a network whose ports are neither in the order of the routers nor of the links nor of the addresses, and whose ranks say otherwise than these.
const mixed = `router low 1
router high 9
router zero 0
router top 65535
link one 10.1.0.0/16
link tie 10.2.0.0/16
link bare 10.4.0.0/16
link all 10.5.0.0/16
link high 200.0.0.0/6
link within 10.5.0.0/24
link zeros 0.0.0.0/1
port zero one 10.1.0.1
port high tie 10.2.1.0
port top tie 10.2.0.7
port low tie 10.2.255.255
port low all 10.5.0.9
port top all 10.5.255.255
port high all 10.5.0.5
port zero all 10.5.0.200
port low high 200.0.0.2
port zero high 200.0.0.1
port top within 10.5.0.8
port high within 10.5.0.1
port low zeros 127.255.255.255
port top zeros 0.0.0.1
`

// P13.1: Of a link without ports, with one, with several.
func TestOf(t *testing.T) {
	x := network(t, mixed)
	for link, want := range []int{0, 2, -1, 6, 9, 11, 13} {
		asks(t, x, link, want)
	}
	holds(t, x, x.Config())
}

// P13.1, P0.7: at places below 0 and past the end no port asks, be the network empty or not.
func TestOfNoLink(t *testing.T) {
	for _, s := range []string{"", "router a 1\n", "link l 10.0.0.0/8\n", "router a 1\nlink l 10.0.0.0/8\nport a l 10.0.0.1\n", mixed} {
		x := network(t, s)
		for _, link := range noLinks(len(x.Config().Links)) {
			asks(t, x, link, -1)
		}
	}
}

// P13.1: one link with as many routers as may be, the least address at each place.
func TestOfFullLink(t *testing.T) {
	r := rand.New(rand.NewSource(14))
	for place := range api.MaxRouters {
		c := api.Config{Links: []api.Link{{Name: "bare", Prefix: api.Prefix{Addr: 9 << 24, Bits: 8}}, {Name: "full", Prefix: api.Prefix{Addr: 128 << 24, Bits: 2}}}}
		for i, n := range r.Perm(api.MaxRouters) {
			c.Routers = append(c.Routers, api.Router{Name: "r" + strconv.Itoa(i), Rank: n})
			c.Ports = append(c.Ports, api.Port{Router: i, Link: 1, Addr: 160<<24 + api.Addr(n)})
		}
		c.Ports[place].Addr = 128<<24 + api.Addr(r.Intn(2))
		x := made(t, c)
		asks(t, x, 1, place)
		holds(t, x, c)
	}
}

// P13.1: as found by asking port by port, of many networks of chance.
func TestOfAgainstPorts(t *testing.T) {
	r := rand.New(rand.NewSource(15))
	none, ahead, behind := 0, 0, 0
	for range 500 {
		c := drawn(r)
		x := made(t, c)
		holds(t, x, c)
		for link := range c.Links {
			switch on := x.On(link); {
			case len(on) == 0:
				none++
			case asker(c, link) == on[0]:
				ahead++
			default:
				behind++
			}
		}
	}
	if min(none, ahead, behind) < 100 {
		t.Errorf("%d links without ports, %d on which the first port asks, %d with another one: too few", none, ahead, behind)
	}
}

// P13.1: a network's other things tell nothing: ranks, routes, roots, sources, members.
func TestOfBesideOthers(t *testing.T) {
	c := network(t, mixed).Config()
	d := network(t, mixed+"route low 0.0.0.0/0 10.2.0.7 0\nroot 224.0.0.0/4 10.2.1.0\nsource tie 10.2.0.1 239.0.0.1\nmember tie 239.0.0.1 but\nmember bare 239.0.0.1 but\n").Config()
	holds(t, made(t, d), c)
	for i := range d.Routers {
		d.Routers[i].Rank = api.MaxCost - d.Routers[i].Rank
	}
	holds(t, made(t, d), c)
}

// P0.4, P0.5: what is asked changes nothing, and hangs on the network alone; two networks are told apart, asked in turns.
func TestNothingChanged(t *testing.T) {
	r := rand.New(rand.NewSource(16))
	for range 20 {
		c, d := drawn(r), drawn(r)
		x, y := made(t, c), made(t, d)
		for range 2 {
			holds(t, x, c)
			holds(t, y, d)
		}
		if !conf.Same(x.Config(), c) || !conf.Same(y.Config(), d) {
			t.Errorf("the networks became\n%s\n%s", conf.Text(x.Config()), conf.Text(y.Config()))
		}
	}
}

// P13.1, 'Examples': from a zero Turn, nothing heard: it asks.
func TestStepOfZero(t *testing.T) {
	for _, own := range rising {
		steps(t, quer.Turn{Asks: 1}, quer.Turn{}, own)
		steps(t, quer.Turn{Asks: 1}, quer.Turn{}, own, nil...)
		steps(t, quer.Turn{Asks: 1}, quer.Turn{}, own, []api.Addr{}...)
	}
}

// someTurns are turns of every kind: those that Step makes, and those with numbers that it never makes.
func someTurns() (all []quer.Turn) {
	for _, asks := range []int{math.MinInt, -1, 0, 1, 2, math.MaxInt} {
		for other := range 3 * api.Hold {
			all = append(all, quer.Turn{Asks: asks, Other: other}, quer.Turn{Asks: asks, Other: -other})
		}
		for _, other := range []int{math.MinInt, math.MinInt + 1, math.MinInt32, math.MaxInt32, 1 << 32, 1<<32 + 1, math.MaxInt - 1, math.MaxInt} {
			all = append(all, quer.Turn{Asks: asks, Other: other})
		}
	}
	return all
}

// alone is the turn behind a tick in which none less was heard.
func alone(u quer.Turn) quer.Turn {
	switch {
	case u.Other <= 1:
		return quer.Turn{Asks: 1, Other: 0}
	default:
		return quer.Turn{Asks: 0, Other: u.Other - 1}
	}
}

// P13.1: of any turn, one other heard: Hold, if it is less than one's own; else it is as if none were heard, be it greater or one's own.
func TestStepOfOneHeard(t *testing.T) {
	for _, u := range someTurns() {
		for i, own := range rising {
			steps(t, alone(u), u, own)
			for j, other := range rising {
				want := alone(u)
				if j < i {
					want = quer.Turn{Asks: 0, Other: api.Hold}
				}
				steps(t, want, u, own, other)
			}
		}
	}
}

// P13.1: one less address among those heard is enough, wherever it stands, and several are no more than one.
func TestStepOfSeveralHeard(t *testing.T) {
	hold := quer.Turn{Other: 3}
	for _, u := range someTurns() {
		steps(t, hold, u, 5, 4, 9, 9)
		steps(t, hold, u, 5, 9, 4, 9)
		steps(t, hold, u, 5, 9, 9, 4)
		steps(t, hold, u, 5, 5, 5, 0)
		steps(t, hold, u, 5, 4, 4, 3, 0)
		steps(t, hold, u, 5, 4, math.MaxUint32)
		steps(t, alone(u), u, 5, 5)
		steps(t, alone(u), u, 5, 5, 5, 5)
		steps(t, alone(u), u, 5, 6, 5, 9)
		steps(t, alone(u), u, 5, math.MaxUint32, 6, 1<<31)
		steps(t, alone(u), u, 0, 0, 1, math.MaxUint32)
	}
}

// P13.1: the lesser address anywhere among very many.
func TestStepOfManyHeard(t *testing.T) {
	r := rand.New(rand.NewSource(17))
	for range 50 {
		heard := make([]api.Addr, 1+r.Intn(2000))
		for i := range heard {
			heard[i] = 1<<20 + api.Addr(r.Uint32())>>1
		}
		u := quer.Turn{Asks: r.Intn(2), Other: r.Intn(5)}
		steps(t, alone(u), u, 1<<20, heard...)
		heard[r.Intn(len(heard))] = 1<<20 - 1
		steps(t, quer.Turn{Other: api.Hold}, u, 1<<20, heard...)
	}
}

// P13.1: Other is counted down from Hold to 0, and stays; it asks where that is 0 alone.
func TestStepDown(t *testing.T) {
	for _, heard := range [][]api.Addr{nil, {5}, {9, 6}} {
		u := quer.Step(quer.Turn{Asks: 1}, 5, 4)
		if want := (quer.Turn{Asks: 0, Other: 3}); u != want {
			t.Fatalf("it begins at %v", u)
		}
		for _, want := range []quer.Turn{{Asks: 0, Other: 2}, {Asks: 0, Other: 1}, {Asks: 1, Other: 0}, {Asks: 1, Other: 0}, {Asks: 1, Other: 0}} {
			steps(t, want, u, 5, heard...)
			u = quer.Step(u, 5, heard...)
		}
	}
}

// P13.1: heard again on the way down, it is Hold once more.
func TestStepDownAgain(t *testing.T) {
	for ticks := range 2 * api.Hold {
		u := quer.Step(quer.Turn{}, 5, 4)
		for range ticks {
			u = quer.Step(u, 5)
		}
		steps(t, quer.Turn{Other: api.Hold}, u, 5, 4)
	}
}

// ticked are all routers' turns a tick later, where each one hears who asked in the tick before, itself too.
func ticked(turns map[api.Addr]quer.Turn) map[api.Addr]quer.Turn {
	var heard []api.Addr
	for a, u := range turns {
		if u.Asks == 1 {
			heard = append(heard, a)
		}
	}
	next := make(map[api.Addr]quer.Turn)
	for a, u := range turns {
		next[a] = quer.Step(u, a, heard...)
	}
	return next
}

// P13.1: routers that hear each other come to one that asks, that of the least address; where it goes away, the next one.
func TestStepOfAll(t *testing.T) {
	turns := make(map[api.Addr]quer.Turn)
	for _, a := range rising {
		turns[a] = quer.Turn{}
	}
	for _, least := range rising {
		for range 2*api.Hold + 2 {
			turns = ticked(turns)
		}
		for range 5 {
			turns = ticked(turns)
			for a, u := range turns {
				want := quer.Turn{Other: api.Hold}
				if a == least {
					want = quer.Turn{Asks: 1}
				}
				if u != want {
					t.Fatalf("%d has %v, where %d is the least", a, u, least)
				}
			}
		}
		delete(turns, least)
	}
}

// P13.1: of any turn, any own address and any three heard.
func FuzzStep(f *testing.F) {
	f.Add(0, 0, uint32(5), uint32(5), uint32(6), uint32(7))
	f.Add(1, 3, uint32(5), uint32(9), uint32(6), uint32(4))
	f.Add(1, math.MinInt, uint32(0), uint32(0), uint32(1<<31), uint32(math.MaxUint32))
	f.Add(-1, math.MaxInt, uint32(1<<31), uint32(1), uint32(1<<31-1), uint32(math.MaxUint32))
	f.Fuzz(func(t *testing.T, asks, other int, own, a, b, c uint32) {
		u, want := quer.Turn{Asks: asks, Other: other}, quer.Turn{Other: api.Hold}
		if min(own, a, b, c) == own {
			want = alone(u)
		}
		heard := []api.Addr{api.Addr(a), api.Addr(b), api.Addr(c)}
		steps(t, want, u, api.Addr(own), heard...)
		first(t, slices.Index(heard, slices.Min(heard)), heard...)
	})
}
