package seat_test

import (
	"cmp"
	"math"
	"math/rand"
	"slices"
	"strconv"
	"testing"

	"rivulet/api"
	"rivulet/conf"
	"rivulet/seat"
	"rivulet/topo"
)

// rising are bids, each better than all ahead of it: ranks below 0 and above all limits, addresses up to the last one.
var rising = []seat.Bid{
	{Rank: math.MinInt, Addr: 0},
	{Rank: math.MinInt, Addr: math.MaxUint32},
	{Rank: math.MinInt + 1, Addr: 0},
	{Rank: math.MinInt32, Addr: 7},
	{Rank: -2, Addr: 9},
	{Rank: -1, Addr: 0},
	{Rank: -1, Addr: 1},
	{Rank: 0, Addr: 0},
	{Rank: 0, Addr: 1},
	{Rank: 0, Addr: math.MaxInt32},
	{Rank: 0, Addr: 1 << 31},
	{Rank: 0, Addr: math.MaxUint32},
	{Rank: 1, Addr: 0},
	{Rank: 1, Addr: 9},
	{Rank: 1, Addr: 10},
	{Rank: 2, Addr: 1},
	{Rank: 10, Addr: 0},
	{Rank: api.MaxCost, Addr: 10<<24 + 1},
	{Rank: api.MaxCost, Addr: 10<<24 + 1<<16},
	{Rank: api.MaxCost, Addr: 200 << 24},
	{Rank: api.MaxCost + 1, Addr: 0},
	{Rank: math.MaxInt32, Addr: 5},
	{Rank: 1 << 32, Addr: 4},
	{Rank: 1<<32 + 1, Addr: 3},
	{Rank: math.MaxInt - 1, Addr: math.MaxUint32},
	{Rank: math.MaxInt, Addr: 0},
	{Rank: math.MaxInt, Addr: 1},
	{Rank: math.MaxInt, Addr: math.MaxUint32},
}

// chosen fails where the best of some bids is at another place, or where they are changed; -1 wanted is none.
func chosen(t *testing.T, want int, l ...seat.Bid) {
	t.Helper()
	ahead := slices.Clone(l)
	if n, ok := seat.Best(l...); n != max(want, 0) || ok != (want >= 0) {
		t.Errorf("Best(%v) = %d, %v, not %d", l, n, ok, want)
	}
	if !slices.Equal(l, ahead) {
		t.Errorf("Best made %v of %v", l, ahead)
	}
}

// seated fails where another port speaks for a link; -1 wanted is none.
func seated(t *testing.T, x *topo.Topo, link, want int) {
	t.Helper()
	if port, ok := seat.Of(x, link); port != max(want, 0) || ok != (want >= 0) {
		t.Errorf("Of(%d) = %d, %v, not %d, of\n%s", link, port, ok, want, conf.Text(x.Config()))
	}
}

// holds fails where some link's seat is another one than found by asking port by port, or where no link has one.
func holds(t *testing.T, x *topo.Topo, c api.Config) {
	t.Helper()
	for link := range c.Links {
		seated(t, x, link, speaker(c, link))
	}
	for _, link := range noLinks(len(c.Links)) {
		seated(t, x, link, -1)
	}
}

// P12.1: Better is by Rank, of equal ranks by Addr; of the same ones neither.
func TestBetter(t *testing.T) {
	for i, a := range rising {
		for j, b := range rising {
			if got := seat.Better(a, b); got != (i > j) {
				t.Errorf("Better(%v, %v) = %v", a, b, got)
			}
		}
	}
}

// P12.1: of none there is none.
func TestBestOfNone(t *testing.T) {
	chosen(t, -1)
	chosen(t, -1, nil...)
	chosen(t, -1, []seat.Bid{}...)
}

// P12.1, 'Examples': of one it is that one, whatever it is.
func TestBestOfOne(t *testing.T) {
	for _, b := range rising {
		chosen(t, 0, b)
	}
}

// P12.1: of any two the better one, of the same ones the first.
func TestBestOfTwo(t *testing.T) {
	for i, a := range rising {
		for j, b := range rising {
			want := 0
			if j > i {
				want = 1
			}
			chosen(t, want, a, b)
		}
	}
}

// P12.1: of up to five, in any order, several alike or not: the first than which none is better.
func TestBestInAnyOrder(t *testing.T) {
	few := []seat.Bid{{Rank: -1, Addr: 8}, {Rank: 0, Addr: 3}, {Rank: 0, Addr: 9}, {Rank: 4, Addr: 1}, {Rank: 4, Addr: 2}}
	var try func(places []int)
	try = func(places []int) {
		l := make([]seat.Bid, len(places))
		want := -1
		for i, place := range places {
			l[i] = few[place]
			if want < 0 || place > places[want] {
				want = i
			}
		}
		chosen(t, want, l...)
		if len(places) == 5 {
			return
		}
		for place := range few {
			try(append(slices.Clone(places), place))
		}
	}
	try(nil)
}

// P12.1: of several alike that are the best the first, wherever they stand.
func TestBestAlike(t *testing.T) {
	good, bad := seat.Bid{Rank: 3, Addr: 3}, seat.Bid{Rank: 3, Addr: 2}
	chosen(t, 0, good, good, good)
	chosen(t, 1, bad, good, good, bad, good)
	chosen(t, 0, good, bad, good)
	chosen(t, 2, bad, bad, good, good)
	chosen(t, 0, slices.Repeat([]seat.Bid{{}}, 100)...)
	chosen(t, 50, slices.Concat(slices.Repeat([]seat.Bid{bad}, 50), slices.Repeat([]seat.Bid{good}, 50))...)
}

// P12.1: of very many, the best of them anywhere.
func TestBestOfMany(t *testing.T) {
	r := rand.New(rand.NewSource(12))
	for range 50 {
		l := make([]seat.Bid, 1+r.Intn(2000))
		for i := range l {
			l[i] = rising[r.Intn(len(rising)-1)]
		}
		n := r.Intn(len(l))
		l[n] = rising[len(rising)-1]
		chosen(t, n, l...)
		l[len(l)-1] = rising[len(rising)-1]
		chosen(t, n, l...)
	}
}

// P0.4: what lies behind the length of what is handed in is neither read nor written.
func TestBehindTheEnd(t *testing.T) {
	full := []seat.Bid{{Rank: 1, Addr: 1}, {Rank: 2, Addr: 1}, {Rank: 2, Addr: 2}, {Rank: 3, Addr: 1}}
	same := slices.Clone(full)
	for n := range len(full) + 1 {
		// Each one is better than all ahead of it: the last one within is the best.
		chosen(t, n-1, full[:n]...)
		if !slices.Equal(full, same) {
			t.Fatalf("%v became %v", same, full)
		}
	}
}

// mixed is a network whose ports are neither in the order of the routers nor of the links nor of the addresses nor of the ranks.
const mixed = `router low 1
router high 9
router also 9
router zero 0
router top 65535
router lone 65535
link one 10.1.0.0/16
link tie 10.2.0.0/16
link rank 10.3.0.0/16
link bare 10.4.0.0/16
link all 10.5.0.0/16
link zeros 10.6.0.0/16
link within 10.5.0.0/24
port zero one 10.1.0.1
port also tie 10.2.0.7
port high tie 10.2.1.0
port low tie 10.2.255.255
port low rank 10.3.0.200
port high rank 10.3.0.1
port zero rank 10.3.0.250
port low all 10.5.0.9
port top all 10.5.0.1
port also all 10.5.255.255
port high all 10.5.0.5
port zero all 10.5.0.200
port zero zeros 10.6.0.1
port also within 10.5.0.70
port high within 10.5.0.8
`

// P12.1: Of a link without ports, with one, with several, of the same rank and of others.
func TestOf(t *testing.T) {
	x := network(t, mixed)
	for link, want := range []int{0, 2, 5, -1, 8, 12, 13} {
		seated(t, x, link, want)
	}
	holds(t, x, x.Config())
}

// P12.1, P0.7: places below 0 and past the end have no seat, be the network empty or not.
func TestOfNoLink(t *testing.T) {
	for _, s := range []string{"", "router a 1\n", "link l 10.0.0.0/8\n", "router a 1\nlink l 10.0.0.0/8\nport a l 10.0.0.1\n", mixed} {
		x := network(t, s)
		for _, link := range noLinks(len(x.Config().Links)) {
			seated(t, x, link, -1)
		}
	}
}

// P12.1: one link with as many routers as may be, of one rank, of rising ranks, of falling ones, in any order of the ports.
func TestOfFullLink(t *testing.T) {
	r := rand.New(rand.NewSource(13))
	for _, rank := range []func(i int) int{
		func(int) int { return 0 },
		func(int) int { return api.MaxCost },
		func(i int) int { return i },
		func(i int) int { return api.MaxCost - i },
		func(i int) int { return i * 5 % 16 / 4 },
	} {
		c := api.Config{Links: []api.Link{{Name: "bare", Prefix: api.Prefix{Addr: 9 << 24, Bits: 8}}, {Name: "full", Prefix: api.Prefix{Addr: 10 << 24, Bits: 8}}}}
		for i := range api.MaxRouters {
			c.Routers = append(c.Routers, api.Router{Name: "r" + strconv.Itoa(i), Rank: rank(i)})
			c.Ports = append(c.Ports, api.Port{Router: i, Link: 1, Addr: 10<<24 + api.Addr(1+i*7%16)})
		}
		for range 40 {
			best := slices.MaxFunc(c.Ports, func(a, b api.Port) int {
				return cmp.Or(rank(a.Router)-rank(b.Router), int(a.Addr)-int(b.Addr))
			})
			x := made(t, c)
			seated(t, x, 1, slices.Index(c.Ports, best))
			holds(t, x, c)
			r.Shuffle(len(c.Ports), func(i, j int) { c.Ports[i], c.Ports[j] = c.Ports[j], c.Ports[i] })
		}
	}
}

// P12.1: as found by asking port by port, of many networks of chance.
func TestOfAgainstPorts(t *testing.T) {
	r := rand.New(rand.NewSource(14))
	none, first, behind := 0, 0, 0
	for range 500 {
		c := drawn(r)
		x := made(t, c)
		holds(t, x, c)
		for link := range c.Links {
			switch on := x.On(link); {
			case len(on) == 0:
				none++
			case speaker(c, link) == on[0]:
				first++
			default:
				behind++
			}
		}
	}
	if min(none, first, behind) < 100 {
		t.Errorf("%d links without ports, %d whose first port is the seat, %d with another one: too few", none, first, behind)
	}
}

// P12.1: a network's other things tell nothing: routes, roots, sources, members.
func TestOfBesideOthers(t *testing.T) {
	c := network(t, mixed).Config()
	x := network(t, mixed+"route low 0.0.0.0/0 10.3.0.1 0\nroot 224.0.0.0/4 10.3.0.200\nsource tie 10.2.255.254 239.0.0.1\nmember tie 239.0.0.1 but\nmember bare 239.0.0.1 but\n")
	holds(t, x, c)
}

// P12.1: a router of another rank has other seats: by its address, where it is now as good as others.
func TestOfAnotherRank(t *testing.T) {
	c := network(t, mixed).Config()
	c.Routers[0].Rank = 9
	x := made(t, c)
	for link, want := range []int{0, 3, 4, -1, 8, 12, 13} {
		seated(t, x, link, want)
	}
}

// P0.4, P0.5: what is asked changes nothing, and hangs on the network alone; two networks are told apart, asked in turns.
func TestNothingChanged(t *testing.T) {
	r := rand.New(rand.NewSource(15))
	for range 20 {
		c, d := drawn(r), drawn(r)
		x, y := made(t, c), made(t, d)
		for range 2 {
			holds(t, x, c)
			holds(t, y, d)
		}
		if !conf.Same(x.Config(), c) || !conf.Same(y.Config(), d) {
			t.Errorf("the networks became\n%s\n%s", conf.Text(x.Config()), conf.Text(y.Config()))
		}
	}
}

// P12.1: a link's port is the best of its bids, whatever the ranks and addresses of three routers on it are.
func FuzzSeat(f *testing.F) {
	f.Add(uint16(0), uint16(0), uint16(0), uint8(1), uint8(2), uint8(3))
	f.Add(uint16(7), uint16(65535), uint16(7), uint8(255), uint8(1), uint8(254))
	f.Add(uint16(256), uint16(255), uint16(256), uint8(2), uint8(3), uint8(1))
	f.Fuzz(func(t *testing.T, r0, r1, r2 uint16, a0, a1, a2 uint8) {
		c := api.Config{Links: []api.Link{{Name: "l", Prefix: api.Prefix{Addr: 10 << 24, Bits: 8}}}}
		ranks, lasts := []uint16{r0, r1, r2}, []uint8{a0, a1, a2}
		var l []seat.Bid
		for i := range ranks {
			b := seat.Bid{Rank: int(ranks[i]), Addr: 10<<24 + api.Addr(lasts[i])}
			l = append(l, b)
			c.Routers = append(c.Routers, api.Router{Name: "r" + strconv.Itoa(i), Rank: b.Rank})
			c.Ports = append(c.Ports, api.Port{Router: i, Addr: b.Addr})
		}
		want := speaker(c, 0)
		chosen(t, want, l...)
		if conf.Valid(c) != nil {
			return // two have one address
		}
		x := made(t, c)
		seated(t, x, 0, want)
	})
}
