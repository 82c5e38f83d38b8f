package solve_test

import (
	"math"
	"math/rand"
	"slices"
	"testing"

	"rivulet/api"
	"rivulet/conf"
	"rivulet/fwd"
	"rivulet/solve"
	"rivulet/topo"
	"rivulet/want"
)

// loses fails where with some rows other ports are left to others, or where the rows are changed.
func loses(t *testing.T, x *topo.Topo, l []want.Row, wanted ...fwd.Lost) {
	t.Helper()
	was := cloned(l)
	if got := solve.Lost(x, l); !slices.Equal(got, wanted) {
		t.Errorf("Lost(%v) = %v, not %v, of\n%s", l, got, wanted, conf.Text(x.Config()))
	}
	if !alike(l, was) {
		t.Errorf("%v became %v", was, l)
	}
}

// shore is four routers on one link, whose ways to the sources and to the root cost what the routes say; of far nobody has a way. The greater a router's place, the less its address.
const shore = `router a 1
router b 1
router c 1
router d 1
link l 10.1.0.0/16
link a 10.2.0.0/16
link b 10.3.0.0/16
link c 10.4.0.0/16
link d 10.5.0.0/16
link src 20.0.0.0/8
link other 21.0.0.0/8
link far 30.0.0.0/8
port a l 10.1.0.9
port b l 10.1.0.8
port c l 10.1.0.7
port d l 10.1.0.6
port a a 10.2.0.1
port b b 10.3.0.1
port c c 10.4.0.1
port d d 10.5.0.1
route a 20.0.0.0/8 10.2.0.9 5
route b 20.0.0.0/8 10.3.0.9 4
route c 20.0.0.0/8 10.4.0.9 5
route d 20.0.0.0/8 10.5.0.9 4
route a 21.0.0.0/8 10.2.0.9 2
route b 21.0.0.0/8 10.3.0.9 3
route a 99.0.0.0/8 10.2.0.9 1
route b 99.0.0.0/8 10.3.0.9 2
route c 99.0.0.0/8 10.4.0.9 2
route d 99.0.0.0/8 10.5.0.9 7
root 225.0.0.0/8 99.0.0.1
source src 20.0.0.1 225.0.0.1
source other 21.0.0.1 225.0.0.1
source src 20.0.0.1 225.0.0.2
source far 30.0.0.1 225.0.0.1
source src 20.0.0.1 226.0.0.1
`

// The ports of shore: those on the common link, those on each router's own.
const (
	aShore, bShore, cShore, dShore, aOwn, bOwn, cOwn, dOwn = 0, 1, 2, 3, 4, 5, 6, 7
)

// The sources of shore, and its group without a root.
var (
	src, other, far = number("20.0.0.1"), number("21.0.0.1"), number("30.0.0.1")
	rootless        = number("226.0.0.1")
)

// by is a row of a router of shore, by which it forwards on the common link.
func by(router int, source, group api.Addr) want.Row {
	return row(router, aOwn+router, -1, source, group, router)
}

// P20.2: without rows nobody forwards, so nothing is lost; nor without sources, nor without ports, whatever the rows are.
func TestLostNothing(t *testing.T) {
	x := network(t, shore)
	loses(t, x, nil)
	loses(t, x, rows())
	loses(t, made(t, api.Config{}), nil)
	loses(t, made(t, api.Config{}), rows(by(a, src, g1), by(b, 0, g1)))
	loses(t, network(t, pair), rows(row(a, aUp, -1, src, g1, aDown), row(b, bUp, -1, src, g1, bDown)))
	loses(t, network(t, "router a 1\nrouter b 1\nlink l 20.0.0.0/8\nsource l 20.0.0.1 225.0.0.1\n"), rows(row(a, -1, -1, src, g1, 0), row(b, -1, -1, src, g1, 0)))
}

// P20.2: who forwards alone on a link does not lose, whatever others have: rows that go elsewhere, rows of other keys.
func TestLostAlone(t *testing.T) {
	x := network(t, shore)
	loses(t, x, rows(by(a, src, g1)))
	loses(t, x, rows(by(d, 0, g1)))
	loses(t, x, rows(by(c, src, g1), row(b, bOwn, -1, src, g1)))
	loses(t, x, rows(by(c, src, g1), row(b, bShore, -1, src, g1, bOwn)))
	loses(t, x, rows(by(c, src, g1), by(b, src, g2), by(d, other, g1), by(a, far, g1), by(a, src, rootless)))
	loses(t, x, rows(by(a, src, g1), row(a, aOwn, -1, 0, g1, aShore)))
}

// P20.2: of two that forward by rows of the source: by the lesser cost, of equal ones by the greater address.
func TestLostByCostAndAddress(t *testing.T) {
	x := network(t, shore)
	loses(t, x, rows(by(a, src, g1), by(b, src, g1)), lost(aShore, src, g1))
	loses(t, x, rows(by(a, src, g1), by(c, src, g1)), lost(cShore, src, g1))
	loses(t, x, rows(by(b, src, g1), by(d, src, g1)), lost(dShore, src, g1))
	loses(t, x, rows(by(c, src, g1), by(d, src, g1)), lost(cShore, src, g1))
	loses(t, x, rows(by(a, other, g1), by(b, other, g1)), lost(bShore, other, g1))
	loses(t, x, rows(by(a, src, g1), by(b, src, g1), by(c, src, g1), by(d, src, g1)), lost(aShore, src, g1), lost(cShore, src, g1), lost(dShore, src, g1))
}

// P20.2: of two that forward by rows of any source: by the cost towards the root, not towards the source; for each of the sources of that group, in the keys' order.
func TestLostByRowsOfAny(t *testing.T) {
	x := network(t, shore)
	loses(t, x, rows(by(a, 0, g1), by(b, 0, g1)), lost(bShore, src, g1), lost(bShore, other, g1), lost(bShore, far, g1))
	loses(t, x, rows(by(b, 0, g2), by(c, 0, g2)), lost(cShore, src, g2))
	loses(t, x, rows(by(b, 0, g2), by(c, 0, g2), by(d, 0, g2), by(a, 0, g3)), lost(cShore, src, g2), lost(dShore, src, g2))
	loses(t, x, rows(by(a, 0, g3), by(b, 0, g3)))
}

// P20.2: who forwards by a row of any source loses to who does by one of the source, however dear, for that source; for the others both forward by rows of any, if both have one.
func TestLostToARowOfTheSource(t *testing.T) {
	x := network(t, shore)
	loses(t, x, rows(by(a, 0, g1), by(c, src, g1)), lost(aShore, src, g1))
	loses(t, x, rows(by(d, 0, g1), by(b, other, g1)), lost(dShore, other, g1))
	loses(t, x, rows(by(a, 0, g1), by(c, src, g1), by(c, 0, g1)), lost(aShore, src, g1), lost(cShore, other, g1), lost(cShore, far, g1))
	loses(t, x, rows(by(d, 0, g1), by(c, src, g1), by(c, 0, g1)), lost(dShore, src, g1), lost(dShore, other, g1), lost(dShore, far, g1))
	// By a row of that source, not of another one, nor of another group.
	loses(t, x, rows(by(a, 0, g1), by(c, other, g1)), lost(aShore, other, g1))
	loses(t, x, rows(by(a, 0, g1), by(c, src, g2)))
	// A row of the source against one of any counts nothing, be that one better or not.
	loses(t, x, rows(by(c, src, g1), by(a, 0, g1), by(b, 0, g1)), lost(aShore, src, g1), lost(bShore, src, g1), lost(bShore, other, g1), lost(bShore, far, g1))
}

// P20.2: a row of the source whose Out has not the port forwards nothing there, though the router's row of any has it: it loses nothing, and others lose to what it bids by that one.
func TestLostByTheRowOfTheSourceAlone(t *testing.T) {
	x := network(t, shore)
	away := row(a, aShore, -1, src, g1, aOwn)
	loses(t, x, rows(away, by(a, 0, g1), by(d, src, g1)))
	loses(t, x, rows(by(a, 0, g1), away, by(b, 0, g1)), lost(bShore, src, g1), lost(bShore, other, g1), lost(bShore, far, g1))
	// Against a row of the source no row of any bids.
	loses(t, x, rows(row(b, bShore, -1, src, g1), by(b, 0, g1), by(c, src, g1), by(d, 0, g1)), lost(dShore, src, g1), lost(dShore, other, g1), lost(dShore, far, g1))
}

// P20.2: who has no way towards a row's source or root bids 0, and so wins over all that have to pay; of several such the greater address.
func TestLostWithoutCost(t *testing.T) {
	x := network(t, shore)
	loses(t, x, rows(by(a, other, g1), by(c, other, g1)), lost(aShore, other, g1))
	loses(t, x, rows(by(a, other, g1), by(b, other, g1), by(c, other, g1), by(d, other, g1)), lost(aShore, other, g1), lost(bShore, other, g1), lost(dShore, other, g1))
	loses(t, x, rows(by(d, far, g1), by(b, far, g1)), lost(dShore, far, g1))
	loses(t, x, rows(by(d, 0, rootless), by(c, 0, rootless)), lost(dShore, src, rootless))
	// On the source's own link nothing is to be paid either.
	at := network(t, pair+"source down 10.2.0.9 225.0.0.1\n")
	loses(t, at, rows(row(a, aDown, -1, number("10.2.0.9"), g1, aUp), row(b, bDown, -1, number("10.2.0.9"), g1, bUp)), lost(aUp, number("10.2.0.9"), g1))
}

// P20.2: of several rows of a key a router's first one counts, be it that by which it forwards or that by which it bids.
func TestLostByTheFirstRow(t *testing.T) {
	x := network(t, shore)
	away := func(router int, source api.Addr) want.Row { return row(router, -1, -1, source, g1, aOwn+router) }
	loses(t, x, rows(by(a, src, g1), away(b, src), by(b, src, g1)))
	loses(t, x, rows(away(a, src), by(b, src, g1), by(a, src, g1)))
	loses(t, x, rows(by(a, src, g1), away(a, src), by(b, src, g1)), lost(aShore, src, g1))
	loses(t, x, rows(by(b, src, g1), by(a, src, g1), away(b, src), away(a, src)), lost(aShore, src, g1))
	loses(t, x, rows(by(b, 0, g1), by(c, 0, g1), away(c, 0), by(c, 0, g1)), lost(cShore, src, g1), lost(cShore, other, g1), lost(cShore, far, g1))
	loses(t, x, rows(by(c, 0, g1), away(b, 0), by(b, 0, g1)))
	loses(t, x, rows(by(c, 0, g1), away(b, src), by(b, src, g1), by(b, 0, g1)), lost(cShore, src, g1), lost(cShore, other, g1), lost(cShore, far, g1))
}

// P20.2: link by link: who loses at one port forwards by another one, and who bids on another link counts for nothing here.
func TestLostOnEachLink(t *testing.T) {
	s := number("10.1.0.9")
	x := network(t, `router a 1
router b 1
router c 1
link up 10.1.0.0/16
link k 10.2.0.0/16
link l 10.3.0.0/16
link m 10.4.0.0/16
port a up 10.1.0.1
port b up 10.1.0.2
port c up 10.1.0.3
port a k 10.2.0.3
port b k 10.2.0.2
port a l 10.3.0.1
port b l 10.3.0.2
port c l 10.3.0.3
port c m 10.4.0.9
source up 10.1.0.9 225.0.0.1
`)
	const ak, bk, al, bl, cl, cm = 3, 4, 5, 6, 7, 8
	loses(t, x, rows(row(a, 0, -1, s, g1, ak, al), row(b, 1, -1, s, g1, bk, bl), row(c, 2, -1, s, g1, cl, cm)), lost(bk, s, g1), lost(al, s, g1), lost(bl, s, g1))
	loses(t, x, rows(row(a, 0, -1, s, g1, ak, al), row(b, 1, -1, s, g1, bk, bl), row(c, 2, -1, s, g1, cm)), lost(bk, s, g1), lost(al, s, g1))
	loses(t, x, rows(row(a, 0, -1, s, g1, ak), row(b, 1, -1, s, g1, bl), row(c, 2, -1, s, g1, cm)))
	// By which port it comes in has no part in it.
	loses(t, x, rows(row(a, ak, -1, s, g1, ak), row(b, 99, -1, s, g1, bk)), lost(bk, s, g1))
}

// P20.2: port by port, rising, at each the keys in their order; in whatever order the rows stand.
func TestLostInOrder(t *testing.T) {
	x := network(t, shore)
	l := rows(by(d, 0, g1), by(d, src, g2), by(c, 0, g1), by(c, src, g2), by(b, src, rootless), by(b, far, g1), by(a, src, rootless), by(a, 0, g1), by(b, src, g2))
	wanted := []fwd.Lost{
		lost(aShore, far, g1), lost(aShore, src, rootless),
		lost(cShore, src, g1), lost(cShore, other, g1), lost(cShore, far, g1), lost(cShore, src, g2),
		lost(dShore, src, g1), lost(dShore, other, g1), lost(dShore, far, g1), lost(dShore, src, g2),
	}
	loses(t, x, l, wanted...)
	slices.Reverse(l)
	loses(t, x, l, wanted...)
	r := rand.New(rand.NewSource(205))
	for range 50 {
		r.Shuffle(len(l), func(i, j int) { l[i], l[j] = l[j], l[i] })
		loses(t, x, l, wanted...)
	}
}

// P20.2: only sources' keys are lost: not what nobody sends, though rows of it are there, nor any source's.
func TestLostOfSourcesAlone(t *testing.T) {
	x := network(t, shore)
	for _, k := range []api.Key{{}, key(0, rootless+1), key(src+1, g1), key(other, g2), key(src, g3), key(src, rootless+1), key(g1, src)} {
		loses(t, x, rows(by(a, k.Source, k.Group), by(b, k.Source, k.Group)))
		loses(t, x, rows(by(a, k.Source, k.Group), by(b, src, g1), by(b, k.Source, k.Group), by(a, src, g1)), lost(aShore, src, g1))
	}
}

// noPlaces are places that are no port's and no router's of shore.
func noPlaces() []int {
	return []int{math.MinInt, math.MinInt32, -9, -1, 8, 9, 64, 1 << 32, 1<<32 + 1, math.MaxInt32, math.MaxInt}
}

// P20.2, P0.7: rows of places that are no router's count for nothing, nor do places in an Out that are no port's or another router's.
func TestLostByWrongRows(t *testing.T) {
	x := network(t, shore)
	for _, place := range noPlaces() {
		loses(t, x, rows(row(place, 0, 0, src, g1, aShore, bShore), by(a, src, g1)))
		loses(t, x, rows(by(a, 0, g2), row(place, 0, 0, src, g2, aShore, bShore), row(place, 0, 0, 0, g2, aShore)))
		loses(t, x, rows(row(a, place, place, src, g1, place, aShore, place), row(b, 0, 0, src, g1, place)))
		loses(t, x, rows(row(a, place, place, src, g1, place, aShore), row(b, place, place, src, g1, bShore, place)), lost(aShore, src, g1))
	}
	loses(t, x, rows(by(a, src, g1), row(c, 0, 0, src, g1, bShore), row(b, 0, 0, src, g1, aShore, dShore, cOwn)))
	loses(t, x, rows(row(a, 0, 0, src, g1, bShore, cShore, dShore), row(d, 0, 0, 0, g1, bShore)))
	// Neither rising nor each once, and others' between.
	loses(t, x, rows(row(a, 0, 0, src, g1, aOwn, bShore, aShore, aShore, -1, aShore), row(b, 0, 0, src, g1, bOwn, bShore, aShore, bShore)), lost(aShore, src, g1))
}

// drawnRows are rows of chance in a network: several of a key, of routers that there are and others; ports that are the router's, another one's or none.
func drawnRows(r *rand.Rand, n api.Config) (l []want.Row) {
	for range r.Intn(30) {
		one := row(r.Intn(len(n.Routers)+2)-1, r.Intn(9), r.Intn(9), 0, firstGroup+api.Addr(r.Intn(3)))
		if len(n.Sources) > 0 && r.Intn(3) > 0 {
			one.Key = n.Sources[r.Intn(len(n.Sources))].Key
			one.Key.Source *= api.Addr(min(r.Intn(3), 1))
		} else if r.Intn(2) == 0 {
			one.Key.Source = someone(r, n)
		}
		for range r.Intn(12) {
			one.Out = append(one.Out, r.Intn(len(n.Ports)+2)-1)
		}
		l = append(l, one)
	}
	return l
}

// P20.2: in networks of chance, with rows of chance, as the chapter's words, taken one by one, have it.
func TestLostDrawn(t *testing.T) {
	r := rand.New(rand.NewSource(206))
	exact, open := 0, 0
	for i := range 900 {
		n := joined(r, false)
		switch i % 3 {
		case 1:
			n = astray(r, n)
		case 2:
			n = drawn(r)
		}
		m := model{made(t, n), n}
		l := drawnRows(r, n)
		wanted := m.lost(l)
		for _, one := range wanted {
			if _, ok := first(l, n.Ports[one.Port].Router, one.Key); ok {
				exact++
			} else {
				open++
			}
		}
		loses(t, m.x, l, wanted...)
		loses(t, m.x, l, wanted...)
	}
	if exact < 200 || open < 200 {
		t.Errorf("too few of a kind: %d by rows of the source, %d by rows of any", exact, open)
	}
}
