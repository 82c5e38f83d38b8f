package want_test

import (
	"math"
	"math/rand"
	"slices"
	"testing"

	"rivulet/api"
	"rivulet/want"
)

// cloned are rows in memory of their own.
func cloned(l []want.Row) []want.Row {
	l = slices.Clone(l)
	for i := range l {
		l[i].Out = slices.Clone(l[i].Out)
	}
	return l
}

// sends fails where rows ask others of something else, or are changed.
func sends(t *testing.T, l []want.Row, wanted ...want.Heard) {
	t.Helper()
	was := cloned(l)
	if got := want.Sends(network(t, line), l...); !slices.Equal(got, wanted) {
		t.Errorf("Sends(%v) = %v, not %v", l, got, wanted)
	}
	if !alike(l, was) {
		t.Errorf("%v became %v", was, l)
	}
}

// P17.2: no rows, and rows whose Up is below 0, ask for nothing.
func TestSendsNone(t *testing.T) {
	sends(t, nil)
	sends(t, []want.Row{})
	if got := want.Sends(network(t, line)); len(got) != 0 {
		t.Errorf("Sends() = %v", got)
	}
	for _, up := range []int{-1, -2, math.MinInt32, math.MinInt} {
		sends(t, []want.Row{row(a, aMid, up, west, g1, aWest)})
		sends(t, []want.Row{row(a, aMid, up, west, g1), row(b, bMid, up, 0, g1, bEast, bSide), row(c, 0, up, 0, 0)})
	}
}

// P17.2: of each row its Up, also the first port, and its Key, whatever its other fields are.
func TestSendsOne(t *testing.T) {
	sends(t, []want.Row{row(a, aMid, bMid, west, g1, aWest)}, heard(bMid, west, g1))
	sends(t, []want.Row{row(a, -1, 0, 0, g1)}, heard(0, 0, g1))
	sends(t, []want.Row{{}}, heard(0, 0, 0))
	sends(t, []want.Row{row(-1, -1, farAway, math.MaxUint32, 5, -1, 99)}, heard(farAway, math.MaxUint32, 5))
	// It is said of rows whose Up is not below 0, without another end.
	sends(t, []want.Row{row(a, aMid, nextToEnd, 0, g1), row(a, aMid, math.MaxInt, 0, g2)}, heard(nextToEnd, 0, g1), heard(math.MaxInt, 0, g2))
}

// P17.2: several rows, in their own order; those alike as often as they are there; those between that ask nobody are left out.
func TestSendsSeveral(t *testing.T) {
	l := []want.Row{row(c, 0, bEast, west, cs), row(b, 1, -1, 0, g1), row(a, 2, bMid, 0, g1), row(c, 0, bEast, west, cs), row(a, 2, -7, 0, g2), row(lone, 2, bMid, 0, g1, 4), row(c, 1, aMid, 0, bare)}
	wanted := all(heard(bEast, west, cs), heard(bMid, 0, g1), heard(bEast, west, cs), heard(bMid, 0, g1), heard(aMid, 0, bare))
	sends(t, l, wanted...)
	slices.Reverse(l)
	slices.Reverse(wanted)
	sends(t, l, wanted...)
}

// P17.2: what the rows of routers ask is heard by those that are next: from the last one to the root, and on to the sources.
func TestSendsAreHeard(t *testing.T) {
	x := network(t, line)
	first := want.Sends(x, want.Rows(x, c, heard(cLast, 0, g1), heard(cLast, east, g1))...)
	if !slices.Equal(first, all(heard(bEast, 0, g1))) {
		t.Fatalf("c asks for %v", first)
	}
	second := want.Sends(x, want.Rows(x, b, first...)...)
	if !slices.Equal(second, all(heard(aMid, west, g1), heard(cEast, last, g1))) {
		t.Fatalf("b asks for %v", second)
	}
	rows(t, x, a, second, row(a, aWest, -1, west, g1, aMid))
	rows(t, x, c, second, row(c, cLast, -1, last, g1, cEast))
}

// finds fails where another row is found, or none.
func finds(t *testing.T, l []want.Row, router int, k api.Key, wanted want.Row) {
	t.Helper()
	was := cloned(l)
	if got, ok := want.Find(l, router, k); !ok || !alike([]want.Row{got}, []want.Row{wanted}) {
		t.Errorf("Find(%v, %d, %v) = %v, %v, not %v", l, router, k, got, ok, wanted)
	}
	if !alike(l, was) {
		t.Errorf("%v became %v", was, l)
	}
}

// misses fails where a row is found, or something is told beside the false.
func misses(t *testing.T, l []want.Row, router int, k api.Key) {
	t.Helper()
	if got, ok := want.Find(l, router, k); ok || !alike([]want.Row{got}, []want.Row{{}}) {
		t.Errorf("Find(%v, %d, %v) = %v, %v, and there is none", l, router, k, got, ok)
	}
}

// P17.2: a row that is there, wherever it stands, with all its fields.
func TestFindThere(t *testing.T) {
	l := []want.Row{row(a, 2, 1, 0, g1, 3, 9), row(a, 3, -1, west, g1), row(b, 4, 5, 0, g1, 1), row(b, 6, 7, 0, g2, 2), row(a, 8, 9, g1, 0, 7, 7)}
	for _, one := range l {
		finds(t, l, one.Router, one.Key, one)
	}
	finds(t, l[:1], a, key(0, g1), l[0])
	finds(t, []want.Row{{}}, 0, api.Key{}, want.Row{})
}

// P17.2: what is nearly a row's is not there, and beside the false is nothing (P0.3).
func TestFindNotThere(t *testing.T) {
	misses(t, nil, 0, api.Key{})
	misses(t, []want.Row{}, a, key(0, g1))
	l := []want.Row{row(b, 2, 1, west, g1, 3), row(c, 2, 1, 0, g1, 3)}
	for _, k := range []api.Key{{}, key(0, g1), key(west, g2), key(west+1, g1), key(west, 0), key(g1, west)} {
		misses(t, l, b, k)
	}
	for _, router := range append(noPlaces(len(l)+1), a) {
		misses(t, l, router, key(west, g1))
	}
	misses(t, l, c, key(west, g1))
}

// P17.2: of several the first.
func TestFindFirst(t *testing.T) {
	l := []want.Row{row(a, 9, 9, 0, g2, 1), row(b, 1, 1, 0, g1, 1), row(a, 2, 3, 0, g1, 4), row(a, 0, 0, 0, g1), row(a, 5, 6, 0, g1, 7)}
	finds(t, l, a, key(0, g1), l[2])
	slices.Reverse(l)
	finds(t, l, a, key(0, g1), row(a, 5, 6, 0, g1, 7))
}

// P17.2: of the rows of many networks' routers, those that are there and those that are not.
func TestFindOfNetworks(t *testing.T) {
	r := rand.New(rand.NewSource(175))
	for range 100 {
		c := drawn(r)
		x := made(t, c)
		heard := listened(r, c)
		var l []want.Row
		for router := range c.Routers {
			l = append(l, want.Rows(x, router, heard...)...)
		}
		for _, one := range l {
			finds(t, l, one.Router, one.Key, one)
			misses(t, l, len(c.Routers), one.Key)
			misses(t, l, one.Router, key(one.Key.Source, firstGroup+99))
		}
	}
}

// same fails where two rows are told apart, or not, other than wanted, either way round.
func same(t *testing.T, l, m want.Row, wanted bool) {
	t.Helper()
	if want.Same(l, m) != wanted || want.Same(m, l) != wanted {
		t.Errorf("Same of %v and %v is %v", l, m, !wanted)
	}
}

// P17.2: rows are the same in all fields; of Out in order and number.
func TestSame(t *testing.T) {
	one := row(b, 2, 3, west, g1, 4, 5)
	same(t, one, row(b, 2, 3, west, g1, 4, 5), true)
	same(t, one, one, true)
	for _, other := range []want.Row{
		{},
		row(a, 2, 3, west, g1, 4, 5),
		row(b, 3, 3, west, g1, 4, 5),
		row(b, 3, 2, west, g1, 4, 5),
		row(b, 2, 4, west, g1, 4, 5),
		row(b, 2, 3, east, g1, 4, 5),
		row(b, 2, 3, west, g2, 4, 5),
		row(b, 2, 3, g1, west, 4, 5),
		row(b, 2, 3, west, g1),
		row(b, 2, 3, west, g1, 4),
		row(b, 2, 3, west, g1, 5),
		row(b, 2, 3, west, g1, 5, 4),
		row(b, 2, 3, west, g1, 4, 6),
		row(b, 2, 3, west, g1, 4, 5, 5),
		row(b, 2, 3, west, g1, 4, 5, 0),
		row(b, 2, 3, west, g1, 0, 4, 5),
	} {
		same(t, one, other, false)
	}
}

// P17.2, P0.4: nil and the empty list are the same in Out; of rows with none the other fields are held against each other as well.
func TestSameEmpty(t *testing.T) {
	none, empty, bare := want.Row{In: 1}, want.Row{In: 1, Out: []int{}}, want.Row{In: 1, Out: []int{7}[:0]}
	for _, l := range []want.Row{none, empty, bare} {
		for _, m := range []want.Row{none, empty, bare} {
			same(t, l, m, true)
			m.In++
			same(t, l, m, false)
		}
		same(t, l, want.Row{In: 1, Out: []int{0}}, false)
	}
	same(t, want.Row{}, want.Row{}, true)
	same(t, want.Row{Out: []int{0}}, want.Row{}, false)
}

// P17.2: fields at the ends of their types, and those that are alike in their lower bits alone.
func TestSameEnds(t *testing.T) {
	ints := []int{math.MinInt, math.MinInt32, -1, 0, 1, 255, 256, 65536, math.MaxInt32, 1 << 32, math.MaxInt}
	addrs := []api.Addr{0, 1, 256, 65536, 1 << 31, math.MaxUint32}
	for i, n := range ints {
		for j, m := range ints {
			same(t, want.Row{Router: n}, want.Row{Router: m}, i == j)
			same(t, want.Row{In: n}, want.Row{In: m}, i == j)
			same(t, want.Row{Up: n}, want.Row{Up: m}, i == j)
			same(t, want.Row{Out: []int{n}}, want.Row{Out: []int{m}}, i == j)
		}
	}
	for i, n := range addrs {
		for j, m := range addrs {
			same(t, want.Row{Key: key(n, 0)}, want.Row{Key: key(m, 0)}, i == j)
			same(t, want.Row{Key: key(0, n)}, want.Row{Key: key(0, m)}, i == j)
		}
	}
}
