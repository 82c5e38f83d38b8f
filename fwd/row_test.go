package fwd_test

import (
	"math"
	"slices"
	"testing"

	"rivulet/api"
	"rivulet/fwd"
	"rivulet/want"
)

// The groups and sources of the tests.
const (
	g1, g2 = api.Addr(225)<<24 + 1, api.Addr(225)<<24 + 2
	s1, s2 = api.Addr(10)<<24 + 1, api.Addr(10)<<24 + 2
)

// key is the key of a source and a group.
func key(source, group api.Addr) api.Key { return api.Key{Source: source, Group: group} }

// row is a row of a router; its Up tells it from others and has no part in what is done.
func row(router, in, up int, source, group api.Addr, out ...int) want.Row {
	return want.Row{Router: router, In: in, Up: up, Key: key(source, group), Out: out}
}

// cloned are rows in memory of their own.
func cloned(l []want.Row) []want.Row {
	l = slices.Clone(l)
	for i := range l {
		l[i].Out = slices.Clone(l[i].Out)
	}
	return l
}

// alike tells whether two lists of rows are the same, without a call of what is tested.
func alike(l, m []want.Row) bool {
	return slices.EqualFunc(l, m, func(a, b want.Row) bool {
		return a.Router == b.Router && a.In == b.In && a.Up == b.Up && a.Key == b.Key && slices.Equal(a.Out, b.Out)
	})
}

// has fails where a router's row of a key is another one, or none, or where the rows are changed.
func has(t *testing.T, router int, l []want.Row, k api.Key, wanted want.Row) {
	t.Helper()
	was := cloned(l)
	if got, ok := fwd.Row(router, l, k); !ok || !alike([]want.Row{got}, []want.Row{wanted}) {
		t.Errorf("Row(%d, %v, %v) = %v, %v, not %v", router, l, k, got, ok, wanted)
	}
	if !alike(l, was) {
		t.Errorf("%v became %v", was, l)
	}
}

// hasNone fails where a router has a row of a key, or where something is told beside the false (P0.3).
func hasNone(t *testing.T, router int, l []want.Row, k api.Key) {
	t.Helper()
	was := cloned(l)
	if got, ok := fwd.Row(router, l, k); ok || !alike([]want.Row{got}, []want.Row{{}}) {
		t.Errorf("Row(%d, %v, %v) = %v, %v, and there is none", router, l, k, got, ok)
	}
	if !alike(l, was) {
		t.Errorf("%v became %v", was, l)
	}
}

// ends are numbers at and beside the ends of what a place may be, and some that are alike in their lower bits alone.
func ends() []int {
	return []int{math.MinInt, math.MinInt32, -256, -2, -1, 0, 1, 2, 255, 256, 65536, math.MaxInt32, 1 << 32, 1<<32 + 1, math.MaxInt}
}

// P19.1: a row of the key itself, wherever it stands, with all its fields, and whatever they are.
func TestRowOfTheKey(t *testing.T) {
	l := []want.Row{row(0, 3, 4, s1, g1, 5, 6), row(1, 7, -1, s1, g1), row(1, -1, -1, 0, g1, 8), row(1, 9, 2, s2, g1, 1, 1, 0), row(2, 0, 0, 0, g2, 3)}
	for _, one := range l {
		has(t, one.Router, l, one.Key, one)
		has(t, one.Router, []want.Row{one}, one.Key, one)
	}
	has(t, 0, []want.Row{{}}, api.Key{}, want.Row{})
	has(t, 0, []want.Row{{Out: []int{-1, math.MaxInt}}}, api.Key{}, want.Row{Out: []int{-1, math.MaxInt}})
}

// P19.1: without a row of the key, that of any source to its group; of any source, whichever it is.
func TestRowOfAnySource(t *testing.T) {
	any1, any2 := row(1, 2, 3, 0, g1, 4), row(1, 5, 6, 0, g2, 7)
	l := []want.Row{row(0, 9, 9, s1, g1), any1, row(1, 8, 8, s2, g2), any2}
	for _, source := range []api.Addr{0, 1, s1, s2, 1 << 31, math.MaxUint32} {
		has(t, 1, l, key(source, g1), any1)
	}
	has(t, 1, l, key(s1, g2), any2)
	has(t, 1, l, key(s2, g2), l[2])
	has(t, 1, l, key(0, g2), any2)
}

// P19.1: where there are both, that of the key goes ahead, in whatever order they stand.
func TestRowOfTheKeyGoesAhead(t *testing.T) {
	one, open := row(4, 1, 1, s1, g1, 2), row(4, 3, 3, 0, g1, 5)
	between := row(4, 6, 6, s2, g1, 7)
	for _, l := range [][]want.Row{{one, open}, {open, one}, {open, between, one}, {one, between, open}, {open, open, one, one}} {
		has(t, 4, l, key(s1, g1), one)
		has(t, 4, l, key(0, g1), open)
		has(t, 4, l, key(s2+1, g1), open)
	}
}

// P19.1: of several of the key the first, and of several of any source the first.
func TestRowIsTheFirst(t *testing.T) {
	l := []want.Row{row(2, 0, 0, s1, g1), row(1, 1, 0, s1, g1, 1), row(1, 2, 0, s1, g1, 2), row(2, 3, 0, 0, g2), row(1, 4, 0, 0, g2, 4), row(1, 5, 0, 0, g2), row(1, 6, 0, 0, g2, 6)}
	has(t, 1, l, key(s1, g1), l[1])
	has(t, 1, l, key(0, g2), l[4])
	has(t, 1, l, key(s1, g2), l[4])
	slices.Reverse(l)
	has(t, 1, l, key(s1, g1), row(1, 2, 0, s1, g1, 2))
	has(t, 1, l, key(0, g2), row(1, 6, 0, 0, g2, 6))
	has(t, 1, l, key(s1, g2), row(1, 6, 0, 0, g2, 6))
}

// P19.1: another router's rows count for nothing: neither of the key, nor of any source.
func TestRowOfAnotherRouter(t *testing.T) {
	l := []want.Row{row(0, 1, 1, s1, g1, 2), row(2, 3, 3, 0, g1, 4), row(1, 5, 5, 0, g1, 6), row(3, 7, 7, 0, g1, 8), row(3, 9, 9, s1, g1, 1)}
	// Its own one of any source, though others have the key itself.
	has(t, 1, l, key(s1, g1), l[2])
	has(t, 2, l, key(s1, g1), l[1])
	has(t, 3, l, key(s1, g1), l[4])
	hasNone(t, 0, l, key(s2, g1))
	hasNone(t, 0, l, key(0, g1))
	for _, router := range ends() {
		if router < 0 || router > 3 {
			hasNone(t, router, l, key(s1, g1))
			hasNone(t, router, l, key(0, g1))
		}
	}
}

// P19.1: no rows, or none that is of the key or of any source to its group: none; what is nearly so is not.
func TestRowIsNotThere(t *testing.T) {
	for _, k := range []api.Key{{}, key(0, g1), key(s1, g1)} {
		hasNone(t, 0, nil, k)
		hasNone(t, 0, []want.Row{}, k)
	}
	// Any source's packets go by no row of one source.
	l := []want.Row{row(1, 2, 3, s1, g1, 4), row(1, 2, 3, s2, g2, 4), row(1, 2, 3, g2, s1, 4)}
	for _, k := range []api.Key{{}, key(0, g1), key(0, g2), key(s1, g2), key(s2, g1), key(s1+1, g1), key(s1, 0), key(g1, s1), key(0, s1), key(s1+1<<31, g1)} {
		hasNone(t, 1, l, k)
	}
	// A row of no group is of no source's packets to another one.
	l = []want.Row{row(1, 2, 3, 0, 0, 4), row(1, 2, 3, s1, 0, 4)}
	for _, k := range []api.Key{key(0, g1), key(s1, g1), key(0, 1)} {
		hasNone(t, 1, l, k)
	}
	has(t, 1, l, key(s2, 0), l[0])
}

// P19.1: routers and keys at the ends of their types, and those alike in their lower bits alone, are each its own.
func TestRowAtTheEnds(t *testing.T) {
	var l []want.Row
	for i, router := range ends() {
		l = append(l, row(router, i, i, 0, g1, i), row(router, i, -i, s1, g1))
	}
	for i, router := range ends() {
		has(t, router, l, key(s2, g1), l[2*i])
		has(t, router, l, key(s1, g1), l[2*i+1])
	}
	addrs := []api.Addr{0, 1, 256, 65536, 1 << 31, math.MaxUint32}
	l = nil
	for i, source := range addrs {
		for j, group := range addrs {
			l = append(l, row(0, i, j, source, group))
		}
	}
	for i, source := range addrs {
		for j, group := range addrs {
			has(t, 0, l, key(source, group), row(0, i, j, source, group))
		}
	}
}
