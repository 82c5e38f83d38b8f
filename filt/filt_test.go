package filt_test

import (
	"math"
	"math/rand"
	"slices"
	"testing"

	"rivulet/api"
	"rivulet/filt"
)

// ends are addresses from the first to the last one, with those at which a number that has a sign, or fewer bits, would go wrong.
var ends = []api.Addr{0, 1, 2, 9, 10, 255, 256, 65535, 65536, 10<<24 + 1, math.MaxInt32, 1 << 31, 224 << 24, math.MaxUint32 - 1, math.MaxUint32}

// only is a member that listens to these sources alone.
func only(l ...api.Addr) api.Member { return api.Member{Only: true, Sources: l} }

// but is a member that listens to all but these sources.
func but(l ...api.Addr) api.Member { return api.Member{Sources: l} }

// these is the filter that lets these sources by alone.
func these(l ...api.Addr) filt.Filter { return filt.Filter{Sources: l} }

// allBut is the filter that lets all sources by but these.
func allBut(l ...api.Addr) filt.Filter { return filt.Filter{Any: true, Sources: l} }

// mixed are members of both kinds in one list.
func mixed(l ...[]api.Member) []api.Member { return slices.Concat(l...) }

// alike tells whether two filters are the same, without a call of what is tested.
func alike(a, b filt.Filter) bool {
	return a.Any == b.Any && slices.Equal(a.Sources, b.Sources)
}

// cloned are members in memory of their own.
func cloned(l []api.Member) []api.Member {
	l = slices.Clone(l)
	for i := range l {
		l[i].Sources = slices.Clone(l[i].Sources)
	}
	return l
}

// unchanged fails where members are not as they were.
func unchanged(t *testing.T, now, was []api.Member) {
	t.Helper()
	if !slices.EqualFunc(now, was, func(a, b api.Member) bool {
		return a.Link == b.Link && a.Group == b.Group && a.Only == b.Only && slices.Equal(a.Sources, b.Sources)
	}) {
		t.Errorf("%v became %v", was, now)
	}
}

// admits tells whether a member listens to a source, asked one by one.
func admits(m api.Member, source api.Addr) bool {
	listed := 0
	for _, a := range m.Sources {
		if a == source {
			listed++
		}
	}
	if m.Only {
		return listed > 0
	}
	return listed == 0
}

// around are all addresses that members list, those next to them, and the ends.
func around(l []api.Member) []api.Addr {
	all := slices.Clone(ends)
	for _, m := range l {
		for _, a := range m.Sources {
			all = append(all, a-1, a, a+1)
		}
	}
	slices.Sort(all)
	return slices.Compact(all)
}

// filters fails where members make another filter, or one that lets by what none of them admits, or not what one does.
func filters(t *testing.T, want filt.Filter, l ...api.Member) {
	t.Helper()
	was := cloned(l)
	f := filt.Of(l...)
	if !alike(f, want) {
		t.Errorf("Of(%v) = %v, not %v", l, f, want)
	}
	for _, a := range around(l) {
		some := slices.ContainsFunc(l, func(m api.Member) bool { return filt.Admits(m, a) })
		if filt.Lets(f, a) != some {
			t.Errorf("%d: Of(%v) = %v lets %v, a member admits it %v", a, l, f, !some, some)
		}
	}
	unchanged(t, l, was)
}

// P14.1, 'Examples': of none nothing is let.
func TestOfNone(t *testing.T) {
	filters(t, filt.Filter{})
	filters(t, filt.Filter{}, nil...)
	filters(t, filt.Filter{}, []api.Member{}...)
	for _, a := range ends {
		if filt.Lets(filt.Of(), a) || filt.Lets(filt.Filter{}, a) {
			t.Errorf("%d is let", a)
		}
	}
}

// P14.1: of members that are Only alone: what some of them list, rising, each once.
func TestOfOnly(t *testing.T) {
	filters(t, these(), only())
	filters(t, these(), only(nil...), only([]api.Addr{}...), only())
	filters(t, these(5), only(5))
	filters(t, these(5), only(5, 5))
	filters(t, these(5), only(5), only(5), only())
	filters(t, these(3, 5, 9), only(9, 3, 5))
	filters(t, these(3, 5, 9), only(9), only(3), only(5))
	filters(t, these(3, 5, 9), only(5, 3), only(), only(3, 9))
	filters(t, these(1, 2, 3, 4, 5), only(5, 1, 5, 4), only(4, 4, 2), only(3, 5, 1))
	filters(t, these(ends...), only(ends...))
	backwards := slices.Clone(ends)
	slices.Reverse(backwards)
	filters(t, these(ends...), only(backwards...), only(ends...))
}

// P14.1: of members that are not Only alone: Any, and what all of them list.
func TestOfBut(t *testing.T) {
	filters(t, allBut(), but())
	filters(t, allBut(), but(nil...), but([]api.Addr{}...))
	filters(t, allBut(5), but(5))
	filters(t, allBut(5), but(5, 5, 5))
	filters(t, allBut(3, 5, 9), but(9, 3, 5))
	filters(t, allBut(5), but(5), but(5), but(5))
	filters(t, allBut(), but(5), but(6))
	filters(t, allBut(), but(5, 6), but())
	filters(t, allBut(), but(), but(5, 6))
	filters(t, allBut(3), but(5, 3), but(3, 9))
	filters(t, allBut(), but(1, 2), but(2, 3), but(3, 1))
	filters(t, allBut(2, 3), but(3, 1, 2), but(2, 3), but(4, 3, 2))
	filters(t, allBut(ends...), but(ends...), but(ends...))
}

// P14.1: what one that is not Only lists twice is not what two list.
func TestOfButTwice(t *testing.T) {
	filters(t, allBut(), but(5, 5), but())
	filters(t, allBut(), but(), but(5, 5))
	filters(t, allBut(6), but(5, 6, 5), but(6))
	filters(t, allBut(), but(5, 5), but(5), but())
	filters(t, allBut(), but(5, 7, 5, 7, 5), but(7), but(5))
	filters(t, allBut(5), but(5, 5), but(5, 5))
}

// P14.1: of both kinds: Any, and what all that are not Only list, but what one that is Only lists.
func TestOfMixed(t *testing.T) {
	filters(t, allBut(), but(), only())
	filters(t, allBut(), only(5), but())
	filters(t, allBut(), only(5), but(5))
	filters(t, allBut(), but(5), only(5))
	filters(t, allBut(5), but(5), only())
	filters(t, allBut(5), but(5), only(6))
	filters(t, allBut(5), but(5, 3), only(3, 8))
	filters(t, allBut(5), only(3, 8), but(5, 3))
	filters(t, allBut(1), only(5, 3), but(5, 3, 1), but(1, 5))
	filters(t, allBut(4), only(1, 1), but(3, 4, 2, 1), only(2), but(1, 2, 3, 4), only(3, 2))
	filters(t, allBut(), only(1), only(2), but(2, 1))
	filters(t, allBut(1, 9), but(9, 5, 1, 5), only(5, 5), but(5, 1, 9, 9), only(7))
	filters(t, allBut(ends[1:]...), only(0), but(ends...))
	filters(t, allBut(ends[:len(ends)-1]...), but(ends...), only(math.MaxUint32))
}

// P14.1: whatever the members' Links and Groups.
func TestOfAnyLinkAndGroup(t *testing.T) {
	odd := []api.Member{
		{Link: math.MinInt, Group: 0, Sources: []api.Addr{5, 3, 1}},
		{Link: -1, Group: 5, Only: true, Sources: []api.Addr{3}},
		{Link: math.MaxInt, Group: math.MaxUint32, Sources: []api.Addr{1, 3, 5}},
		{Link: 7, Group: 224 << 24, Only: true, Sources: []api.Addr{8}},
	}
	filters(t, allBut(1, 5), odd...)
	filters(t, these(3, 8), odd[1], odd[3])
	filters(t, allBut(1, 3, 5), odd[0], odd[2])
	for _, m := range odd {
		for _, a := range around(odd) {
			if got := filt.Admits(m, a); got != admits(m, a) {
				t.Errorf("Admits(%v, %d) = %v", m, a, got)
			}
		}
	}
}

// few are the addresses of which listed takes some.
var few = [4]api.Addr{0, 7, 1 << 31, math.MaxUint32}

// listed are those of few whose bits are set, rising.
func listed(bits int) (l []api.Addr) {
	for i, a := range few {
		if bits>>i&1 == 1 {
			l = append(l, a)
		}
	}
	return l
}

// P14.1: of all mixtures of up to three members that list some of four addresses.
func TestOfAllMixtures(t *testing.T) {
	const kinds = 1 << len(few)
	var try func(l []api.Member, union, common, buts int)
	try = func(l []api.Member, union, common, buts int) {
		want := these(listed(union)...)
		if buts > 0 {
			want = allBut(listed(common &^ union)...)
		}
		if f := filt.Of(l...); !alike(f, want) {
			t.Errorf("Of(%v) = %v, not %v", l, f, want)
		}
		if len(l) == 3 {
			return
		}
		for bits := range kinds {
			try(mixed(l, []api.Member{only(listed(bits)...)}), union|bits, common, buts)
			try(mixed(l, []api.Member{but(listed(bits)...)}), union, common&bits, buts+1)
		}
	}
	try(nil, 0, kinds-1, 0)
}

// drawn are members of chance, with sources of a few or of many addresses, in any order, some twice.
func drawn(r *rand.Rand) (l []api.Member) {
	from := slices.Clone(ends[:1+r.Intn(len(ends))])
	r.Shuffle(len(from), func(i, j int) { from[i], from[j] = from[j], from[i] })
	most := 1 + r.Intn(2*len(from))
	for range r.Intn(6) {
		m := api.Member{Link: r.Intn(9) - 1, Group: api.Addr(r.Uint32()), Only: r.Intn(3) == 0}
		for range r.Intn(most) {
			m.Sources = append(m.Sources, from[r.Intn(len(from))])
		}
		l = append(l, m)
	}
	return l
}

// byAddress is the filter of members, found by asking address by address, of all that are listed.
func byAddress(l []api.Member) (f filt.Filter) {
	all := around(l)
	f.Any = slices.ContainsFunc(l, func(m api.Member) bool { return !m.Only })
	for _, a := range all {
		some := slices.ContainsFunc(l, func(m api.Member) bool { return admits(m, a) })
		if some != f.Any {
			f.Sources = append(f.Sources, a)
		}
	}
	return f
}

// P14.1: as found by asking address by address, of many members of chance, in any order.
func TestOfAgainstAddresses(t *testing.T) {
	r := rand.New(rand.NewSource(14))
	named, unnamed, alone := 0, 0, 0
	for range 5000 {
		l := drawn(r)
		want := byAddress(l)
		filters(t, want, l...)
		slices.Reverse(l)
		filters(t, want, l...)
		r.Shuffle(len(l), func(i, j int) { l[i], l[j] = l[j], l[i] })
		filters(t, want, l...)
		switch {
		case !want.Any:
			alone++
		case len(want.Sources) > 0:
			named++
		default:
			unnamed++
		}
	}
	if min(named, unnamed, alone) < 200 {
		t.Errorf("%d let all but some, %d all, %d some alone: too few", named, unnamed, alone)
	}
}

// P14.1, P0.1: of very many members, and of very long lists.
func TestOfMany(t *testing.T) {
	const n = 20000
	var long, back []api.Addr
	for i := range n {
		long = append(long, api.Addr(3*i))
	}
	for i := range n {
		back = append(back, long[n-1-i])
	}
	if f := filt.Of(but(back...), but(long...), but(append(back, back...)...)); !alike(f, allBut(long...)) {
		t.Error("of long lists that are not Only")
	}
	if f := filt.Of(only(back...), only(long...)); !alike(f, these(long...)) {
		t.Error("of long lists that are Only")
	}
	if f := filt.Of(only(back[1:]...), but(long...)); !alike(f, allBut(back[0])) {
		t.Error("of long lists of both kinds")
	}
	all := slices.Repeat([]api.Member{but(9, 4, 1)}, n)
	if f := filt.Of(all...); !alike(f, allBut(1, 4, 9)) {
		t.Errorf("of many alike: %v", f)
	}
	all[n-1] = but(9, 9, 1)
	all[n/2] = only(1)
	if f := filt.Of(all...); !alike(f, allBut(9)) {
		t.Errorf("of many: %v", f)
	}
	var each []api.Member
	for _, a := range back {
		each = append(each, only(a))
	}
	if f := filt.Of(each...); !alike(f, these(long...)) {
		t.Error("of many that are Only")
	}
}

// P14.1: a member admits what it lists, if it is Only; else what it doesn't list.
func TestAdmits(t *testing.T) {
	for _, l := range [][]api.Addr{nil, {}, {5}, {5, 5}, {9, 5, 0}, {math.MaxUint32, 0, 5, 5, 1}, ends} {
		for _, a := range around([]api.Member{only(l...)}) {
			in := slices.Contains(l, a)
			if got := filt.Admits(only(l...), a); got != in {
				t.Errorf("only %v admits %d: %v", l, a, got)
			}
			if got := filt.Admits(but(l...), a); got == in {
				t.Errorf("but %v admits %d: %v", l, a, got)
			}
		}
	}
	if filt.Admits(only(), 0) || !filt.Admits(but(), 0) || !filt.Admits(api.Member{}, 7) {
		t.Error("of no sources")
	}
}

// P14.1: a filter lets by what it has, or with Any what it has not, be its Sources in any order, some twice or not.
func TestLets(t *testing.T) {
	for _, l := range [][]api.Addr{nil, {}, {5}, {5, 5}, {9, 5, 0}, {5, 9, 1, 9}, {math.MaxUint32, 0, 5, 5, 1}, ends} {
		for _, a := range around([]api.Member{only(l...)}) {
			in := slices.Contains(l, a)
			if got := filt.Lets(these(l...), a); got != in {
				t.Errorf("%v lets %d: %v", these(l...), a, got)
			}
			if got := filt.Lets(allBut(l...), a); got == in {
				t.Errorf("%v lets %d: %v", allBut(l...), a, got)
			}
		}
	}
}

// joins fails where other keys are joined by a filter, or where it is changed.
func joins(t *testing.T, f filt.Filter, group api.Addr, want ...api.Key) {
	t.Helper()
	was := filt.Filter{Any: f.Any, Sources: slices.Clone(f.Sources)}
	if got := filt.Keys(f, group); !slices.Equal(got, want) {
		t.Errorf("Keys(%v, %d) = %v, not %v", f, group, got, want)
	}
	if !alike(f, was) {
		t.Errorf("Keys made %v of %v", f, was)
	}
}

// key is a source's key of a group.
func key(source, group api.Addr) api.Key { return api.Key{Source: source, Group: group} }

// P14.1: with Any the key of any source alone, whatever is refused.
func TestKeysOfAny(t *testing.T) {
	for _, g := range ends {
		for _, l := range [][]api.Addr{nil, {}, {0}, {5}, {9, 5, 9}, ends} {
			joins(t, allBut(l...), g, key(0, g))
		}
	}
}

// P14.1: else a key for each source, rising, each once, be the Sources so or not.
func TestKeysOfSources(t *testing.T) {
	for _, g := range ends {
		joins(t, filt.Filter{}, g)
		joins(t, these([]api.Addr{}...), g)
		joins(t, these(5), g, key(5, g))
		joins(t, these(0), g, key(0, g))
		joins(t, these(5, 5, 5), g, key(5, g))
		joins(t, these(1, 2, 3), g, key(1, g), key(2, g), key(3, g))
		joins(t, these(9, 5, 9), g, key(5, g), key(9, g))
		joins(t, these(3, 1, 2, 1, 3), g, key(1, g), key(2, g), key(3, g))
		joins(t, these(math.MaxUint32, 1<<31, 0, math.MaxInt32), g, key(0, g), key(math.MaxInt32, g), key(1<<31, g), key(math.MaxUint32, g))
	}
}

// P14.1: of many sources in any order, some twice, the keys are those that are let by.
func TestKeysOfMany(t *testing.T) {
	r := rand.New(rand.NewSource(15))
	for range 200 {
		var l []api.Addr
		for range r.Intn(300) {
			l = append(l, api.Addr(r.Intn(200))<<24)
		}
		var want []api.Key
		for n := range 256 {
			if a := api.Addr(n) << 24; slices.Contains(l, a) {
				want = append(want, key(a, 9))
			}
		}
		joins(t, these(l...), 9, want...)
	}
}

// same fails where two filters are told to be the same, or not, asked either way round.
func same(t *testing.T, want bool, a, b filt.Filter) {
	t.Helper()
	if filt.Same(a, b) != want || filt.Same(b, a) != want {
		t.Errorf("Same(%v, %v) is not %v", a, b, want)
	}
}

// P14.1: Same: Any, and Sources by order and number; nil and empty alike.
func TestSame(t *testing.T) {
	lists := [][]api.Addr{nil, {0}, {5}, {5, 5}, {5, 6}, {6, 5}, {5, 6, 6}, {5, 6, 5}, {5, 5 + 1<<31}, {math.MaxUint32}, {0, 0}, ends}
	for i, l := range lists {
		for j, m := range lists {
			copied := slices.Clone(m)
			same(t, i == j, these(l...), these(copied...))
			same(t, i == j, allBut(l...), allBut(copied...))
			same(t, false, these(l...), allBut(copied...))
		}
	}
	for _, any := range []bool{false, true} {
		empty := []api.Addr{}
		same(t, true, filt.Filter{Any: any}, filt.Filter{Any: any, Sources: empty})
		same(t, true, filt.Filter{Any: any, Sources: empty}, filt.Filter{Any: any, Sources: ends[:0]})
		same(t, false, filt.Filter{Any: any, Sources: empty}, filt.Filter{Any: any, Sources: []api.Addr{0}})
	}
}

// FuzzFilt is P14.1 of whatever members: each 2 bytes are a source, and a 0 ahead of one begins another member.
func FuzzFilt(f *testing.F) {
	f.Add([]byte{})
	f.Add([]byte{0, 1, 5, 5, 3, 3, 0, 0, 5, 5})
	f.Add([]byte{0, 0, 5, 1, 5, 1, 0, 0, 0, 2, 9, 9})
	f.Fuzz(func(t *testing.T, b []byte) {
		var l []api.Member
		for ; len(b) >= 2; b = b[2:] {
			if b[0] == 0 || len(l) == 0 {
				l = append(l, api.Member{Only: b[1]%2 == 1, Group: api.Addr(b[0])})
				continue
			}
			m := &l[len(l)-1]
			m.Sources = append(m.Sources, api.Addr(b[0])<<24+api.Addr(b[1]))
		}
		want := byAddress(l)
		filters(t, want, l...)
		var keys []api.Key
		for _, a := range want.Sources {
			keys = append(keys, key(a, 77))
		}
		if want.Any {
			keys = []api.Key{key(0, 77)}
		}
		joins(t, filt.Of(l...), 77, keys...)
		same(t, true, want, filt.Of(l...))
	})
}
