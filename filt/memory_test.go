package filt_test

import (
	"slices"
	"testing"

	"rivulet/api"
	"rivulet/filt"
)

// spoil writes into a list, its spare room too, and behind it.
func spoil[T any](list []T, with T) {
	full := list[:cap(list)]
	for i := range full {
		full[i] = with
	}
	_ = append(list, with, with)
}

// lists are some mixtures of members: of none, of each kind alone, of both, with lists that rise and that don't.
func lists() [][]api.Member {
	return [][]api.Member{
		{},
		{only()},
		{only(3)},
		{only(1, 2, 3)},
		{only(3, 1, 3)},
		{only(3), only(1, 2)},
		{but()},
		{but(3)},
		{but(1, 2, 3)},
		{but(3, 1, 3)},
		{but(3, 1), but(1, 2, 3)},
		{but(), only(3, 1)},
		{but(3, 1, 2), only(1)},
		{only(4), but(1, 2, 3), but(3, 2, 1)},
	}
}

// P0.4: what is written into a filter's Sources neither the members show, nor another filter.
func TestSourcesNotShared(t *testing.T) {
	for _, l := range lists() {
		was := cloned(l)
		one, other := filt.Of(l...), filt.Of(l...)
		want := byAddress(was)
		spoil(one.Sources, 77)
		unchanged(t, l, was)
		if !alike(other, want) || !alike(filt.Of(l...), want) {
			t.Errorf("of %v: another filter shows what was written", was)
		}
	}
}

// P0.4: what is written into keys neither the filter shows, nor other keys.
func TestKeysNotShared(t *testing.T) {
	for _, f := range []filt.Filter{{}, these(5), these(1, 2, 3), these(9, 5, 9), allBut(), allBut(9, 5, 9)} {
		was := filt.Filter{Any: f.Any, Sources: slices.Clone(f.Sources)}
		one, other := filt.Keys(f, 9), filt.Keys(f, 9)
		want := slices.Clone(other)
		spoil(one, key(77, 77))
		if !alike(f, was) {
			t.Errorf("%v became %v", was, f)
		}
		if !slices.Equal(other, want) || !slices.Equal(filt.Keys(f, 9), want) {
			t.Errorf("of %v: other keys show what was written", was)
		}
	}
}

// P0.4: what is handed in is not kept: what is written there later no filter and no keys show.
func TestNothingKept(t *testing.T) {
	for _, l := range lists() {
		want := byAddress(l)
		f := filt.Of(l...)
		for _, m := range l {
			spoil(m.Sources, 66)
		}
		spoil(l, only(66))
		if !alike(f, want) {
			t.Errorf("the filter %v became %v", want, f)
		}
		keys := filt.Keys(f, 9)
		wanted := slices.Clone(keys)
		spoil(f.Sources, 55)
		if !slices.Equal(keys, wanted) {
			t.Errorf("the keys %v became %v", wanted, keys)
		}
	}
}

// P0.4: what lies behind the length of what is handed in is neither read nor written.
func TestBehindTheEnd(t *testing.T) {
	sources := []api.Addr{9, 5, 9, 1, 8, 2}
	members := []api.Member{but(9, 5, 1), only(9), but(5, 1), only(5), but()}
	sourcesWere, membersWere := slices.Clone(sources), cloned(members)
	for n := range len(sources) + 1 {
		l := sources[:n]
		own := slices.Clone(l)
		for _, m := range []api.Member{only(l...), but(l...)} {
			filters(t, byAddress([]api.Member{m}), m)
			filters(t, byAddress([]api.Member{m, m, only(8)}), m, m, only(8))
			for _, a := range sources {
				if filt.Admits(m, a) != (slices.Contains(own, a) == m.Only) {
					t.Errorf("Admits(%v, %d)", m, a)
				}
			}
		}
		for _, a := range sources {
			if filt.Lets(these(l...), a) != slices.Contains(own, a) || filt.Lets(allBut(l...), a) == slices.Contains(own, a) {
				t.Errorf("%v lets %d otherwise", l, a)
			}
		}
		wanted := filt.Keys(these(own...), 9)
		joins(t, these(l...), 9, wanted...)
		joins(t, allBut(l...), 9, key(0, 9))
		same(t, true, these(l...), these(own...))
		if !slices.Equal(sources, sourcesWere) {
			t.Fatalf("%v became %v", sourcesWere, sources)
		}
	}
	for n := range len(members) + 1 {
		filters(t, byAddress(cloned(members[:n])), members[:n]...)
		unchanged(t, members, membersWere)
	}
}
