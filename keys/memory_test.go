package keys_test

import (
	"slices"
	"testing"

	"rivulet/api"
	"rivulet/keys"
)

// spoil writes into a list, its spare room too, and behind it.
func spoil(list []api.Key) {
	with := key(77, 77)
	full := list[:cap(list)]
	for i := range full {
		full[i] = with
	}
	_ = append(list, with, with)
}

// P0.4: what is written into sorted keys neither those handed in show, nor other sorted ones; also where they were in order already.
func TestSortNotShared(t *testing.T) {
	for _, l := range [][]api.Key{nil, {}, {key(5, 7)}, {key(5, 7), key(6, 7)}, {key(6, 7), key(5, 7)}, {key(5, 7), key(5, 7)}, product(ends, ends)} {
		was := slices.Clone(l)
		one, other := keys.Sort(l...), keys.Sort(l...)
		want := slices.Clone(other)
		spoil(one)
		if !slices.Equal(l, was) {
			t.Errorf("%v became %v", was, l)
		}
		if !slices.Equal(other, want) || !slices.Equal(keys.Sort(l...), want) {
			t.Errorf("of %v: other keys show what was written", was)
		}
	}
}

// P0.4: keys that are handed in are not kept: what is written there later no answer shows.
func TestSortNotKept(t *testing.T) {
	for _, l := range [][]api.Key{{key(5, 7)}, {key(5, 7), key(6, 7)}, {key(6, 7), key(5, 7)}} {
		got := keys.Sort(l...)
		want := slices.Clone(got)
		spoil(l)
		if !slices.Equal(got, want) {
			t.Errorf("%v became %v", want, got)
		}
	}
}

// P0.4: what lies behind the length of what is handed in is neither read nor written.
func TestSortBehindTheEnd(t *testing.T) {
	room := []api.Key{key(9, 3), key(1, 3), key(9, 3), key(5, 1), key(0, 4), key(1, 3)}
	was := slices.Clone(room)
	for n := range len(room) + 1 {
		want := keys.Sort(slices.Clone(was[:n])...)
		sorts(t, room[:n], want)
		spoil(keys.Sort(room[:n]...))
		if !slices.Equal(room, was) {
			t.Fatalf("%v became %v", was, room)
		}
	}
	sorts(t, room[:0], nil)
	sorts(t, room[:1], []api.Key{key(9, 3)})
	sorts(t, room[:3], []api.Key{key(1, 3), key(9, 3)})
}

// P0.4: what is written into a network's keys, or its sources', no other keys show, and not the network.
func TestNetworkNotShared(t *testing.T) {
	for _, c := range networks(t)[:40] {
		x := made(t, c)
		all, sent := keys.All(x), keys.Sent(x)
		wantAll, wantSent := slices.Clone(all), slices.Clone(sent)
		spoil(keys.All(x))
		spoil(keys.Sent(x))
		if !slices.Equal(all, wantAll) || !slices.Equal(sent, wantSent) {
			t.Errorf("other keys show what was written: %v, %v", all, sent)
		}
		holds(t, x, c)
		spoil(all)
		if !slices.Equal(sent, wantSent) {
			t.Errorf("the sources' keys show what was written into all: %v", sent)
		}
		holds(t, x, c)
	}
}
