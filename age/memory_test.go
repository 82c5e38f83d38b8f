package age_test

import (
	"math"
	"slices"
	"testing"

	"rivulet/age"
	"rivulet/api"
)

// spoil writes into a list, its spare room too, and behind it.
func spoil[T any](list []T, with T) {
	full := list[:cap(list)]
	for i := range full {
		full[i] = with
	}
	_ = append(list, with, with)
}

// lists are Sources of several lengths.
func lists() [][]api.Addr {
	return [][]api.Addr{nil, {}, {7}, {7, 7}, {9, 8, 7}, {1, 2, 3, 4}, {1, 2, 3, 4, 5}, slices.Repeat([]api.Addr{math.MaxUint32, 0}, 50)}
}

// spoilEntries writes into all memory of entries, that of their messages first.
func spoilEntries(l []age.Entry) {
	for _, e := range l {
		spoil(e.Msg.Sources, 66)
	}
	spoil(l, age.Entry{Thing: thing(6, 6, 6, 6, 6), Age: 66, Msg: full(66)})
}

// P0.4: what is handed to Hear is neither changed nor kept: what is written there later no table shows.
func TestHearKeepsNothing(t *testing.T) {
	for _, l := range lists() {
		var x age.Table
		a := thing(1, 2, 3, 4, 5)
		for range 2 {
			m := api.Msg{Kind: 4, Sources: slices.Clone(l)}
			hears(t, &x, a, m)
			if !slices.Equal(m.Sources, l) {
				t.Errorf("%v became %v", l, m.Sources)
			}
			spoil(m.Sources, 99)
			has(t, &x, a, 0, api.Msg{Kind: 4, Sources: l})
		}
	}
}

// P0.4: what lies behind the length of a message's Sources is neither read nor written, and kept by nobody.
func TestBehindTheEnd(t *testing.T) {
	all := []api.Addr{9, 8, 7, 6, 5}
	for n := range len(all) + 1 {
		var x age.Table
		a, own := thing(1, 2, 3, 4, 5), slices.Clone(all)
		hears(t, &x, a, api.Msg{Sources: own[:n]})
		e, _ := x.Get(a)
		spoil(e.Msg.Sources, 99)
		spoilEntries(x.All(1))
		x.Clone().Tick()
		x.Tick()
		if !slices.Equal(own, all) {
			t.Errorf("%v became %v", all, own)
		}
		spoil(own, 98)
		has(t, &x, a, 1, api.Msg{Sources: all[:n]})
	}
}

// P0.4: what is written into Get's answer neither the table shows, nor another answer.
func TestGetNotShared(t *testing.T) {
	for _, l := range lists() {
		var x age.Table
		a, m := thing(1, 2, 3, 4, 5), api.Msg{Kind: 4, Sources: l}
		hears(t, &x, a, api.Msg{Kind: 4, Sources: slices.Clone(l)})
		for old := range api.Hold + 1 {
			one, _ := x.Get(a)
			other, _ := x.Get(a)
			listed, copied := x.All(1), x.Clone()
			spoil(one.Msg.Sources, 99)
			want := age.Entry{Thing: a, Age: old, Msg: m}
			if !sameEntry(other, want) || len(listed) != 1 || !sameEntry(listed[0], want) {
				t.Errorf("%v or %v shows what was written, not %v", other, listed, want)
			}
			has(t, &x, a, old, m)
			has(t, copied, a, old, m)
			x.Tick()
		}
	}
}

// P0.4: what is written into All's answer neither the table shows, nor another answer, nor another entry of it.
func TestAllNotShared(t *testing.T) {
	var x age.Table
	var want []age.Entry
	for i, l := range lists() {
		want = append(want, age.Entry{Thing: thing(1, i, 0, 0, 0), Msg: api.Msg{Kind: i, Sources: l}})
		hears(t, &x, want[i].Thing, api.Msg{Kind: i, Sources: slices.Clone(l)})
	}
	one, other, copied := x.All(1), x.All(1), x.Clone()
	for i := range one {
		spoil(one[i].Msg.Sources, 99)
		if i+1 < len(one) && !slices.EqualFunc(one[i+1:], want[i+1:], sameEntry) {
			t.Errorf("%v shows what was written into the entry %d", one, i)
		}
	}
	spoilEntries(one)
	if !slices.EqualFunc(other, want, sameEntry) {
		t.Errorf("%v shows what was written, not %v", other, want)
	}
	for _, e := range want {
		has(t, &x, e.Thing, 0, e.Msg)
		has(t, copied, e.Thing, 0, e.Msg)
	}
	spoil(x.All(7), age.Entry{Age: 77})
	spoil(x.All(7)[:0], age.Entry{Age: 77})
	if len(x.All(7)) != 0 || x.Len() != len(want) {
		t.Errorf("%d things, not %d", x.Len(), len(want))
	}
}

// P0.4: what one message of several things was made of is shared by none of them.
func TestOneMessageOfSeveral(t *testing.T) {
	var x age.Table
	m := api.Msg{Kind: 4, Sources: []api.Addr{7, 8, 9}}
	for _, a := range nearly() {
		hears(t, &x, a, m)
	}
	e, _ := x.Get(nearly()[0])
	spoil(e.Msg.Sources, 99)
	spoilEntries(x.All(1))
	spoil(m.Sources, 98)
	for _, a := range nearly() {
		has(t, &x, a, 0, api.Msg{Kind: 4, Sources: []api.Addr{7, 8, 9}})
	}
}

// P15.1: a copy has all things with their ages and messages.
func TestCloneSame(t *testing.T) {
	var x age.Table
	for i, a := range nearly() {
		hears(t, &x, a, full(i))
		if i%2 == 0 {
			x.Tick()
		}
	}
	c := x.Clone()
	if c == &x || c.Len() != x.Len() {
		t.Fatalf("%d things, not %d", c.Len(), x.Len())
	}
	for _, a := range nearly() {
		if e, ok := x.Get(a); ok {
			has(t, c, a, e.Age, e.Msg)
		} else {
			hasNot(t, c, a)
		}
	}
}

// P15.1, P0.4: a copy goes its own way, and so does what it is a copy of.
func TestCloneOwnWay(t *testing.T) {
	a, b, d := thing(1, 1, 1, 1, 1), thing(1, 2, 2, 2, 2), thing(1, 3, 3, 3, 3)
	for _, turned := range []bool{false, true} {
		x := new(age.Table)
		hears(t, x, a, full(1))
		ticks(t, x, 0, 1)
		one, other := x, x.Clone()
		if turned {
			one, other = other, one
		}
		hears(t, one, a, full(2))
		hears(t, one, b, full(3))
		has(t, other, a, 1, full(1))
		hasNot(t, other, b)
		hears(t, other, d, full(4))
		hasNot(t, one, d)
		for old := range api.Hold - 1 {
			ticks(t, other, 0, 2)
			has(t, other, a, old+2, full(1))
			has(t, one, a, 0, full(2))
		}
		ticks(t, other, 1, 1)
		has(t, one, a, 0, full(2))
		has(t, one, b, 0, full(3))
		hasNot(t, other, a)
		ticks(t, other, 1, 0)
		if one.Len() != 2 || other.Len() != 0 {
			t.Errorf("%d and %d things, not 2 and 0", one.Len(), other.Len())
		}
	}
}

// P15.1: a copy of nothing goes its own way too.
func TestCloneOfNothing(t *testing.T) {
	var x age.Table
	c := x.Clone()
	a := thing(1, 2, 3, 4, 5)
	hears(t, c, a, full(1))
	hasNot(t, &x, a)
	hears(t, &x, a, full(2))
	has(t, c, a, 0, full(1))
	has(t, &x, a, 0, full(2))
}

// P0.4: what is written into what a copy hands out neither it shows, nor what it is a copy of.
func TestCloneNotShared(t *testing.T) {
	for _, l := range lists() {
		var x age.Table
		a := thing(1, 2, 3, 4, 5)
		hears(t, &x, a, api.Msg{Sources: slices.Clone(l)})
		c, d := x.Clone(), x.Clone().Clone()
		for _, y := range []*age.Table{&x, c, d} {
			e, _ := y.Get(a)
			spoil(e.Msg.Sources, 99)
			spoilEntries(y.All(1))
			for _, z := range []*age.Table{&x, c, d} {
				has(t, z, a, 0, api.Msg{Sources: l})
			}
		}
	}
}
