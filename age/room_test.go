package age_test

import (
	"testing"

	"rivulet/age"
	"rivulet/api"
)

// some is one of the things that fill a table: of several kinds, at several ports.
func some(i int) age.Thing {
	return thing(i%5, i%64, 239<<24+api.Addr(i%7), api.Addr(i%3), api.Addr(i))
}

// filled is a table with that many of these things, each with a message of its own.
func filled(t *testing.T, n int) *age.Table {
	t.Helper()
	x := new(age.Table)
	for i := range n {
		hears(t, x, some(i), api.Msg{Rank: i})
	}
	if x.Len() != n {
		t.Fatalf("%d things, not %d", x.Len(), n)
	}
	return x
}

// refuses fails where a thing is taken up, or its refusal changes anything.
func refuses(t *testing.T, x *age.Table, a age.Thing) {
	t.Helper()
	n, all := x.Len(), x.All(a.Kind)
	if x.Hear(a, full(1)) {
		t.Errorf("%v is heard, among %d", a, n)
	}
	hasNot(t, x, a)
	now := x.All(a.Kind)
	if x.Len() != n || len(now) != len(all) {
		t.Fatalf("%d things, of the kind %d, not %d and %d", x.Len(), len(now), n, len(all))
	}
	for i := range all {
		if !sameEntry(now[i], all[i]) {
			t.Fatalf("%v became %v", all[i], now[i])
		}
	}
}

// P15.1: MaxHeard are heard, one more is not and changes nothing, an elder one is.
func TestRoom(t *testing.T) {
	x := filled(t, api.MaxHeard)
	ticks(t, x, 0, api.MaxHeard)
	refuses(t, x, some(api.MaxHeard))
	refuses(t, x, thing(99, 0, 0, 0, 0))
	near := some(7)
	near.Key.Source = 99
	refuses(t, x, near)
	for _, i := range []int{0, 7, api.MaxHeard - 1} {
		has(t, x, some(i), 1, api.Msg{Rank: i})
		hears(t, x, some(i), full(i))
		has(t, x, some(i), 0, full(i))
		if x.Len() != api.MaxHeard {
			t.Errorf("%d things, not %d", x.Len(), api.MaxHeard)
		}
	}
	refuses(t, x, near)
}

// P15.1: there is room for one, and for no more, if there is one less.
func TestRoomForOne(t *testing.T) {
	x := filled(t, api.MaxHeard-1)
	hears(t, x, thing(99, 0, 0, 0, 0), full(1))
	has(t, x, thing(99, 0, 0, 0, 0), 0, full(1))
	refuses(t, x, thing(98, 0, 0, 0, 0))
}

// P15.1: where things are gone there is room again, for as many, and what was refused may be heard.
func TestRoomAgain(t *testing.T) {
	const early = 3
	x := filled(t, early)
	ticks(t, x, 0, early)
	for i := early; i < api.MaxHeard; i++ {
		hears(t, x, some(i), api.Msg{})
	}
	fresh := func(i int) age.Thing { return thing(99, i, 0, 0, 0) }
	for range api.Hold - 1 {
		refuses(t, x, fresh(0))
		ticks(t, x, 0, api.MaxHeard)
	}
	refuses(t, x, fresh(0))
	ticks(t, x, early, api.MaxHeard-early)
	for i := range early {
		hears(t, x, fresh(i), full(i))
		has(t, x, fresh(i), 0, full(i))
	}
	refuses(t, x, fresh(early))
	refuses(t, x, some(0))
	ticks(t, x, api.MaxHeard-early, early)
	hears(t, x, some(0), full(9))
	has(t, x, some(0), 0, full(9))
	has(t, x, fresh(0), 1, full(0))
}

// P15.1: a copy has the room of what it is a copy of, and its own from then on.
func TestRoomOfClone(t *testing.T) {
	x := filled(t, api.MaxHeard)
	c := x.Clone()
	refuses(t, c, thing(99, 0, 0, 0, 0))
	for range api.Hold {
		ticks(t, c, 0, api.MaxHeard)
	}
	ticks(t, c, api.MaxHeard, 0)
	hears(t, c, thing(99, 0, 0, 0, 0), full(1))
	refuses(t, x, thing(99, 0, 0, 0, 0))
	has(t, x, some(5), 0, api.Msg{Rank: 5})
}
