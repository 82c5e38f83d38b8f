package age_test

import (
	"math"
	"slices"
	"testing"

	"rivulet/age"
	"rivulet/api"
)

// numbers are kinds and ports, with those at which a difference of two of them, or a smaller type, would go wrong.
var numbers = []int{math.MinInt, math.MinInt + 1, math.MinInt32 - 1, -2, -1, 0, 1, 2, 255, 256, math.MaxInt32, 1 << 32, math.MaxInt - 1, math.MaxInt}

// addrs are addresses, rising, with those at which a number that has a sign would go wrong.
var addrs = []api.Addr{0, 1, 2, 255, 256, 65536, 10<<24 + 1, math.MaxInt32, 1 << 31, 224 << 24, math.MaxUint32 - 1, math.MaxUint32}

// thing is a thing with its fields in the order of Less.
func thing(kind, port int, group, source, from api.Addr) age.Thing {
	return age.Thing{Kind: kind, Port: port, From: from, Key: api.Key{Source: source, Group: group}}
}

// nearly are a thing and those that are other ones by one field alone.
func nearly() []age.Thing {
	return []age.Thing{thing(1, 2, 3, 4, 5), thing(6, 2, 3, 4, 5), thing(1, 6, 3, 4, 5), thing(1, 2, 6, 4, 5), thing(1, 2, 3, 6, 5), thing(1, 2, 3, 4, 6)}
}

// full is a message that has all fields, each other than where n is another one.
func full(n int) api.Msg {
	a := api.Addr(n)
	return api.Msg{Kind: n, From: a + 1, To: a + 2, Key: api.Key{Source: a + 3, Group: a + 4}, Rank: n + 5, Cost: n + 6, Only: n%2 == 0, Sources: []api.Addr{a + 9, a + 8, a + 9}}
}

// sameMsg tells whether two messages are the same in all fields.
func sameMsg(a, b api.Msg) bool {
	return a.Kind == b.Kind && a.From == b.From && a.To == b.To && a.Key == b.Key && a.Rank == b.Rank && a.Cost == b.Cost && a.Only == b.Only && slices.Equal(a.Sources, b.Sources)
}

// sameEntry tells whether two entries are the same in all fields.
func sameEntry(a, b age.Entry) bool {
	return a.Thing == b.Thing && a.Age == b.Age && sameMsg(a.Msg, b.Msg)
}

// hears fails where a thing is not taken up.
func hears(t *testing.T, x *age.Table, a age.Thing, m api.Msg) {
	t.Helper()
	if !x.Hear(a, m) {
		t.Fatalf("%v: not heard, among %d", a, x.Len())
	}
}

// has fails where a thing isn't there with that age and message, alone in the answer of Get and in that of All.
func has(t *testing.T, x *age.Table, a age.Thing, old int, m api.Msg) {
	t.Helper()
	want := age.Entry{Thing: a, Age: old, Msg: m}
	if e, ok := x.Get(a); !ok || !sameEntry(e, want) {
		t.Errorf("Get(%v) = %v, %v, not %v", a, e, ok, want)
	}
	found := 0
	for _, e := range x.All(a.Kind) {
		if e.Thing == a {
			found++
			if !sameEntry(e, want) {
				t.Errorf("All(%d) has %v, not %v", a.Kind, e, want)
			}
		}
	}
	if found != 1 {
		t.Errorf("All(%d) has %v %d times", a.Kind, a, found)
	}
}

// hasNot fails where a thing is there, or where Get answers anything beside its false.
func hasNot(t *testing.T, x *age.Table, a age.Thing) {
	t.Helper()
	if e, ok := x.Get(a); ok || !sameEntry(e, age.Entry{}) {
		t.Errorf("Get(%v) = %v, %v", a, e, ok)
	}
	for _, e := range x.All(a.Kind) {
		if e.Thing == a {
			t.Errorf("All(%d) has %v", a.Kind, e)
		}
	}
}

// ticks fails where another number of things is gone by a tick, or left behind it.
func ticks(t *testing.T, x *age.Table, gone, left int) {
	t.Helper()
	if n := x.Tick(); n != gone || x.Len() != left {
		t.Errorf("Tick() = %d, and %d left, not %d and %d", n, x.Len(), gone, left)
	}
}

// P15.1: the zero value is a table, in which nothing is.
func TestOfNothing(t *testing.T) {
	var x age.Table
	for _, y := range []*age.Table{&x, {}, new(age.Table).Clone(), x.Clone().Clone()} {
		for range api.Hold + 2 {
			ticks(t, y, 0, 0)
		}
		for _, kind := range numbers {
			if l := y.All(kind); len(l) > 0 {
				t.Errorf("All(%d) = %v", kind, l)
			}
		}
		for _, a := range append(nearly(), age.Thing{}) {
			hasNot(t, y, a)
		}
		hears(t, y, age.Thing{}, api.Msg{})
		has(t, y, age.Thing{}, 0, api.Msg{})
		if y.Len() != 1 {
			t.Errorf("%d things, not the one", y.Len())
		}
	}
}

// P15.1: a new thing is there, of Age 0, with its message, whatever the one and the other are.
func TestHearNew(t *testing.T) {
	messages := []api.Msg{
		{},
		full(0),
		full(7),
		{Kind: -1, Rank: -1, Cost: math.MaxInt, Sources: slices.Repeat(addrs, 9)},
		{Kind: math.MinInt, From: math.MaxUint32, Key: api.Key{Group: 1}, Sources: []api.Addr{}},
		{Kind: api.Query, Rank: api.MaxCost + 1, Sources: []api.Addr{0}},
	}
	for _, m := range messages {
		var x age.Table
		for i, a := range append(nearly(), age.Thing{}, thing(math.MinInt, math.MaxInt, math.MaxUint32, 0, math.MaxUint32)) {
			hasNot(t, &x, a)
			hears(t, &x, a, m)
			has(t, &x, a, 0, m)
			if x.Len() != i+1 {
				t.Errorf("%d things, not %d", x.Len(), i+1)
			}
		}
	}
}

// P15.1: what differs in one field alone is another thing: with an age and a message of its own.
func TestHearOthers(t *testing.T) {
	var x age.Table
	l := nearly()
	for i, a := range l {
		hears(t, &x, a, full(10*i))
	}
	ticks(t, &x, 0, len(l))
	for i, a := range l {
		has(t, &x, a, 1, full(10*i))
	}
	for i, a := range l {
		hears(t, &x, a, full(10*i+1))
		for j, b := range l {
			if j <= i {
				has(t, &x, b, 0, full(10*j+1))
			} else {
				has(t, &x, b, 1, full(10*j))
			}
		}
	}
}

// P15.1: an elder thing again is of Age 0, its message the later one, whole, and there is no more of it.
func TestHearAgain(t *testing.T) {
	messages := []api.Msg{full(1), {}, full(2), {Kind: 1}, {Sources: []api.Addr{5}}, {Sources: []api.Addr{}}, {Only: true}, full(3)}
	a, b := thing(1, 2, 3, 4, 5), thing(1, 2, 3, 4, 6)
	for old := range api.Hold + 1 {
		var x age.Table
		hears(t, &x, a, full(0))
		for _, m := range messages {
			for range old {
				ticks(t, &x, 0, 1)
			}
			hears(t, &x, a, m)
			has(t, &x, a, 0, m)
			hasNot(t, &x, b)
			if x.Len() != 1 {
				t.Errorf("%d things, not the one", x.Len())
			}
		}
	}
}

// P15.1: a thing is there for Hold ticks; at one more it is gone, and counted once.
func TestTickHold(t *testing.T) {
	var x age.Table
	a := thing(1, 2, 3, 4, 5)
	for round := range 3 {
		hears(t, &x, a, full(round))
		for old := 1; old <= api.Hold; old++ {
			ticks(t, &x, 0, 1)
			has(t, &x, a, old, full(round))
		}
		ticks(t, &x, 1, 0)
		hasNot(t, &x, a)
		ticks(t, &x, 0, 0)
	}
}

// P15.1: what was heard in several ticks goes tick by tick; what was heard again goes by its later one.
func TestTickOneByOne(t *testing.T) {
	var x age.Table
	all := func(tick int) []age.Thing {
		var l []age.Thing
		for i := range tick + 1 {
			l = append(l, thing(tick%2, tick, 3, 4, api.Addr(i)))
		}
		return l
	}
	const last = 2 * api.Hold
	for tick := range last {
		for _, a := range all(tick) {
			hears(t, &x, a, full(tick))
		}
		again := thing(2, 0, 0, 0, 0)
		hears(t, &x, again, full(-tick))
		gone, left := 0, 1
		for i := range tick + 1 {
			switch old := tick + 1 - i; {
			case old == api.Hold+1:
				gone = len(all(i))
			case old <= api.Hold:
				left += len(all(i))
			}
		}
		ticks(t, &x, gone, left)
		has(t, &x, again, 1, full(-tick))
		for i := range tick + 1 {
			for _, a := range all(i) {
				if old := tick + 1 - i; old <= api.Hold {
					has(t, &x, a, old, full(i))
				} else {
					hasNot(t, &x, a)
				}
			}
		}
	}
}

// P15.1: All are those of that kind of the thing, not of its message, in the order of Less, in whatever order they were heard.
func TestAll(t *testing.T) {
	var l []age.Thing
	for _, kind := range numbers {
		for _, port := range []int{math.MinInt, -1, 0, math.MaxInt} {
			for _, group := range []api.Addr{0, 1, 1 << 31, math.MaxUint32} {
				for _, source := range []api.Addr{0, math.MaxInt32, math.MaxUint32} {
					for _, from := range []api.Addr{0, 1 << 31, math.MaxUint32} {
						l = append(l, thing(kind, port, group, source, from))
					}
				}
			}
		}
	}
	msg := func(i int) api.Msg { return full(numbers[i%len(numbers)]) }
	each := len(l) / len(numbers)
	for _, step := range []int{1, len(l) - 1, 101, 1201} {
		var x age.Table
		for i := range l {
			j := i * step % len(l)
			hears(t, &x, l[j], msg(j))
		}
		if x.Len() != len(l) {
			t.Fatalf("by %d: %d things, not %d", step, x.Len(), len(l))
		}
		for i, kind := range numbers {
			all := x.All(kind)
			if len(all) != each {
				t.Fatalf("by %d: All(%d) has %d, not %d", step, kind, len(all), each)
			}
			for j, e := range all {
				at := i*each + j
				if want := (age.Entry{Thing: l[at], Msg: msg(at)}); !sameEntry(e, want) {
					t.Fatalf("by %d: All(%d) has %v at %d, not %v", step, kind, e, j, want)
				}
			}
		}
		for _, kind := range []int{-3, 3, 254, math.MaxInt32 - 1, 1<<32 + 1} {
			if all := x.All(kind); len(all) > 0 {
				t.Errorf("All(%d) = %v", kind, all)
			}
		}
	}
}

// P15.1: All's ages are those of each, what is gone is not there.
func TestAllAges(t *testing.T) {
	var x age.Table
	const last = api.Hold + 2
	for tick := range last {
		hears(t, &x, thing(1, -tick, 0, 0, 0), full(tick))
		hears(t, &x, thing(2, tick, 0, 0, 0), full(tick))
		x.Tick()
	}
	for kind, sign := range map[int]int{1: -1, 2: 1} {
		all := x.All(kind)
		if len(all) != api.Hold {
			t.Fatalf("All(%d) = %v", kind, all)
		}
		slices.SortFunc(all, func(a, b age.Entry) int { return a.Age - b.Age })
		for i, e := range all {
			tick := last - 1 - i
			if want := (age.Entry{Thing: thing(kind, sign*tick, 0, 0, 0), Age: i + 1, Msg: full(tick)}); !sameEntry(e, want) {
				t.Errorf("All(%d) has %v, not %v", kind, e, want)
			}
		}
	}
}

// P15.1: Less by each field in turn, whatever those behind it are; of the same neither.
func TestLessByField(t *testing.T) {
	low, high := thing(-9, -9, 1, 1, 1), thing(9, 9, 1<<31+1, 1<<31+1, 1<<31+1)
	turns := []func(from, to *age.Thing){
		func(from, to *age.Thing) { to.Kind = from.Kind },
		func(from, to *age.Thing) { to.Port = from.Port },
		func(from, to *age.Thing) { to.Key.Group = from.Key.Group },
		func(from, to *age.Thing) { to.Key.Source = from.Key.Source },
		func(from, to *age.Thing) { to.From = from.From },
	}
	for i, turn := range turns {
		a, b := high, low
		for _, same := range turns[:i] {
			same(&a, &b)
		}
		turn(&low, &a)
		turn(&high, &b)
		if !age.Less(a, b) || age.Less(b, a) {
			t.Errorf("%v is not ahead of %v", a, b)
		}
		if age.Less(a, a) || age.Less(b, b) {
			t.Errorf("%v or %v is ahead of itself", a, b)
		}
	}
}

// P15.1: Less is by numbers up to the ends of their types.
func TestLessEnds(t *testing.T) {
	base := thing(1, 2, 3, 4, 5)
	order := func(a, b age.Thing, want bool) {
		t.Helper()
		if age.Less(a, b) != want {
			t.Errorf("Less(%v, %v) is not %v", a, b, want)
		}
	}
	for i, n := range numbers {
		for j, m := range numbers {
			a, b := base, base
			a.Kind, b.Kind = n, m
			order(a, b, i < j)
			a, b = base, base
			a.Port, b.Port = n, m
			order(a, b, i < j)
		}
	}
	for i, n := range addrs {
		for j, m := range addrs {
			a, b := base, base
			a.Key.Group, b.Key.Group = n, m
			order(a, b, i < j)
			a, b = base, base
			a.Key.Source, b.Key.Source = n, m
			order(a, b, i < j)
			a, b = base, base
			a.From, b.From = n, m
			order(a, b, i < j)
		}
	}
}
