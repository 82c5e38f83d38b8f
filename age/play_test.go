package age_test

import (
	"math/rand"
	"slices"
	"testing"

	"rivulet/age"
	"rivulet/api"
)

// diary is a table in another way: all that was heard, with the tick it was heard in; nothing is ever taken out.
type diary struct {
	now  int
	when map[age.Thing]int
	what map[age.Thing]api.Msg
}

// there are the things that are not too old, in no order.
func (d *diary) there() (l []age.Entry) {
	for x, tick := range d.when {
		if d.now-tick <= api.Hold {
			l = append(l, age.Entry{Thing: x, Age: d.now - tick, Msg: d.what[x]})
		}
	}
	return l
}

// kind are the things of a kind that are there, sorted by putting each ahead of the first that it is less than, field by field.
func (d *diary) kind(kind int) (l []age.Entry) {
	for _, e := range d.there() {
		if e.Thing.Kind != kind {
			continue
		}
		at := 0
		for at < len(l) && ahead(l[at].Thing, e.Thing) {
			at++
		}
		l = slices.Insert(l, at, e)
	}
	return l
}

// ahead tells which of two things is the first, without a call of what is tested.
func ahead(a, b age.Thing) bool {
	switch {
	case a.Kind != b.Kind:
		return a.Kind < b.Kind
	case a.Port != b.Port:
		return a.Port < b.Port
	case a.Key.Group != b.Key.Group:
		return a.Key.Group < b.Key.Group
	case a.Key.Source != b.Key.Source:
		return a.Key.Source < b.Key.Source
	}
	return a.From < b.From
}

// hear takes up a thing.
func (d *diary) hear(x age.Thing, m api.Msg) {
	d.when[x], d.what[x] = d.now, m
}

// tick is how many things are gone by a tick.
func (d *diary) tick() int {
	before := len(d.there())
	d.now++
	return before - len(d.there())
}

// clone is a diary that is the same.
func (d *diary) clone() *diary {
	c := &diary{d.now, map[age.Thing]int{}, map[age.Thing]api.Msg{}}
	for x, tick := range d.when {
		c.when[x], c.what[x] = tick, d.what[x]
	}
	return c
}

// agree fails where a table isn't as a diary says.
func agree(t *testing.T, x *age.Table, d *diary) {
	t.Helper()
	l := d.there()
	if x.Len() != len(l) {
		t.Fatalf("%d things, not %d", x.Len(), len(l))
	}
	for _, e := range l {
		if got, ok := x.Get(e.Thing); !ok || !sameEntry(got, e) {
			t.Fatalf("Get(%v) = %v, %v, not %v", e.Thing, got, ok, e)
		}
	}
	for kind := -1; kind < 6; kind++ {
		if got, want := x.All(kind), d.kind(kind); !slices.EqualFunc(got, want, sameEntry) {
			t.Fatalf("All(%d) = %v, not %v", kind, got, want)
		}
	}
}

// play does what bytes say with tables and with their diaries, and holds them against each other.
func play(t *testing.T, b []byte) {
	tables := []*age.Table{new(age.Table)}
	diaries := []*diary{{when: map[age.Thing]int{}, what: map[age.Thing]api.Msg{}}}
	for ; len(b) >= 3; b = b[3:] {
		i := int(b[1]) % len(tables)
		x, d := tables[i], diaries[i]
		switch n := int(b[2]); {
		case b[0] < 40:
			if got, want := x.Tick(), d.tick(); got != want {
				t.Fatalf("Tick() = %d, not %d", got, want)
			}
		case b[0] < 50:
			c, e := x.Clone(), d.clone()
			if len(tables) < 4 {
				tables, diaries = append(tables, c), append(diaries, e)
			} else {
				tables[n%4], diaries[n%4] = c, e
			}
		default:
			at, m := thing(n&3, n>>2&1, api.Addr(n>>3&3)<<30, api.Addr(n>>5&1), api.Addr(n>>6)<<30), full(int(b[0]))
			m.Sources = m.Sources[:b[0]%4]
			if !x.Hear(at, m) {
				t.Fatalf("%v: not heard", at)
			}
			d.hear(at, m)
		}
	}
	for i, x := range tables {
		agree(t, x, diaries[i])
	}
}

// P15.1: as a diary tells, of plays of chance with several tables, some of them copies.
func TestPlays(t *testing.T) {
	r := rand.New(rand.NewSource(15))
	for range 3000 {
		b := make([]byte, r.Intn(600))
		r.Read(b)
		play(t, b)
	}
}

// P0.5: the same things heard in any order are told in the same one.
func TestOrderOfHearing(t *testing.T) {
	r := rand.New(rand.NewSource(16))
	var l []age.Thing
	for n := range 500 {
		l = append(l, thing(1, n%5, api.Addr(n%7), api.Addr(n%11), api.Addr(n)))
	}
	var want []age.Entry
	for range 20 {
		var x age.Table
		for _, a := range l {
			hears(t, &x, a, api.Msg{From: a.From, Rank: a.Port})
		}
		for range 3 {
			all := x.All(1)
			if want == nil {
				want = all
			}
			if len(all) != len(l) || !slices.EqualFunc(all, want, sameEntry) {
				t.Fatal("All is told in another order")
			}
		}
		r.Shuffle(len(l), func(i, j int) { l[i], l[j] = l[j], l[i] })
	}
	if !slices.IsSortedFunc(want, func(a, b age.Entry) int {
		if ahead(a.Thing, b.Thing) {
			return -1
		}
		return 1
	}) {
		t.Error("All is not in order")
	}
}

// FuzzTable is P15.1 of whatever plays.
func FuzzTable(f *testing.F) {
	f.Add([]byte{})
	f.Add([]byte{99, 0, 5, 0, 0, 0, 99, 0, 5, 45, 0, 0, 0, 1, 0, 0, 1, 0, 0, 1, 0, 0, 1, 0})
	f.Fuzz(play)
}
