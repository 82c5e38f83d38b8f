package want_test

import (
	"math/rand"
	"slices"
	"testing"

	"rivulet/conf"
	"rivulet/want"
)

// spoil writes into a list, its spare room too, and behind it.
func spoil[T any](list []T, with T) {
	full := list[:cap(list)]
	for i := range full {
		full[i] = with
	}
	_ = append(list, with, with)
}

// P0.4: what is written into one row's Out, or behind it, no other row shows, of the same answer or of another one.
func TestRowsNotShared(t *testing.T) {
	x := network(t, line)
	l := all(heard(bMid, 0, g1), heard(bEast, 0, g1), heard(bSide, 0, g1), heard(bEast, west, g1), heard(bMid, side, g3), heard(bMid, 0, g2))
	wanted := cloned(want.Rows(x, b, l...))
	for i := range wanted {
		one, other := want.Rows(x, b, l...), want.Rows(x, b, l...)
		spoil(one[i].Out, 77)
		for j := range one {
			if j != i && !want.Same(one[j], wanted[j]) {
				t.Errorf("written into row %d: row %d is %v", i, j, one[j])
			}
		}
		if !alike(other, wanted) {
			t.Errorf("written into row %d: another answer is %v", i, other)
		}
	}
	spoil(want.Rows(x, b, l...), want.Row{Router: 77, Out: []int{77}})
	rows(t, x, b, l, wanted...)
}

// P0.4: the network shows nothing of what is written into rows, nor do rows of it change it.
func TestNetworkUntouched(t *testing.T) {
	r := rand.New(rand.NewSource(176))
	for range 50 {
		c := drawn(r)
		m := model{made(t, c), c}
		l := listened(r, c)
		for router := range c.Routers {
			for _, one := range want.Rows(m.x, router, l...) {
				spoil(one.Out, 77)
			}
			spoil(m.x.Of(router), 77)
		}
		if !conf.Same(m.x.Config(), c) {
			t.Errorf("the network became\n%s", conf.Text(m.x.Config()))
		}
		for router := range c.Routers {
			rows(t, m.x, router, l, m.rows(router, l)...)
		}
	}
}

// P0.4: what was heard is not kept: what is written there later no row shows; what lies behind its length is neither read nor written.
func TestHeardNotKept(t *testing.T) {
	x := network(t, line)
	room := all(heard(bEast, 0, g2), heard(bSide, 0, g2), heard(bMid, 0, g2), heard(bMid, west, g1), heard(bEast, 0, g1))
	was := slices.Clone(room)
	for n := range len(room) + 1 {
		wanted := want.Rows(x, b, slices.Clone(was[:n])...)
		rows(t, x, b, room[:n], wanted...)
		if !slices.Equal(room, was) {
			t.Fatalf("%v became %v", was, room)
		}
	}
	got := want.Rows(x, b, room...)
	wanted := cloned(got)
	spoil(room, heard(aMid, 7, 7))
	if !alike(got, wanted) {
		t.Errorf("%v became %v", wanted, got)
	}
}

// P0.4: what is written into a row that was found the list doesn't show, nor another one that was found; nor what was written into the list later the row; an empty Out has no part in its room either.
func TestFindNotShared(t *testing.T) {
	room := []int{1, 2, 3, 4}
	for n := range len(room) + 1 {
		l := []want.Row{row(b, 5, 6, 0, g1), row(a, 5, 6, 0, g1)}
		l[1].Out = room[:n]
		was := slices.Clone(room)
		one, _ := want.Find(l, a, key(0, g1))
		other, _ := want.Find(l, a, key(0, g1))
		spoil(one.Out, 77)
		if !slices.Equal(room, was) {
			t.Fatalf("the list's %v became %v", was, room)
		}
		if !slices.Equal(other.Out, was[:n]) {
			t.Errorf("another one's %v became %v", was[:n], other.Out)
		}
		spoil(l[1].Out[:n:n], 88)
		if !slices.Equal(other.Out, was[:n]) {
			t.Errorf("what was found, %v, became %v", was[:n], other.Out)
		}
		copy(room, was)
	}
}

// P0.4: of what rows ask, the rows show nothing, nor another answer; rows behind the length of the list are neither read nor written.
func TestSendsNotShared(t *testing.T) {
	x := network(t, line)
	l := []want.Row{row(a, 1, 2, west, g1, 3), row(b, 4, 5, 0, g1, 6), row(c, 7, 0, 0, g2)}
	was := cloned(l)
	asked := all(heard(2, west, g1), heard(5, 0, g1), heard(0, 0, g2))
	for n := range len(l) + 1 {
		one, other := want.Sends(x, l[:n]...), want.Sends(x, l[:n]...)
		spoil(one, heard(77, 77, 77))
		if !slices.Equal(other, asked[:n]) {
			t.Errorf("Sends of %v = %v, not %v", l[:n], other, asked[:n])
		}
		if !alike(l, was) {
			t.Fatalf("%v became %v", was, l)
		}
	}
}
