package fwd_test

import (
	"slices"
	"testing"

	"rivulet/api"
	"rivulet/fwd"
	"rivulet/want"
)

// spoil writes into a list, its spare room too, and behind it.
func spoil[T any](list []T, with T) {
	full := list[:cap(list)]
	for i := range full {
		full[i] = with
	}
	_ = append(list, with, with)
}

// upon are a router's rows of one source and of any, and another router's, whose Out is one memory.
func upon(out []int) []want.Row {
	l := []want.Row{row(1, 4, 0, s1, g1), row(1, 4, 0, 0, g1), row(2, 4, 0, 0, g1)}
	for i := range l {
		l[i].Out = out
	}
	return l
}

// P0.4: what is written into a row that was handed out, into its spare room or behind it, the rows don't show, nor another one that was; an empty Out has no part in its room either.
func TestRowNotShared(t *testing.T) {
	was := []int{5, 6, 7, 8}
	for _, source := range []api.Addr{s1, s2, 0} {
		for n := range len(was) + 1 {
			room := slices.Clone(was)
			l := upon(room[:n])
			one, _ := fwd.Row(1, l, key(source, g1))
			other, _ := fwd.Row(1, l, key(source, g1))
			spoil(one.Out, 77)
			if !slices.Equal(room, was) {
				t.Fatalf("the rows' %v became %v", was, room)
			}
			spoil(room, 88)
			if !slices.Equal(other.Out, was[:n]) {
				t.Errorf("%v became %v", was[:n], other.Out)
			}
		}
	}
}

// P0.4: what is written into a deed's Out the rows don't show, nor another deed, nor a row that was handed out; be all of the row's ports in it, some, or none.
func TestDoNotShared(t *testing.T) {
	was := []int{5, 6, 7, 8}
	for _, ls := range [][]fwd.Lost{nil, {lost(5, s1, g1)}, {lost(7, s1, g1)}, {lost(8, s1, g1)}, {lost(8, s1, g1), lost(6, s1, g1), lost(7, s1, g1), lost(5, s1, g1)}} {
		for n := range len(was) + 1 {
			room := slices.Clone(was)
			l, p := upon(room[:n]), packet(4, s1, g1)
			wanted := deed(1, upon(was[:n]), ls, p)
			one, other := fwd.Do(1, l, ls, p), fwd.Do(1, l, ls, p)
			r, _ := fwd.Row(1, l, p.Key)
			spoil(one.Out, 77)
			if !slices.Equal(room, was) {
				t.Fatalf("the rows' %v became %v", was, room)
			}
			spoil(room, 88)
			if !slices.Equal(other.Out, wanted.Out) || !slices.Equal(r.Out, was[:n]) {
				t.Errorf("%v became %v, and the row's %v became %v", wanted.Out, other.Out, was[:n], r.Out)
			}
		}
	}
}

// P0.4: what is written into a row that was handed out no later deed shows.
func TestRowNotKept(t *testing.T) {
	l := upon([]int{5, 6, 7})
	for range 3 {
		r, _ := fwd.Row(1, l, key(s1, g1))
		spoil(r.Out, 77)
		does(t, 1, l, nil, packet(4, s1, g1), sent(l[0], 5, 6, 7))
		does(t, 1, l, losses(lost(6, s2, g1)), packet(4, s2, g1), sent(l[1], 5, 7))
	}
}

// P0.4: rows and losses behind the lengths of what is handed in are neither read nor written, in one memory or in two.
func TestBehindTheEnd(t *testing.T) {
	rows := []want.Row{row(0, 4, 0, s1, g1, 5), row(1, 4, 0, 0, g1, 5, 6), row(1, 4, 0, s1, g1, 6, 7), row(2, 4, 0, s1, g1, 8)}
	ls := losses(lost(5, s1, g1), lost(6, s1, g1), lost(7, s1, g1), lost(6, s2, g1))
	was, wasLost := cloned(rows), slices.Clone(ls)
	for n := range len(rows) + 1 {
		for m := range len(ls) + 1 {
			for _, p := range []fwd.Packet{packet(4, s1, g1), packet(4, s2, g1), packet(5, s1, g1)} {
				does(t, 1, rows[:n], ls[:m], p, deed(1, cloned(was[:n]), wasLost[:m], p))
			}
			if !alike(rows, was) || !slices.Equal(ls, wasLost) {
				t.Fatalf("%v, %v became %v, %v", was, wasLost, rows, ls)
			}
		}
	}
}

// P0.4: nothing of what was handed in is kept: what is written there later, what was answered doesn't show.
func TestHandedInNotKept(t *testing.T) {
	rows := []want.Row{row(1, 4, 0, s1, g1, 5, 6, 7)}
	ls := losses(lost(6, s1, g1))
	d, p := fwd.Do(1, rows, ls, packet(4, s1, g1)), packet(4, s1, g1)
	spoil(rows[0].Out, 77)
	spoil(rows, row(7, 7, 7, 7, 7, 7))
	spoil(ls, lost(5, s1, g1))
	if d.Kind != fwd.Sent || d.Row != p.Key || !slices.Equal(d.Out, []int{5, 7}) {
		t.Errorf("what was done became %v", d)
	}
	does(t, 1, []want.Row{row(1, 4, 0, s1, g1, 5, 6, 7)}, nil, p, sent(row(1, 4, 0, s1, g1), 5, 6, 7))
}
