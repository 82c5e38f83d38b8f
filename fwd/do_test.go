package fwd_test

import (
	"math"
	"math/rand"
	"slices"
	"testing"

	"rivulet/api"
	"rivulet/fwd"
	"rivulet/want"
)

// packet is one of a source to a group, and the port by which it came in.
func packet(port int, source, group api.Addr) fwd.Packet {
	return fwd.Packet{Key: key(source, group), Port: port}
}

// lost is a port at which another one forwards what a source sends to a group.
func lost(port int, source, group api.Addr) fwd.Lost {
	return fwd.Lost{Port: port, Key: key(source, group)}
}

// losses are things lost, one by one.
func losses(l ...fwd.Lost) []fwd.Lost { return l }

// does fails where something else is done with a packet, or where the rows or what was lost are changed.
func does(t *testing.T, router int, l []want.Row, ls []fwd.Lost, p fwd.Packet, wanted fwd.Deed) {
	t.Helper()
	was, wasLost := cloned(l), slices.Clone(ls)
	if got := fwd.Do(router, l, ls, p); got.Kind != wanted.Kind || got.Row != wanted.Row || !slices.Equal(got.Out, wanted.Out) {
		t.Errorf("Do(%d, %v, %v, %v) = %v, not %v", router, l, ls, p, got, wanted)
	}
	if !alike(l, was) || !slices.Equal(ls, wasLost) {
		t.Errorf("%v, %v became %v, %v", was, wasLost, l, ls)
	}
}

// none is what is done where there is no row: nothing beside its kind is told (P0.3).
func none() fwd.Deed { return fwd.Deed{} }

// wrong is what is done with a packet that came in by another port than the row's; no ports are told (P0.3).
func wrong(r want.Row) fwd.Deed { return fwd.Deed{Kind: 1, Row: r.Key} }

// sent is that a packet is sent on by a row, by some ports.
func sent(r want.Row, out ...int) fwd.Deed { return fwd.Deed{Kind: 2, Row: r.Key, Out: out} }

// P19.1: the kinds are the chapter's numbers.
func TestKinds(t *testing.T) {
	if fwd.None != 0 || fwd.Wrong != 1 || fwd.Sent != 2 {
		t.Errorf("%d, %d, %d", fwd.None, fwd.Wrong, fwd.Sent)
	}
}

// 'Examples': without rows: None, whatever the packet is, and whatever was lost.
func TestDoWithoutRows(t *testing.T) {
	for _, p := range []fwd.Packet{{}, packet(3, 0, g1), packet(-1, s1, g1), packet(math.MaxInt, math.MaxUint32, math.MaxUint32)} {
		for _, router := range ends() {
			does(t, router, nil, nil, p, none())
			does(t, router, []want.Row{}, losses(), p, none())
			does(t, router, nil, losses(fwd.Lost{Port: p.Port, Key: p.Key}), p, none())
		}
	}
}

// P19.1: rows of other keys, or of other routers, are as none, though the packet came in where they would have it.
func TestDoNone(t *testing.T) {
	l := []want.Row{row(1, 4, 0, s1, g1, 5, 6), row(2, 4, 0, 0, g1, 5), row(1, 4, 0, 0, g2, 7)}
	for _, p := range []fwd.Packet{packet(4, s2, g1), packet(4, 0, g1), packet(4, s1, g1+9), packet(4, 0, 0), packet(4, g1, s1)} {
		does(t, 1, l, nil, p, none())
		does(t, 1, l, losses(lost(5, s1, g1), lost(5, p.Key.Source, p.Key.Group)), p, none())
	}
	for _, router := range ends() {
		if router != 1 && router != 2 {
			does(t, router, l, nil, packet(4, s1, g1), none())
		}
	}
}

// P19.1: it came in by another port than the row's In: Wrong, with the Row's Key and no Out; be that one of its Out, or another one near it, or none.
func TestDoWrong(t *testing.T) {
	one, open := row(1, 4, 0, s1, g1, 5, 6, 7), row(1, 6, 4, 0, g1, 4, 5)
	l := []want.Row{row(0, 5, 0, s1, g1, 4), open, one}
	for _, port := range append(ends(), 3, 5, 6, 7, 8, 4+1<<32) {
		does(t, 1, l, nil, packet(port, s1, g1), wrong(one))
		if port != 6 {
			does(t, 1, l, nil, packet(port, s2, g1), wrong(open))
			does(t, 1, l, nil, packet(port, 0, g1), wrong(open))
			does(t, 1, l, losses(lost(5, s2, g1), lost(port, s2, g1)), packet(port, s2, g1), wrong(open))
		}
	}
	// The row is one, though nothing goes out by it.
	bare := row(1, 4, 0, s1, g1)
	does(t, 1, []want.Row{bare}, nil, packet(5, s1, g1), wrong(bare))
}

// P19.1: it came in by the row's In: Sent, with the Row's Key, by its Out in its order.
func TestDoSent(t *testing.T) {
	one, open := row(1, 4, 0, s1, g1, 5, 6, 9), row(1, 6, 4, 0, g1, 4, 5)
	l := []want.Row{row(0, 5, 0, s1, g1, 4), open, row(2, 4, 0, s1, g1, 1), one}
	does(t, 1, l, nil, packet(4, s1, g1), sent(one, 5, 6, 9))
	does(t, 1, l, losses(), packet(4, s1, g1), sent(one, 5, 6, 9))
	does(t, 1, l, nil, packet(6, s2, g1), sent(open, 4, 5))
	does(t, 1, l, nil, packet(6, 0, g1), sent(open, 4, 5))
	does(t, 0, l, nil, packet(5, s1, g1), sent(l[0], 4))
	// As the row has it, also where that is neither rising nor each once.
	odd := row(3, 2, 0, s1, g1, 9, -1, 7, 9, 0, math.MaxInt, 7, math.MinInt)
	does(t, 3, []want.Row{odd}, nil, packet(2, s1, g1), sent(odd, odd.Out...))
}

// P19.1: the row of the key goes ahead, also where the packet came in just where that of any source would have it, and of several rows the first.
func TestDoByTheFirstRow(t *testing.T) {
	one, open := row(1, 4, 0, s1, g1, 5), row(1, 6, 4, 0, g1, 7)
	later := []want.Row{row(1, 6, 0, s1, g1, 8), row(1, 4, 0, 0, g1, 9)}
	for _, l := range [][]want.Row{{one, open, later[0], later[1]}, {open, one, later[1], later[0]}, {open, later[1], one, later[0]}} {
		does(t, 1, l, nil, packet(4, s1, g1), sent(one, 5))
		does(t, 1, l, nil, packet(6, s1, g1), wrong(one))
		does(t, 1, l, nil, packet(6, s2, g1), sent(open, 7))
		does(t, 1, l, nil, packet(4, s2, g1), wrong(open))
	}
}

// P19.1: never back by the port by which it came, wherever that stands in Out, and as often as it does; so Out may become empty.
func TestDoNotBack(t *testing.T) {
	for _, out := range [][]int{{4, 5, 6}, {5, 4, 6}, {5, 6, 4}, {4, 5, 4, 4, 6, 4}} {
		r := row(1, 4, 0, 0, g1, out...)
		does(t, 1, []want.Row{r}, nil, packet(4, s1, g1), sent(r, 5, 6))
		does(t, 1, []want.Row{r}, losses(lost(5, s1, g1)), packet(4, s1, g1), sent(r, 6))
		does(t, 1, []want.Row{r}, nil, packet(5, s1, g1), wrong(r))
	}
	for _, out := range [][]int{{4}, {4, 4}} {
		r := row(1, 4, 0, s1, g1, out...)
		does(t, 1, []want.Row{r}, nil, packet(4, s1, g1), sent(r))
	}
}

// P19.1: where the first place is In, it is not told from others: it is no zero value there.
func TestDoAtTheFirstPort(t *testing.T) {
	r := row(0, 0, 0, s1, g1, 0, 1, 2)
	l := []want.Row{r}
	does(t, 0, l, nil, packet(0, s1, g1), sent(r, 1, 2))
	does(t, 0, l, nil, packet(1, s1, g1), wrong(r))
	open := row(0, 1, 0, 0, g1, 0, 2)
	does(t, 0, []want.Row{open}, nil, packet(1, s1, g1), sent(open, 0, 2))
	does(t, 0, []want.Row{open}, losses(lost(0, s1, g1)), packet(1, s1, g1), sent(open, 2))
	does(t, 0, []want.Row{open}, losses(fwd.Lost{}), packet(1, s1, g1), sent(open, 0, 2))
	does(t, 0, []want.Row{{}}, nil, fwd.Packet{}, sent(want.Row{}))
	does(t, 0, []want.Row{{Out: []int{1}}}, losses(fwd.Lost{}), fwd.Packet{}, sent(want.Row{}, 1))
}

// P19.1: a row by which nothing goes out, and one by which nothing is left: Sent all the same.
func TestDoSentNowhere(t *testing.T) {
	bare, full := row(1, 4, 0, s1, g1), row(1, 4, 0, s1, g2, 5, 6)
	l := []want.Row{bare, full}
	does(t, 1, l, nil, packet(4, s1, g1), sent(bare))
	does(t, 1, l, losses(lost(5, s1, g2), lost(6, s1, g2)), packet(4, s1, g2), sent(full))
	does(t, 1, l, losses(lost(6, s1, g2), lost(4, s1, g2), lost(5, s1, g2), lost(6, s1, g2)), packet(4, s1, g2), sent(full))
}

// P19.1: without the ports that are lost for the packet's key: each, some, all, in any order, several times, and those that are in no Out.
func TestDoWithoutLost(t *testing.T) {
	r := row(1, 4, 0, s1, g1, 3, 8, 9, 10)
	l := []want.Row{r}
	at := func(ports ...int) (ls []fwd.Lost) {
		for _, port := range ports {
			ls = append(ls, lost(port, s1, g1))
		}
		return ls
	}
	does(t, 1, l, at(3), packet(4, s1, g1), sent(r, 8, 9, 10))
	does(t, 1, l, at(8), packet(4, s1, g1), sent(r, 3, 9, 10))
	does(t, 1, l, at(10), packet(4, s1, g1), sent(r, 3, 8, 9))
	does(t, 1, l, at(9, 3), packet(4, s1, g1), sent(r, 8, 10))
	does(t, 1, l, at(3, 3, 9, 3), packet(4, s1, g1), sent(r, 8, 10))
	does(t, 1, l, at(10, 9, 8), packet(4, s1, g1), sent(r, 3))
	does(t, 1, l, at(4, 5, -3, 0, 11, 8+1<<32), packet(4, s1, g1), sent(r, 3, 8, 9, 10))
	// As often as it stands in Out.
	again := row(1, 4, 0, s1, g1, 3, 8, 3, 9, 3)
	does(t, 1, []want.Row{again}, at(3), packet(4, s1, g1), sent(again, 8, 9))
	// Lost where it comes in is no reason to leave it.
	does(t, 1, l, at(4), packet(4, s1, g1), sent(r, 3, 8, 9, 10))
}

// P19.1: what is lost for another key counts for nothing: for another source or group, or for any source.
func TestDoLostForOthers(t *testing.T) {
	one, open := row(1, 4, 0, s1, g1, 5, 6), row(1, 4, 0, 0, g1, 5, 6)
	for _, r := range []want.Row{one, open} {
		for _, ls := range [][]fwd.Lost{losses(lost(5, s2, g1)), losses(lost(5, s1, g2)), losses(lost(5, 0, g1)), losses(lost(5, g1, s1)), losses(lost(5, s1, 0)), losses(lost(5, s1+1<<31, g1)),
			losses(lost(5, s2, g1), lost(6, 0, g1), lost(6, s1, g2))} {
			does(t, 1, []want.Row{r}, ls, packet(4, s1, g1), sent(r, 5, 6))
			does(t, 1, []want.Row{r}, append(ls, lost(5, s1, g1)), packet(4, s1, g1), sent(r, 6))
		}
	}
}

// P19.1: by a row of any source, too, it is the packet's own key for which a port is lost, and not the row's.
func TestDoLostForThePacketsKey(t *testing.T) {
	open := row(1, 4, 0, 0, g1, 5, 6, 7)
	l := []want.Row{open}
	ls := losses(lost(5, 0, g1), lost(6, s1, g1), lost(7, s2, g1))
	does(t, 1, l, ls, packet(4, s1, g1), sent(open, 5, 7))
	does(t, 1, l, ls, packet(4, s2, g1), sent(open, 5, 6))
	does(t, 1, l, ls, packet(4, s2+1, g1), sent(open, 5, 6, 7))
	does(t, 1, l, ls, packet(4, 0, g1), sent(open, 6, 7))
}

// P19.1: a row to which nothing leads (In -1) has no port at which a packet could come in: Wrong at each. It is said of In and Port alone, so a packet of no port is just there.
func TestDoWithoutIn(t *testing.T) {
	r := row(1, -1, -1, 0, g1, 0, 1, 2)
	l := []want.Row{r}
	for _, port := range ends() {
		if port != -1 {
			does(t, 1, l, nil, packet(port, s1, g1), wrong(r))
		}
	}
	does(t, 1, l, losses(lost(1, s1, g1)), packet(-1, s1, g1), sent(r, 0, 2))
}

// P19.1: places at the ends of their type, and those alike in their lower bits alone: In, Out and what is lost.
func TestDoAtTheEnds(t *testing.T) {
	for i, in := range ends() {
		r := row(1, in, 0, s1, g1, ends()...)
		kept := slices.Delete(ends(), i, i+1)
		for j, port := range ends() {
			if i != j {
				does(t, 1, []want.Row{r}, nil, packet(port, s1, g1), wrong(r))
				continue
			}
			does(t, 1, []want.Row{r}, nil, packet(port, s1, g1), sent(r, kept...))
		}
		for j, port := range kept {
			does(t, 1, []want.Row{r}, losses(lost(port, s1, g1)), packet(in, s1, g1), sent(r, slices.Delete(slices.Clone(kept), j, j+1)...))
		}
	}
}

// rowOf is the place of the row by which a router's packets of a key go, in the chapter's words; -1: there is none.
func rowOf(router int, l []want.Row, k api.Key) int {
	for _, source := range []api.Addr{k.Source, 0} {
		for i, r := range l {
			if r.Router == router && r.Key.Source == source && r.Key.Group == k.Group {
				return i
			}
		}
	}
	return -1
}

// deed is what is done with a packet, in the chapter's words.
func deed(router int, l []want.Row, ls []fwd.Lost, p fwd.Packet) fwd.Deed {
	i := rowOf(router, l, p.Key)
	switch {
	case i < 0:
		return none()
	case l[i].In != p.Port:
		return wrong(l[i])
	}
	var out []int
	for _, port := range l[i].Out {
		gone := port == p.Port
		for _, one := range ls {
			gone = gone || one.Port == port && one.Key.Source == p.Key.Source && one.Key.Group == p.Key.Group
		}
		if !gone {
			out = append(out, port)
		}
	}
	return sent(l[i], out...)
}

// someKey is one of a few keys.
func someKey(r *rand.Rand) api.Key { return key(api.Addr(r.Intn(3)), g1+api.Addr(r.Intn(2))) }

// someRows are rows of a few routers and keys, of chance, several alike among them.
func someRows(r *rand.Rand) (l []want.Row) {
	for range r.Intn(12) {
		one := want.Row{Router: r.Intn(3), In: r.Intn(6) - 1, Up: r.Intn(6) - 1, Key: someKey(r)}
		for range r.Intn(5) {
			one.Out = append(one.Out, r.Intn(7)-1)
		}
		l = append(l, one)
	}
	return l
}

// someLost are things lost, of chance.
func someLost(r *rand.Rand) (ls []fwd.Lost) {
	for range r.Intn(12) {
		ls = append(ls, fwd.Lost{Port: r.Intn(7) - 1, Key: someKey(r)})
	}
	return ls
}

// P19.1: of many rows and losses of chance: as asked one by one, whatever was asked between.
func TestDoDrawn(t *testing.T) {
	r := rand.New(rand.NewSource(19))
	kinds := make([]int, 3)
	for range 4000 {
		l, ls := someRows(r), someLost(r)
		for range 8 {
			router, p := r.Intn(4)-1, fwd.Packet{Key: someKey(r), Port: r.Intn(6) - 1}
			if i := rowOf(router, l, p.Key); i < 0 {
				hasNone(t, router, l, p.Key)
			} else {
				has(t, router, l, p.Key, l[i])
			}
			wanted := deed(router, l, ls, p)
			does(t, router, l, ls, p, wanted)
			kinds[wanted.Kind]++
		}
	}
	if slices.Min(kinds) < 1000 {
		t.Errorf("too few of a kind: %v", kinds)
	}
}

// P19.1: in whatever order things are lost, and however often, the same is done.
func TestDoLostInAnyOrder(t *testing.T) {
	r := rand.New(rand.NewSource(191))
	for range 500 {
		l, ls := someRows(r), someLost(r)
		router, p := r.Intn(3), fwd.Packet{Key: someKey(r), Port: r.Intn(6) - 1}
		wanted := deed(router, l, ls, p)
		for range 5 {
			r.Shuffle(len(ls), func(i, j int) { ls[i], ls[j] = ls[j], ls[i] })
			does(t, router, l, ls, p, wanted)
			does(t, router, l, append(ls, ls...), p, wanted)
		}
	}
}

// P19.1: of very many rows, ports and losses: the last row, without all the lost ones.
func TestDoOfMany(t *testing.T) {
	const many = 20000
	var l []want.Row
	for i := range many {
		l = append(l, row(1, 4, 0, s1+1+api.Addr(i), g1, 5))
	}
	last := row(1, 4, 0, 0, g1)
	var ls []fwd.Lost
	var kept []int
	for port := range many {
		last.Out = append(last.Out, port)
		if port%3 == 0 {
			ls = append(ls, lost(port, s1, g1))
		} else if port != 4 {
			kept = append(kept, port)
		}
	}
	l = append(l, last)
	does(t, 1, l, ls, packet(4, s1, g1), sent(last, kept...))
	does(t, 1, l, ls, packet(5, s1, g1), wrong(last))
	does(t, 1, l[:many], ls, packet(4, s1, g1), none())
}

// P19.1: what the bytes of a text tell as rows, losses and packets: as asked one by one.
func FuzzDo(f *testing.F) {
	f.Add([]byte{}, byte(0), byte(0), byte(0))
	f.Add([]byte{1, 4, 1, 5, 2, 4, 0, 6, 255, 5, 1, 0}, byte(1), byte(4), byte(1))
	f.Add([]byte{0, 0, 0, 0, 0, 1, 1, 0}, byte(0), byte(0), byte(1))
	f.Fuzz(func(t *testing.T, b []byte, router, port, source byte) {
		var l []want.Row
		var ls []fwd.Lost
		for ; len(b) >= 4; b = b[4:] {
			k := key(api.Addr(b[2]%4), g1+api.Addr(b[2]/128))
			switch {
			case b[0] < 128:
				l = append(l, want.Row{Router: int(b[0] % 4), In: int(b[1]), Key: k, Out: []int{int(b[3])}})
			case b[0] < 192 && len(l) > 0:
				l[len(l)-1].Out = append(l[len(l)-1].Out, int(b[1]), int(b[3]))
			default:
				ls = append(ls, fwd.Lost{Port: int(b[1]), Key: k})
			}
		}
		p := packet(int(port), api.Addr(source%4), g1+api.Addr(source/128))
		does(t, int(router%4), l, ls, p, deed(int(router%4), l, ls, p))
	})
}
