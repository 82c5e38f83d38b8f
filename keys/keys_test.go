package keys_test

import (
	"math/rand"
	"slices"
	"testing"

	"rivulet/api"
	"rivulet/keys"
	"rivulet/topo"
)

// ahead tells whether a key is ahead of another one, in the chapter's words.
func ahead(a, b api.Key) bool {
	if a.Group != b.Group {
		return a.Group < b.Group
	}
	return a.Source < b.Source
}

// rising tells whether each key is ahead of the next one: then none is there twice.
func rising(l []api.Key) bool {
	for i := 1; i < len(l); i++ {
		if !ahead(l[i-1], l[i]) {
			return false
		}
	}
	return true
}

// P16.1: by Group, whatever the sources are; of one group by Source; the same is not ahead of itself.
func TestLess(t *testing.T) {
	for _, x := range []struct {
		a, b api.Key
		less bool
	}{
		{key(0, 0), key(0, 0), false},
		{key(5, 7), key(5, 7), false},
		{key(5, 7), key(6, 7), true},
		{key(6, 7), key(5, 7), false},
		{key(5, 7), key(5, 8), true},
		{key(5, 8), key(5, 7), false},
		{key(9, 1), key(0, 2), true},
		{key(0, 2), key(9, 1), false},
		{key(1, 9), key(2, 3), false},
		{key(0, group(1)), key(host(0, 1), group(1)), true},
		{key(1<<31-1, 4), key(1<<31, 4), true},
		{key(1<<32-1, 4), key(0, 4), false},
		{key(4, 1<<31-1), key(4, 1<<31), true},
		{key(4, 1<<32-1), key(4, 0), false},
	} {
		if keys.Less(x.a, x.b) != x.less {
			t.Errorf("Less(%v, %v) is %v", x.a, x.b, !x.less)
		}
	}
}

// P16.1: of all pairs of ends, as the chapter says; of two keys that are not the same just one is ahead.
func TestLessOfEnds(t *testing.T) {
	all := product(ends, ends)
	for _, a := range all {
		for _, b := range all {
			if keys.Less(a, b) != ahead(a, b) {
				t.Fatalf("Less(%v, %v) is %v", a, b, !ahead(a, b))
			}
			if one := keys.Less(a, b) != keys.Less(b, a); one != (a != b) {
				t.Fatalf("of %v and %v each one is ahead of the other, or none", a, b)
			}
		}
	}
}

// sorts fails where keys come in another order or number, or are changed where they were handed in.
func sorts(t *testing.T, l, want []api.Key) {
	t.Helper()
	was := slices.Clone(l)
	if got := keys.Sort(l...); !slices.Equal(got, want) {
		t.Errorf("Sort(%v) = %v, not %v", was, got, want)
	}
	if !slices.Equal(l, was) {
		t.Errorf("%v became %v", was, l)
	}
}

// P16.1: none, one, and several that are alike.
func TestSortFew(t *testing.T) {
	sorts(t, nil, nil)
	sorts(t, []api.Key{}, nil)
	if l := keys.Sort(); len(l) != 0 {
		t.Errorf("Sort() = %v", l)
	}
	zero, five := key(0, 0), key(5, 7)
	sorts(t, []api.Key{zero}, []api.Key{zero})
	sorts(t, []api.Key{five}, []api.Key{five})
	sorts(t, []api.Key{five, five, five}, []api.Key{five})
	sorts(t, []api.Key{five, zero, five, zero}, []api.Key{zero, five})
	sorts(t, []api.Key{five, zero, zero, five, five}, []api.Key{zero, five})
}

// P16.1: alike are keys of the same source and group alone.
func TestSortNearlyAlike(t *testing.T) {
	sorts(t, []api.Key{key(2, 1), key(1, 2), key(1, 1), key(2, 2)}, []api.Key{key(1, 1), key(2, 1), key(1, 2), key(2, 2)})
	sorts(t, []api.Key{key(0, 2), key(9, 1), key(0, 1), key(9, 2), key(0, 2)}, []api.Key{key(0, 1), key(9, 1), key(0, 2), key(9, 2)})
	sorts(t, []api.Key{key(3, 3), key(4, 3), key(3, 4), key(3, 3)}, []api.Key{key(3, 3), key(4, 3), key(3, 4)})
	// One number behind the other, these would be the same: 1 and 11, 11 and 1.
	sorts(t, []api.Key{key(11, 1), key(1, 11)}, []api.Key{key(11, 1), key(1, 11)})
	sorts(t, []api.Key{key(7, 3), key(3, 7)}, []api.Key{key(7, 3), key(3, 7)})
}

// P16.1: whatever the order in which they are handed in, forwards, backwards and of chance, with some of them several times.
func TestSortAnyOrder(t *testing.T) {
	want := product(ends, ends)
	if !rising(want) {
		t.Fatal("the test's own keys are in no order")
	}
	sorts(t, want, want)
	back := slices.Clone(want)
	slices.Reverse(back)
	sorts(t, back, want)
	r := rand.New(rand.NewSource(161))
	for range 100 {
		l := slices.Clone(want)
		for range r.Intn(2 * len(want)) {
			l = append(l, want[r.Intn(len(want))])
		}
		r.Shuffle(len(l), func(i, j int) { l[i], l[j] = l[j], l[i] })
		sorts(t, l, want)
	}
}

// P16.1: of some few keys, all orders in which they may be handed in.
func TestSortAllOrders(t *testing.T) {
	some := []api.Key{key(0, 1), key(9, 1), key(0, 2), key(5, 2)}
	n := len(some)
	for code := range n * n * n * n * n {
		var l []api.Key
		var has [4]bool
		for c := code; len(l) < 5; c /= n {
			l = append(l, some[c%n])
			has[c%n] = true
		}
		var want []api.Key
		for i, k := range some {
			if has[i] {
				want = append(want, k)
			}
		}
		sorts(t, l, want)
	}
}

// P16.1: many keys, most of them several times.
func TestSortMany(t *testing.T) {
	r := rand.New(rand.NewSource(162))
	var l []api.Key
	for range 200000 {
		l = append(l, key(api.Addr(r.Intn(300)), group(r.Intn(200))))
	}
	was, got := slices.Clone(l), keys.Sort(l...)
	if !rising(got) {
		t.Error("they are in no order, or some are there twice")
	}
	count := make(map[api.Key]int)
	for _, k := range got {
		count[k] = 1
	}
	if len(got) != len(count) {
		t.Errorf("%d keys, of which %d differ", len(got), len(count))
	}
	for _, k := range l {
		if count[k] == 0 {
			t.Fatalf("%v is missing", k)
		}
		count[k]++
	}
	for k, n := range count {
		if n == 1 {
			t.Errorf("%v was not handed in", k)
		}
	}
	if !slices.Equal(l, was) {
		t.Error("what was handed in was changed")
	}
}

// lists fails where a network's keys, or those of its sources, are others.
func lists(t *testing.T, c api.Config, all, sent []api.Key) {
	t.Helper()
	x := made(t, c)
	if got := keys.All(x); !slices.Equal(got, all) {
		t.Errorf("All = %v, not %v", got, all)
	}
	if got := keys.Sent(x); !slices.Equal(got, sent) {
		t.Errorf("Sent = %v, not %v", got, sent)
	}
	for _, k := range around(c) {
		if keys.Known(x, k) != slices.Contains(sent, k) {
			t.Errorf("Known(%v) is %v", k, keys.Known(x, k))
		}
	}
}

// P16.1, 'Examples': of an empty network none, also if it has links.
func TestEmpty(t *testing.T) {
	lists(t, api.Config{}, nil, nil)
	lists(t, pair(nil, nil), nil, nil)
	lists(t, parsed(t, ""), nil, nil)
	if keys.Known(made(t, api.Config{}), api.Key{}) {
		t.Error("an empty network knows a key")
	}
}

// P16.1: of sources alone: each one's key, and that of any source to its group.
func TestOfSources(t *testing.T) {
	h := host(0, 1)
	one := []api.Key{key(h, group(5))}
	lists(t, pair([]api.Source{sends(0, 1, 5)}, nil), []api.Key{key(0, group(5)), one[0]}, one)
	// One source to several groups, neither of them in order.
	lists(t, pair([]api.Source{sends(0, 1, 9), sends(0, 1, 2), sends(0, 1, 5)}, nil),
		[]api.Key{key(0, group(2)), key(h, group(2)), key(0, group(5)), key(h, group(5)), key(0, group(9)), key(h, group(9))},
		[]api.Key{key(h, group(2)), key(h, group(5)), key(h, group(9))})
	// Several sources to one group: any source's key is there once.
	lists(t, pair([]api.Source{sends(1, 3, 5), sends(0, 4, 5), sends(0, 1, 5)}, nil),
		[]api.Key{key(0, group(5)), key(h, group(5)), key(host(0, 4), group(5)), key(host(1, 3), group(5))},
		[]api.Key{key(h, group(5)), key(host(0, 4), group(5)), key(host(1, 3), group(5))})
	// By Group, then Source: the greater source sends to the lesser group.
	lists(t, pair([]api.Source{sends(0, 1, 6), sends(1, 3, 5)}, nil),
		[]api.Key{key(0, group(5)), key(host(1, 3), group(5)), key(0, group(6)), key(h, group(6))},
		[]api.Key{key(host(1, 3), group(5)), key(h, group(6))})
}

// P16.1: of members that are not Only: any source's key to their group, and none of those that they list.
func TestOfMembersBut(t *testing.T) {
	lists(t, pair(nil, []api.Member{but(0, 5)}), []api.Key{key(0, group(5))}, nil)
	lists(t, pair(nil, []api.Member{but(0, 5, 8, 7)}), []api.Key{key(0, group(5))}, nil)
	lists(t, pair(nil, []api.Member{but(1, 6, 8), but(0, 5, 7), but(0, 6, 7)}), []api.Key{key(0, group(5)), key(0, group(6))}, nil)
}

// P16.1: of members that are Only: a key for each source that they list, and any source's to their group.
func TestOfMembersOnly(t *testing.T) {
	lists(t, pair(nil, []api.Member{only(0, 5)}), []api.Key{key(0, group(5))}, nil)
	lists(t, pair(nil, []api.Member{only(0, 5, 8)}), []api.Key{key(0, group(5)), key(8, group(5))}, nil)
	lists(t, pair(nil, []api.Member{only(0, 5, 8, 3, 9, 1)}),
		[]api.Key{key(0, group(5)), key(1, group(5)), key(3, group(5)), key(8, group(5)), key(9, group(5))}, nil)
	// Several that ask for one source to one group, and to several.
	lists(t, pair(nil, []api.Member{only(1, 6, 8), only(1, 5, 8, 3), only(0, 5, 8)}),
		[]api.Key{key(0, group(5)), key(3, group(5)), key(8, group(5)), key(0, group(6)), key(8, group(6))}, nil)
	// One is Only, and another one of that group is not.
	lists(t, pair(nil, []api.Member{but(0, 5, 7, 8), only(0, 5, 8, 9)}),
		[]api.Key{key(0, group(5)), key(8, group(5)), key(9, group(5))}, nil)
}

// P16.1: sources and members of one group, and of others; that a member asks for a source makes it no known one.
func TestOfBoth(t *testing.T) {
	h, other := host(0, 1), host(1, 2)
	// A source for which a member asks is there once.
	lists(t, pair([]api.Source{sends(0, 1, 5)}, []api.Member{only(1, 5, h)}),
		[]api.Key{key(0, group(5)), key(h, group(5))},
		[]api.Key{key(h, group(5))})
	// It asks for what this source sends to another group, and for one that isn't there.
	lists(t, pair([]api.Source{sends(0, 1, 6)}, []api.Member{only(1, 5, h, other)}),
		[]api.Key{key(0, group(5)), key(h, group(5)), key(other, group(5)), key(0, group(6)), key(h, group(6))},
		[]api.Key{key(h, group(6))})
	// A source that a member refuses is there as it sends, and no other one.
	lists(t, pair([]api.Source{sends(0, 1, 5)}, []api.Member{but(1, 5, h, other)}),
		[]api.Key{key(0, group(5)), key(h, group(5))},
		[]api.Key{key(h, group(5))})
}

// P16.1: of a network that was written as text.
func TestOfWritten(t *testing.T) {
	eight, nine, two := host(0, 8), host(0, 9), host(1, 9)
	sent := []api.Key{key(nine, 0xe0010101), key(nine, 0xef000002), key(two, 0xef000002), key(eight, 0xefffffff)}
	lists(t, parsed(t, written), []api.Key{
		key(0, 0xe0000000),
		key(0, 0xe0010101), sent[0],
		key(0, 0xe1000001),
		key(0, 0xe1000002),
		key(0, 0xe8000001), key(0x01020304, 0xe8000001), key(nine, 0xe8000001),
		key(0, 0xef000002), key(eight, 0xef000002), sent[1], sent[2],
		key(0, 0xefffffff), sent[3],
	}, sent)
}

// P16.1: the first and the last group, and the first and the last addresses that a member may list.
func TestEndsOfNetwork(t *testing.T) {
	c := pair([]api.Source{sends(0, 1, 1<<28-1), sends(0, 1, 0)}, []api.Member{
		only(0, 1<<28-1, 1<<32-1, 1, 240<<24, 224<<24-1),
		only(1, 0, 1<<31, 1<<31-1),
	})
	first, last, h := group(0), group(1<<28-1), host(0, 1)
	lists(t, c, []api.Key{
		key(0, first), key(h, first), key(1<<31-1, first), key(1<<31, first),
		key(0, last), key(1, last), key(h, last), key(224<<24-1, last), key(240<<24, last), key(1<<32-1, last),
	}, []api.Key{key(h, first), key(h, last)})
}

// P16.1: Known is of a source's own key alone: not of its group, of its address with another group, nor of them the other way round.
func TestKnown(t *testing.T) {
	h, other := host(0, 1), host(1, 2)
	x := made(t, pair([]api.Source{sends(0, 1, 5), sends(1, 2, 6)}, []api.Member{only(1, 5, other, 9), but(0, 7, h)}))
	for _, k := range []api.Key{key(h, group(5)), key(other, group(6))} {
		if !keys.Known(x, k) {
			t.Errorf("%v is not known", k)
		}
	}
	for _, k := range []api.Key{
		{}, key(0, group(5)), key(0, group(6)), key(h, 0), key(h, group(6)), key(other, group(5)),
		key(9, group(5)), key(0, group(7)), key(h, group(7)), key(group(5), h), key(h+1, group(5)), key(h, group(4)),
	} {
		if keys.Known(x, k) {
			t.Errorf("%v is known", k)
		}
	}
}

// P16.1: as much as may be of all is taken up whole.
func TestFull(t *testing.T) {
	c := full()
	x := made(t, c)
	groups := api.MaxSources + api.MaxMembers
	if n, want := len(keys.All(x)), groups+api.MaxSources+api.MaxMembers*api.MaxListed; n != want {
		t.Errorf("All has %d keys, not %d", n, want)
	}
	if n := len(keys.Sent(x)); n != api.MaxSources {
		t.Errorf("Sent has %d keys", n)
	}
	holds(t, x, c)
}

// holds fails where an answer is another one than that of a network asked item by item.
func holds(t *testing.T, x *topo.Topo, c api.Config) {
	t.Helper()
	m := model{c}
	var all, sent []api.Key
	for _, k := range around(c) {
		if m.joined(k) {
			all = append(all, k)
		}
		if m.sent(k) {
			sent = append(sent, k)
		}
		if keys.Known(x, k) != m.sent(k) {
			t.Errorf("Known(%v) is %v", k, !m.sent(k))
		}
	}
	if got := keys.All(x); !slices.Equal(got, all) {
		t.Errorf("All = %v, not %v", got, all)
	}
	if got := keys.Sent(x); !slices.Equal(got, sent) {
		t.Errorf("Sent = %v, not %v", got, sent)
	}
}

// P16.1: of many networks: just the keys that the chapter's words name, in the keys' order.
func TestManyNetworks(t *testing.T) {
	for _, c := range networks(t) {
		holds(t, made(t, c), c)
	}
}

// P0.5: in whatever order a network's sources and members stand, and however often it is asked, its keys are the same.
func TestOrderOfNetwork(t *testing.T) {
	r := rand.New(rand.NewSource(163))
	for _, c := range []api.Config{full(), parsed(t, written)} {
		x := made(t, c)
		all, sent := keys.All(x), keys.Sent(x)
		for range 50 {
			r.Shuffle(len(c.Sources), func(i, j int) { c.Sources[i], c.Sources[j] = c.Sources[j], c.Sources[i] })
			r.Shuffle(len(c.Members), func(i, j int) { c.Members[i], c.Members[j] = c.Members[j], c.Members[i] })
			for _, m := range c.Members {
				r.Shuffle(len(m.Sources), func(i, j int) { m.Sources[i], m.Sources[j] = m.Sources[j], m.Sources[i] })
			}
			lists(t, c, all, sent)
		}
		if !slices.Equal(keys.All(x), all) || !slices.Equal(keys.Sent(x), sent) {
			t.Error("asked again, the keys are others")
		}
	}
}
