package topo_test

import (
	"math/rand"
	"slices"
	"testing"

	"rivulet/api"
	"rivulet/conf"
	"rivulet/topo"
)

// spoil writes into a list, its spare room too, and behind it.
func spoil[T any](list []T, with T) {
	full := list[:cap(list)]
	for i := range full {
		full[i] = with
	}
	_ = append(list, with, with)
}

// spoilNet writes into all lists of a network, the members' own too.
func spoilNet(c api.Config) {
	for _, m := range c.Members {
		spoil(m.Sources, 77)
	}
	spoil(c.Routers, api.Router{Name: "spoilt", Rank: -7})
	spoil(c.Links, api.Link{Name: "spoilt"})
	spoil(c.Ports, api.Port{Router: 77, Link: 77, Addr: 77})
	spoil(c.Routes, api.Route{Router: 77})
	spoil(c.Ranges, api.Range{Root: 77})
	spoil(c.Sources, api.Source{Link: 77})
	spoil(c.Members, api.Member{Link: 77, Group: 77, Sources: []api.Addr{77}})
}

// roomy is a list with spare room behind it, and something in it.
func roomy[T any](list []T, with T) []T {
	full := append(slices.Clone(list), with, with, with)
	return full[:len(list)]
}

// roomyNet is a network with spare room behind each of its lists, all of it not valid.
func roomyNet(c api.Config) api.Config {
	d := api.Config{
		Routers: roomy(c.Routers, api.Router{Name: "?", Rank: -7}),
		Links:   roomy(c.Links, api.Link{Name: "?"}),
		Ports:   roomy(c.Ports, api.Port{Router: 0, Link: 0, Addr: 77}),
		Routes:  roomy(c.Routes, api.Route{Router: 77}),
		Ranges:  roomy(c.Ranges, api.Range{Root: 77}),
		Sources: roomy(c.Sources, api.Source{Link: 0, Key: api.Key{Source: 77, Group: 0xe7777777}}),
		Members: roomy(c.Members, api.Member{Link: 0, Group: 0xe7777777}),
	}
	for i, m := range d.Members {
		d.Members[i].Sources = roomy(m.Sources, 77)
	}
	return d
}

// networks are some that are valid.
func networks(t *testing.T) []api.Config {
	all := []api.Config{{}, full(), parsed(t, written)}
	r := rand.New(rand.NewSource(88))
	for range 20 {
		all = append(all, drawn(r))
	}
	return all
}

// P0.4: what was handed in is not kept: it is written over behind New, its lists' spare room too.
func TestGivenNotKept(t *testing.T) {
	for _, c := range networks(t) {
		for _, given := range []api.Config{conf.Clone(c), roomyNet(c)} {
			x := made(t, given)
			holds(t, x, c)
			spoilNet(given)
			holds(t, x, c)
		}
	}
}

// P0.4: what is handed in is not changed, nor what lies behind it, also where it is refused.
func TestGivenNotChanged(t *testing.T) {
	for _, c := range networks(t) {
		given, same := roomyNet(c), roomyNet(c)
		x := made(t, given)
		holds(t, x, c)
		unchanged(t, given, same)
		given.Members = append(given.Members, api.Member{Link: -1})
		same.Members = append(same.Members, api.Member{Link: -1})
		if _, err := topo.New(given); err == nil {
			t.Error("a network with a member of no link is taken")
		}
		unchanged(t, given, same)
	}
}

// unchanged fails where two networks aren't the same, spare room too.
func unchanged(t *testing.T, a, b api.Config) {
	t.Helper()
	if !conf.Same(wholeNet(a), wholeNet(b)) {
		t.Errorf("what was handed in became\n%s", conf.Text(a))
	}
}

// wholeNet is a network with its lists' spare room, as far as roomyNet fills it.
func wholeNet(c api.Config) api.Config {
	c.Members = slices.Clone(whole(c.Members))
	for i, m := range c.Members {
		c.Members[i].Sources = whole(m.Sources)
	}
	c.Routers, c.Links, c.Ports, c.Routes = whole(c.Routers), whole(c.Links), whole(c.Ports), whole(c.Routes)
	c.Ranges, c.Sources = whole(c.Ranges), whole(c.Sources)
	return c
}

// whole is a list with its spare room.
func whole[T any](list []T) []T { return list[:cap(list)] }

// answers are all lists of places below n, one behind the other.
func answers(x *topo.Topo, n int) (all [][]int) {
	for place := range n {
		all = append(all, x.On(place), x.Of(place), x.Others(place), x.Members(place))
	}
	return all
}

// P0.4: what is written into an answer no other answer shows, nor what is kept.
func TestAnswersNotShared(t *testing.T) {
	for _, c := range networks(t) {
		x := made(t, c)
		const most = api.MaxPorts
		want, given := answers(x, most), answers(x, most)
		copies := make([][]int, len(want))
		for i, list := range want {
			copies[i] = slices.Clone(list)
		}
		for i, list := range given {
			spoil(list, 77)
			for j := range want {
				if !slices.Equal(want[j], copies[j]) || j > i && !slices.Equal(given[j], copies[j]) {
					t.Fatalf("another answer shows what was written into answer %d", i)
				}
			}
		}
		one, other := x.Groups(), x.Groups()
		spoil(one, 77)
		if !slices.Equal(x.Groups(), other) || slices.Contains(other, 77) {
			t.Errorf("Groups() = %v shows what was written into another answer", other)
		}
		holds(t, x, c)
	}
}

// P0.4: what is written into a network handed out no other one shows, nor what is kept.
func TestConfigNotShared(t *testing.T) {
	for _, c := range networks(t) {
		x := made(t, c)
		one, other := x.Config(), x.Config()
		on, of, members, groups := x.On(0), x.Of(0), x.Members(0), x.Groups()
		before := [][]int{slices.Clone(on), slices.Clone(of), slices.Clone(members)}
		spoilNet(one)
		if !conf.Same(other, c) {
			t.Errorf("another network handed out shows what was written: %s", conf.Text(other))
		}
		if !slices.Equal(on, before[0]) || !slices.Equal(of, before[1]) || !slices.Equal(members, before[2]) || slices.Contains(groups, 77) {
			t.Error("an answer shows what was written into the network handed out")
		}
		holds(t, x, c)
	}
}

// P0.4: the members' sources within one network handed out lie apart, spare room too.
func TestMembersApart(t *testing.T) {
	c := parsed(t, written)
	x := made(t, c)
	got := x.Config()
	for i, m := range got.Members {
		spoil(m.Sources, 77)
		for j, other := range got.Members {
			if j > i && !slices.Equal(other.Sources, c.Members[j].Sources) {
				t.Errorf("the sources of member %d show what was written into those of %d", j, i)
			}
		}
	}
	holds(t, x, c)
}

// P0.5: what one is made of no other one shows; asking changes nothing, whatever was asked.
func TestOthersApart(t *testing.T) {
	all := networks(t)
	var kept []*topo.Topo
	for _, c := range all {
		kept = append(kept, made(t, c))
	}
	for range 2 {
		for i, c := range all {
			holds(t, kept[i], c)
		}
	}
}
