package rib_test

import (
	"math/rand"
	"slices"
	"testing"

	"rivulet/api"
	"rivulet/conf"
	"rivulet/rib"
)

// spoil writes into a list, its spare room too, and behind it.
func spoil(list []int) {
	full := list[:cap(list)]
	for i := range full {
		full[i] = 77
	}
	_ = append(list, 77, 77)
}

// P0.4: what is written into an answer no other answer shows, nor the network.
func TestAnswersNotShared(t *testing.T) {
	x := network(t, routed)
	c := x.Config()
	for _, a := range around(c) {
		one, other := rib.Routes(x, 0, a), rib.Routes(x, 0, a)
		want := slices.Clone(other)
		spoil(one)
		if !slices.Equal(other, want) {
			t.Errorf("Routes(0, %d) = %v shows what was written into another answer", a, other)
		}
		for router := range c.Routers {
			holds(t, x, model{c}, router, a)
		}
	}
}

// P0.4, P0.5: what is asked changes nothing: neither the network, nor what is asked behind it.
func TestNothingChanged(t *testing.T) {
	r := rand.New(rand.NewSource(99))
	for range 20 {
		c, asked := drawn(r)
		x := made(t, c)
		on, of := x.On(0), x.Of(0)
		for range 2 {
			for _, a := range append(slices.Clone(asked), api.Addr(r.Uint32())) {
				holds(t, x, model{c}, 0, a)
				spoil(rib.Routes(x, 0, a))
			}
			slices.Reverse(asked)
		}
		if !conf.Same(x.Config(), c) || !slices.Equal(x.On(0), on) || !slices.Equal(x.Of(0), of) {
			t.Errorf("the network became\n%s", conf.Text(x.Config()))
		}
	}
}

// P0.5: two networks are told apart, asked in turns.
func TestNetworksApart(t *testing.T) {
	one, other := network(t, routed), network(t, nested)
	for range 2 {
		for _, a := range append(around(one.Config()), around(other.Config())...) {
			holds(t, one, model{one.Config()}, 0, a)
			holds(t, other, model{other.Config()}, 0, a)
		}
	}
}
