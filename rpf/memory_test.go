package rpf_test

import (
	"math/rand"
	"slices"
	"testing"

	"rivulet/api"
	"rivulet/conf"
	"rivulet/rpf"
)

// spoil writes into a list, its spare room too, and behind it.
func spoil(list []int) {
	full := list[:cap(list)]
	for i := range full {
		full[i] = 77
	}
	_ = append(list, 77, 77)
}

// P0.4: what is written into a chain no other one shows, nor the network.
func TestChainsNotShared(t *testing.T) {
	for _, s := range []string{row, line(api.MaxRouters), ring(3)} {
		x := network(t, s)
		c := x.Config()
		for _, a := range around(c) {
			one, _ := rpf.Chain(x, len(c.Routers)-1, a)
			other, _ := rpf.Chain(x, len(c.Routers)-1, a)
			want := slices.Clone(other)
			spoil(one)
			if !slices.Equal(other, want) {
				t.Errorf("Chain towards %d = %v shows what was written into another one", a, other)
			}
			for router := range c.Routers {
				holds(t, x, model{x, c}, router, a)
			}
		}
	}
}

// P0.4, P0.5: what is asked changes nothing, and hangs on the network alone; two networks are told apart, asked in turns.
func TestNothingChanged(t *testing.T) {
	r := rand.New(rand.NewSource(13))
	for range 20 {
		c, d := drawn(r), drawn(r)
		x, y := made(t, c), made(t, d)
		asked := append(around(c), around(d)...)
		goesX, goesY := rpf.Round(x), rpf.Round(y)
		for range 2 {
			for _, a := range asked {
				holds(t, x, model{x, c}, 0, a)
				holds(t, y, model{y, d}, 0, a)
			}
			slices.Reverse(asked)
		}
		rounds(t, x, goesX)
		rounds(t, y, goesY)
		if !conf.Same(x.Config(), c) || !conf.Same(y.Config(), d) {
			t.Errorf("the networks became\n%s\n%s", conf.Text(x.Config()), conf.Text(y.Config()))
		}
	}
}
