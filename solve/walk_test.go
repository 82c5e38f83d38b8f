package solve_test

import (
	"math/rand"
	"slices"
	"testing"

	"rivulet/api"
	"rivulet/conf"
	"rivulet/fwd"
	"rivulet/rpf"
	"rivulet/solve"
	"rivulet/topo"
)

// walks are a source's packets over a state: of each link how many come there (as far as they don't go round), and whether they go round.
type walks struct {
	copies []int
	round  bool
}

// walked follows a source's packets over a state.
func walked(x *topo.Topo, s solve.State, source int) walks {
	n := x.Config()
	from := n.Sources[source]
	w := walks{copies: make([]int, len(n.Links))}
	w.follow(x, n, s, from.Key, from.Link, nil)
	return w
}

// follow goes on from a link to which some ports, one behind the other, sent a packet.
func (w *walks) follow(x *topo.Topo, n api.Config, s solve.State, k api.Key, link int, behind []int) {
	w.copies[link]++
	for _, port := range x.On(link) {
		router := n.Ports[port].Router
		if len(behind) > 0 && n.Ports[behind[len(behind)-1]].Router == router {
			continue
		}
		for _, out := range fwd.Do(router, s.Rows, s.Lost, fwd.Packet{Key: k, Port: port}).Out {
			if slices.Contains(behind, out) {
				w.round = true
				continue
			}
			w.follow(x, n, s, k, n.Ports[out].Link, append(slices.Clone(behind), out))
		}
	}
}

// come fails where a source's packets come otherwise often to the links, or go round otherwise.
func come(t *testing.T, x *topo.Topo, s solve.State, source int, wanted walks) {
	t.Helper()
	got := walked(x, s, source)
	if got.round != wanted.round || !got.round && !slices.Equal(got.copies, wanted.copies) {
		t.Errorf("source %d: %v, not %v, of\n%s", source, got, wanted, conf.Text(x.Config()))
	}
}

// P0.9: in a row of routers what a source sends comes to each member once, by the root or by the nearest way, and to nobody behind.
func TestWalkOnARow(t *testing.T) {
	x := network(t, row4+"root 224.0.0.0/4 10.12.0.2\nsource west 10.1.0.9 225.0.0.1\nsource east 10.4.0.9 225.0.0.2\nsource cd 10.34.0.9 225.0.0.1\nmember bc 225.0.0.1 but\nmember cd 225.0.0.2 only 10.4.0.9\nmember west 225.0.0.2 only 10.4.0.9\n")
	s := solve.Of(x)
	come(t, x, s, 0, walks{copies: []int{1, 1, 1, 0, 0}})
	come(t, x, s, 1, walks{copies: []int{1, 1, 1, 1, 1}})
	come(t, x, s, 2, walks{copies: []int{0, 0, 1, 1, 0}})
}

// P0.9: a member of any source gets none, where its group has no root; who lists the source gets it.
func TestWalkWithoutARoot(t *testing.T) {
	x := network(t, row4+"source west 10.1.0.9 225.0.0.1\nsource west 10.1.0.9 225.0.0.2\nmember bc 225.0.0.1 but\nmember bc 225.0.0.2 only 10.1.0.9\n")
	s := solve.Of(x)
	come(t, x, s, 0, walks{copies: []int{1, 0, 0, 0, 0}})
	come(t, x, s, 1, walks{copies: []int{1, 1, 1, 0, 0}})
}

// P0.9: where two routers forward to a link, what is lost makes one of them: without it all would come twice.
func TestWalkOfThePair(t *testing.T) {
	x := network(t, pair+"source up 10.1.0.9 225.0.0.1\nmember left 225.0.0.1 only 10.1.0.9\nmember right 225.0.0.1 only 10.1.0.9\n")
	s := solve.Of(x)
	come(t, x, s, 0, walks{copies: []int{1, 1, 1, 1}})
	s.Lost = nil
	come(t, x, s, 0, walks{copies: []int{1, 2, 2, 2}})
}

// P0.9: in a ring packets go round just where the state's rows do: those that come in towards the root, not those from elsewhere.
func TestWalkRound(t *testing.T) {
	x := network(t, ring+"root 224.0.0.0/4 99.0.0.1\nsource ab 10.1.0.9 225.0.0.1\nsource out 10.4.0.9 225.0.0.1\nmember out 225.0.0.1 but\n")
	s := solve.Of(x)
	come(t, x, s, 0, walks{round: true})
	come(t, x, s, 1, walks{copies: []int{0, 0, 0, 1}})
	x = network(t, ring+"root 224.0.0.0/4 10.4.0.1\nsource ab 10.1.0.9 225.0.0.1\nmember out 225.0.0.1 but\n")
	come(t, x, solve.Of(x), 0, walks{copies: []int{1, 0, 0, 1}})
}

// P0.9: in networks of chance whose ways are the nearest, a member that lists a source gets what it sends once, and nothing goes round.
func TestWalkOfListed(t *testing.T) {
	r := rand.New(rand.NewSource(202))
	some, gone := 0, 0
	for range 2000 {
		n := joined(r, true)
		x := made(t, n)
		if rpf.Round(x) {
			t.Fatalf("a way goes round in\n%s", conf.Text(n))
		}
		s := solve.Of(x)
		gone += len(s.Lost)
		for i, source := range n.Sources {
			w := walked(x, s, i)
			if w.round || slices.Max(w.copies) > 1 {
				t.Errorf("source %d: %v, of\n%s", i, w, conf.Text(n))
			}
			for _, m := range n.Members {
				if m.Group == source.Key.Group && slices.Contains(m.Sources, source.Key.Source) {
					some++
					if w.copies[m.Link] != 1 {
						t.Errorf("source %d: %d come to %v, of\n%s", i, w.copies[m.Link], m, conf.Text(n))
					}
				}
			}
		}
	}
	if some < 4000 || gone < 20 {
		t.Errorf("too few: %d listen, %d lost", some, gone)
	}
}

// P0.9: in networks of chance whose ways are the nearest, a member that listens to a source, be it to all or to some, gets what it sends.
func TestWalkOfAny(t *testing.T) {
	r := rand.New(rand.NewSource(203))
	some := 0
	for range 500 {
		n := joined(r, false)
		x := made(t, n)
		s := solve.Of(x)
		for i, source := range n.Sources {
			w := walked(x, s, i)
			for _, m := range n.Members {
				if m.Group == source.Key.Group && slices.Contains(m.Sources, source.Key.Source) == m.Only {
					some++
					if w.copies[m.Link] == 0 {
						t.Errorf("source %d: none come to %v, of\n%s", i, m, conf.Text(n))
					}
				}
			}
		}
	}
	if some < 1000 {
		t.Errorf("too few: %d listen", some)
	}
}

// forwarders are the ports of a link by which a source's packets are sent on.
func forwarders(x *topo.Topo, n api.Config, s solve.State, link int, k api.Key) (l []int) {
	for _, port := range x.On(link) {
		r, ok := fwd.Row(n.Ports[port].Router, s.Rows, k)
		if ok && slices.Contains(r.Out, port) && !slices.Contains(s.Lost, fwd.Lost{Port: port, Key: k}) {
			l = append(l, port)
		}
	}
	return l
}

// P20.2: in networks of chance no two routers are left that forward what a source sends to one link.
func TestOneForwards(t *testing.T) {
	r := rand.New(rand.NewSource(204))
	some := 0
	for i := range 900 {
		n := joined(r, i%2 == 0)
		if i%3 == 0 {
			n = astray(r, n)
		}
		x := made(t, n)
		s := solve.Of(x)
		some += len(s.Lost)
		for link := range n.Links {
			for _, source := range n.Sources {
				if l := forwarders(x, n, s, link, source.Key); len(l) > 1 {
					t.Errorf("%v forward %v, of\n%s", l, source.Key, conf.Text(n))
				}
			}
		}
	}
	if some < 100 {
		t.Errorf("too few lost: %d", some)
	}
}
