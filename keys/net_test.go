package keys_test

import (
	"math"
	"math/rand"
	"slices"
	"testing"

	"rivulet/api"
	"rivulet/conf"
	"rivulet/topo"
)

// ends are addresses from the first to the last one, with those at which a number that has a sign, or fewer bits, would go wrong.
var ends = []api.Addr{0, 1, 2, 255, 256, 65535, 65536, math.MaxInt32, 1 << 31, 1<<31 + 1, 224 << 24, math.MaxUint32 - 1, math.MaxUint32}

// key is the key of a source and a group.
func key(source, group api.Addr) api.Key { return api.Key{Source: source, Group: group} }

// group is a group by its number.
func group(n int) api.Addr { return 224<<24 + api.Addr(n) }

// host is a host on a link of pair, by its number.
func host(link, n int) api.Addr { return api.Addr(10+link)<<24 + api.Addr(n) }

// pair is a network of two links, with these sources and members.
func pair(sources []api.Source, members []api.Member) api.Config {
	return api.Config{
		Links: []api.Link{
			{Name: "one", Prefix: api.Prefix{Addr: host(0, 0), Bits: 8}},
			{Name: "two", Prefix: api.Prefix{Addr: host(1, 0), Bits: 8}},
		},
		Sources: sources,
		Members: members,
	}
}

// sends is a source of pair.
func sends(link, n, g int) api.Source {
	return api.Source{Link: link, Key: key(host(link, n), group(g))}
}

// only is a member that listens to these sources alone.
func only(link, g int, l ...api.Addr) api.Member {
	return api.Member{Link: link, Group: group(g), Only: true, Sources: l}
}

// but is a member that listens to all but these sources.
func but(link, g int, l ...api.Addr) api.Member {
	return api.Member{Link: link, Group: group(g), Sources: l}
}

// made is who is where in a network, which has to be valid.
func made(t testing.TB, c api.Config) *topo.Topo {
	t.Helper()
	x, err := topo.New(c)
	if err != nil {
		t.Fatalf("New of\n%s= %v", conf.Text(c), err)
	}
	return x
}

// parsed is the network that a text tells.
func parsed(t testing.TB, s string) api.Config {
	t.Helper()
	c, err := conf.Parse(s)
	if err != nil {
		t.Fatalf("Parse(%q): %v", s, err)
	}
	return c
}

// written is a network with what there may be: groups of sources alone, of members alone and of both;
// a source that sends to several groups; sources that members ask for, refuse, and that nobody has.
const written = `router a 1
link one 10.0.0.0/8
link two 11.0.0.0/8
port a one 10.0.0.1
port a two 11.0.0.1
source two 11.0.0.9 239.0.0.2
source one 10.0.0.9 239.0.0.2
source one 10.0.0.9 224.1.1.1
source one 10.0.0.8 239.255.255.255
member one 232.0.0.1 only 10.0.0.9 1.2.3.4
member two 232.0.0.1 only 1.2.3.4
member two 239.0.0.2 only 10.0.0.9 10.0.0.8
member one 239.0.0.2 but 7.7.7.7
member one 224.0.0.0 but 10.0.0.9
member two 225.0.0.1 but
member two 225.0.0.2 only
`

// full is a network that has as many sources and members as may be, each member with as many sources as may be.
func full() api.Config {
	c := pair(nil, nil)
	for i := range api.MaxSources {
		c.Sources = append(c.Sources, sends(i%2, 200-i, 50-i))
	}
	for i := range api.MaxMembers {
		m := only(i%2, 100-i)
		for n := range api.MaxListed {
			m.Sources = append(m.Sources, math.MaxUint32-api.Addr(i*api.MaxListed+n))
		}
		c.Members = append(c.Members, m)
	}
	return c
}

// drawn is a valid network of chance: few groups and few sources, so that many keys are named several times.
func drawn(r *rand.Rand) api.Config {
	c := pair(nil, nil)
	for range r.Intn(api.MaxSources + 1) {
		c.Sources = append(c.Sources, sends(r.Intn(2), 1+r.Intn(3), r.Intn(4)))
		if conf.Valid(c) != nil {
			c.Sources = c.Sources[:len(c.Sources)-1]
		}
	}
	for range r.Intn(api.MaxMembers + 1) {
		m := api.Member{Link: r.Intn(2), Group: group(r.Intn(6)), Only: r.Intn(2) == 0}
		for _, n := range r.Perm(8)[:r.Intn(api.MaxListed+1)] {
			m.Sources = append(m.Sources, host(n/4, n%4))
		}
		c.Members = append(c.Members, m)
	}
	return c
}

// networks are some that are valid.
func networks(t testing.TB) []api.Config {
	all := []api.Config{{}, pair(nil, nil), full(), parsed(t, written)}
	r := rand.New(rand.NewSource(16))
	for range 300 {
		all = append(all, drawn(r))
	}
	return all
}

// model is a network, asked item by item, in the chapter's words.
type model struct {
	c api.Config
}

// sent tells whether a key is a source's.
func (m model) sent(k api.Key) bool {
	for _, s := range m.c.Sources {
		if s.Key.Source == k.Source && s.Key.Group == k.Group {
			return true
		}
	}
	return false
}

// group tells whether a source sends to a group, or a member listens to it.
func (m model) group(g api.Addr) bool {
	for _, s := range m.c.Sources {
		if s.Key.Group == g {
			return true
		}
	}
	for _, x := range m.c.Members {
		if x.Group == g {
			return true
		}
	}
	return false
}

// asked tells whether a member of the key's group is Only and lists its source.
func (m model) asked(k api.Key) bool {
	for _, x := range m.c.Members {
		if x.Only && x.Group == k.Group && slices.Contains(x.Sources, k.Source) {
			return true
		}
	}
	return false
}

// joined tells whether a key may be joined.
func (m model) joined(k api.Key) bool {
	return k.Source == 0 && m.group(k.Group) || m.sent(k) || m.asked(k)
}

// around are keys of all addresses and groups that a network names, with those next to them, and those of the ends.
func around(c api.Config) []api.Key {
	sources, groups := slices.Clone(ends), slices.Clone(ends)
	near := func(a api.Addr) []api.Addr { return []api.Addr{a - 1, a, a + 1} }
	for _, s := range c.Sources {
		sources = append(sources, near(s.Key.Source)...)
		groups = append(groups, near(s.Key.Group)...)
	}
	for _, m := range c.Members {
		groups = append(groups, near(m.Group)...)
		for _, a := range m.Sources {
			sources = append(sources, near(a)...)
		}
	}
	return product(sources, groups)
}

// product are the keys of each source with each group.
func product(sources, groups []api.Addr) []api.Key {
	var l []api.Key
	for _, g := range once(groups) {
		for _, s := range once(sources) {
			l = append(l, key(s, g))
		}
	}
	return l
}

// once are addresses rising, each once.
func once(l []api.Addr) []api.Addr {
	l = slices.Clone(l)
	slices.Sort(l)
	return slices.Compact(l)
}
