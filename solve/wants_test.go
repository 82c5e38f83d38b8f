package solve_test

import (
	"math/rand"
	"slices"
	"testing"

	"rivulet/api"
	"rivulet/conf"
	"rivulet/solve"
	"rivulet/topo"
	"rivulet/want"
)

// wants fails where other keys are to be joined for a network's members.
func wants(t *testing.T, x *topo.Topo, wanted ...want.Heard) {
	t.Helper()
	if got := solve.Wants(x); !slices.Equal(got, wanted) {
		t.Errorf("Wants = %v, not %v, of\n%s", got, wanted, conf.Text(x.Config()))
	}
}

// P20.1: without members nothing is to be joined, though there are routers and sources; nor in an empty network.
func TestWantsWithoutMembers(t *testing.T) {
	wants(t, made(t, api.Config{}))
	wants(t, network(t, row4))
	wants(t, network(t, row4+"root 224.0.0.0/4 10.1.0.1\nsource west 10.1.0.9 225.0.0.1\nsource east 10.4.0.9 225.0.0.1\n"))
	wants(t, network(t, "router a 1\nlink l 10.0.0.0/8\nsource l 10.0.0.9 225.0.0.1\n"))
}

// P20.1: for members on a link without a seat nothing is to be joined: on a link without ports, though there are routers, and ports on other links.
func TestWantsWithoutSeat(t *testing.T) {
	wants(t, network(t, "link l 10.0.0.0/8\nmember l 225.0.0.1 but\nmember l 225.0.0.2 only 10.0.0.9\n"))
	wants(t, network(t, "router a 1\nlink l 10.0.0.0/8\nmember l 225.0.0.1 but\n"))
	apart := "router a 1\nlink none 10.1.0.0/16\nlink l 10.2.0.0/16\nlink bare 10.1.0.0/16\nport a l 10.2.0.1\n"
	wants(t, network(t, apart+"member none 225.0.0.1 but\nmember bare 225.0.0.1 but\n"))
	wants(t, network(t, apart+"member none 225.0.0.1 but\nmember l 225.0.0.2 but\nmember bare 225.0.0.3 but\n"), heard(0, 0, g2))
}

// P20.1: links without members have no part, be they ahead of one with members, between two or behind.
func TestWantsLinksBetween(t *testing.T) {
	wants(t, network(t, row4+"member bc 225.0.0.1 but\n"), heard(bBC, 0, g1))
	wants(t, network(t, row4+"member west 225.0.0.1 but\nmember east 225.0.0.1 but\n"), heard(aWest, 0, g1), heard(dEast, 0, g1))
}

// P20.1: at the seat's port, and at no other one of the link: by rank, of equal ranks by address, whichever stands first.
func TestWantsAtTheSeat(t *testing.T) {
	member := "member l 225.0.0.1 but\nmember l 225.0.0.2 only 10.0.0.9\n"
	ports := "link l 10.0.0.0/8\nport a l 10.0.0.5\nport b l 10.0.0.7\nport c l 10.0.0.6\n"
	wants(t, network(t, "router a 1\nrouter b 1\nrouter c 1\n"+ports+member), heard(1, 0, g1), heard(1, number("10.0.0.9"), g2))
	wants(t, network(t, "router a 2\nrouter b 1\nrouter c 1\n"+ports+member), heard(0, 0, g1), heard(0, number("10.0.0.9"), g2))
	wants(t, network(t, "router a 1\nrouter b 0\nrouter c 1\n"+ports+member), heard(2, 0, g1), heard(2, number("10.0.0.9"), g2))
}

// P20.1: link by link, rising, also where the seats' ports, the links' addresses and the members are in another order.
func TestWantsLinkByLink(t *testing.T) {
	x := network(t, `router a 1
router b 1
link z 10.9.0.0/16
link y 10.5.0.0/16
link x 10.1.0.0/16
port b x 10.1.0.1
port a y 10.5.0.1
port a z 10.9.0.1
port b y 10.5.0.2
member x 225.0.0.1 but
member y 225.0.0.3 only 10.1.0.9
member y 225.0.0.2 but
member z 225.0.0.2 but
`)
	wants(t, x, heard(2, 0, g2), heard(3, 0, g2), heard(3, number("10.1.0.9"), g3), heard(0, 0, g1))
}

// P20.1: of several groups on a link the lesser first, in whatever order their members stand, and each once.
func TestWantsGroupByGroup(t *testing.T) {
	x := network(t, row4+`member east 225.0.0.3 but
member east 225.0.0.1 only 99.0.0.2 99.0.0.1
member east 239.0.0.1 but 99.0.0.1
member east 225.0.0.2 but
member east 225.0.0.1 only 99.0.0.3 99.0.0.1
member east 225.0.0.3 only 99.0.0.1
member east 224.0.0.1 but
`)
	s := number("99.0.0.1")
	wants(t, x,
		heard(dEast, 0, firstGroup+1), heard(dEast, s, g1), heard(dEast, s+1, g1), heard(dEast, s+2, g1),
		heard(dEast, 0, g2), heard(dEast, 0, g3), heard(dEast, 0, number("239.0.0.1")))
}

// P20.1: several members of a group on a link are taken together: any source's key, where one of them is not Only, whatever it lists; else each source's that some list, rising, each once; none, where they list none.
func TestWantsTogether(t *testing.T) {
	s := number("99.0.0.1")
	open := []want.Heard{heard(aWest, 0, g1)}
	for _, one := range []struct {
		members []string
		wanted  []want.Heard
	}{
		{[]string{"only"}, nil},
		{[]string{"only", "only"}, nil},
		{[]string{"but"}, open},
		{[]string{"but", "but"}, open},
		{[]string{"but 99.0.0.1"}, open},
		{[]string{"but 99.0.0.1", "but 99.0.0.1 99.0.0.2"}, open},
		{[]string{"only 99.0.0.1"}, []want.Heard{heard(aWest, s, g1)}},
		{[]string{"only 99.0.0.1", "but"}, open},
		{[]string{"but", "only 99.0.0.1 99.0.0.2"}, open},
		{[]string{"only", "but"}, open},
		{[]string{"only 99.0.0.2 99.0.0.1"}, []want.Heard{heard(aWest, s, g1), heard(aWest, s+1, g1)}},
		{[]string{"only 99.0.0.3", "only", "only 99.0.0.1"}, []want.Heard{heard(aWest, s, g1), heard(aWest, s+2, g1)}},
		{[]string{"only 99.0.0.3 99.0.0.1", "only 99.0.0.1 99.0.0.2"}, []want.Heard{heard(aWest, s, g1), heard(aWest, s+1, g1), heard(aWest, s+2, g1)}},
	} {
		text := row4
		for _, m := range one.members {
			text += "member west 225.0.0.1 " + m + "\n"
		}
		wants(t, network(t, text), one.wanted...)
	}
}

// P20.1: members of a group on several links are not taken together: for each its own is joined.
func TestWantsEachLinksOwn(t *testing.T) {
	s := number("99.0.0.1")
	x := network(t, row4+"member west 225.0.0.1 only 99.0.0.1\nmember ab 225.0.0.1 but\nmember bc 225.0.0.1 only 99.0.0.2\nmember cd 225.0.0.1 only\n")
	wants(t, x, heard(aWest, s, g1), heard(bAB, 0, g1), heard(bBC, s+1, g1))
}

// P20.1: what members list is joined, be it a source's key, another one's, or a router's address.
func TestWantsWhoeverIsListed(t *testing.T) {
	x := network(t, row4+"source west 10.1.0.9 225.0.0.1\nmember west 225.0.0.2 only 10.1.0.9\nmember west 225.0.0.1 only 10.1.0.9 10.1.0.1 255.0.0.1\n")
	wants(t, x,
		heard(aWest, number("10.1.0.1"), g1), heard(aWest, number("10.1.0.9"), g1), heard(aWest, number("255.0.0.1"), g1),
		heard(aWest, number("10.1.0.9"), g2))
}

// P20.1: in networks of chance as the chapter's words, taken one by one, have it.
func TestWantsDrawn(t *testing.T) {
	r := rand.New(rand.NewSource(200))
	some := 0
	for range 600 {
		n := drawn(r)
		m := model{made(t, n), n}
		wanted := m.wants()
		some += len(wanted)
		wants(t, m.x, wanted...)
	}
	if some < 1000 {
		t.Errorf("too few wants: %d", some)
	}
}
