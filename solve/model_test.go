package solve_test

import (
	"slices"

	"rivulet/api"
	"rivulet/fwd"
	"rivulet/root"
	"rivulet/rpf"
	"rivulet/topo"
	"rivulet/want"
)

// model is a network, asked item by item, in the chapter's words: who has a row of what, not who heard it.
type model struct {
	x *topo.Topo
	n api.Config
}

// ahead tells whether a key is ahead of another one.
func ahead(k, l api.Key) bool {
	return k.Group < l.Group || k.Group == l.Group && k.Source < l.Source
}

// seat is the port that speaks for a link; -1: none.
func (m model) seat(link int) int {
	best := -1
	for i, p := range m.n.Ports {
		if p.Link != link {
			continue
		}
		if best < 0 {
			best = i
			continue
		}
		rank, most := m.n.Routers[p.Router].Rank, m.n.Routers[m.n.Ports[best].Router].Rank
		if rank > most || rank == most && p.Addr > m.n.Ports[best].Addr {
			best = i
		}
	}
	return best
}

// seats are the ports that speak for all links.
func (m model) seats() (l []int) {
	for link := range m.n.Links {
		l = append(l, m.seat(link))
	}
	return l
}

// wanted tells whether a key is to be joined for a link's members: any source's, if one of the group is not Only, else those that one lists.
func (m model) wanted(link int, k api.Key) bool {
	open, listed := false, false
	for _, one := range m.n.Members {
		if one.Link == link && one.Group == k.Group {
			open = open || !one.Only
			listed = listed || one.Only && slices.Contains(one.Sources, k.Source)
		}
	}
	return open && k.Source == 0 || !open && k.Source != 0 && listed
}

// named are all keys that something in the network may be asked for by, in their order, each once.
func (m model) named() (l []api.Key) {
	for _, s := range m.n.Sources {
		l = append(l, s.Key, key(0, s.Key.Group))
	}
	for _, one := range m.n.Members {
		l = append(l, key(0, one.Group))
		for _, s := range one.Sources {
			l = append(l, key(s, one.Group))
		}
	}
	slices.SortFunc(l, func(k, o api.Key) int {
		switch {
		case ahead(k, o):
			return -1
		case ahead(o, k):
			return 1
		}
		return 0
	})
	return slices.Compact(l)
}

// wants are what is wanted at the seats' ports.
func (m model) wants() (l []want.Heard) {
	for link := range m.n.Links {
		for _, k := range m.named() {
			if port := m.seat(link); port >= 0 && m.wanted(link, k) {
				l = append(l, want.Heard{Port: port, Key: k})
			}
		}
	}
	return l
}

// holder is who may have a row of what.
type holder struct {
	router int
	key    api.Key
}

// steps are a row's In and Up of each router and key.
func (m model) steps() map[holder][2]int {
	l := map[holder][2]int{}
	for router := range m.n.Routers {
		for _, k := range m.named() {
			l[holder{router, k}] = [2]int{-1, -1}
			if h, ok := rpf.Key(m.x, router, k); ok {
				l[holder{router, k}] = [2]int{h.In, h.Up}
			}
		}
	}
	return l
}

// hears tells whether a key is heard at a port: wanted there by members for which it speaks, or by a router that has a row of it and asks that port.
func (m model) hears(port int, k api.Key, has map[holder]bool, steps map[holder][2]int) bool {
	if link := m.n.Ports[port].Link; m.seat(link) == port && m.wanted(link, k) {
		return true
	}
	for router := range m.n.Routers {
		if has[holder{router, k}] && steps[holder{router, k}][1] == port {
			return true
		}
	}
	return false
}

// needs tells whether a router has a row of a key, by what it hears.
func (m model) needs(router int, k api.Key, has map[holder]bool, steps map[holder][2]int) bool {
	asks := k.Source != 0 && root.Is(m.x, router, k.Group) && slices.ContainsFunc(m.n.Sources, func(s api.Source) bool { return s.Key == k })
	for port, p := range m.n.Ports {
		if p.Router == router && (m.hears(port, k, has, steps) || asks && m.hears(port, key(0, k.Group), has, steps)) {
			return true
		}
	}
	return false
}

// rows are all routers' rows: one more has one, till nobody needs one who has none.
func (m model) rows() (l []want.Row) {
	has, steps, named := map[holder]bool{}, m.steps(), m.named()
	for more := true; more; {
		more = false
		for router := range m.n.Routers {
			for _, k := range named {
				if !has[holder{router, k}] && m.needs(router, k, has, steps) {
					has[holder{router, k}], more = true, true
				}
			}
		}
	}
	for router := range m.n.Routers {
		for _, k := range named {
			if has[holder{router, k}] {
				l = append(l, m.row(router, k, has, steps))
			}
		}
	}
	return l
}

// row is a router's row of a key.
func (m model) row(router int, k api.Key, has map[holder]bool, steps map[holder][2]int) want.Row {
	step := steps[holder{router, k}]
	r := want.Row{Router: router, In: step[0], Up: step[1], Key: k}
	for port, p := range m.n.Ports {
		if p.Router == router && port != step[0] && (m.hears(port, k, has, steps) || m.hears(port, key(0, k.Group), has, steps)) {
			r.Out = append(r.Out, port)
		}
	}
	return r
}

// first is a router's first row of a key.
func first(l []want.Row, router int, k api.Key) (want.Row, bool) {
	for _, r := range l {
		if r.Router == router && r.Key == k {
			return r, true
		}
	}
	return want.Row{}, false
}

// bid is what a port's router bids there by its first row of a key: how dear, and whether it does.
func (m model) bid(l []want.Row, port int, k api.Key) (int, bool) {
	router := m.n.Ports[port].Router
	r, ok := first(l, router, k)
	if !ok || !slices.Contains(r.Out, port) {
		return 0, false
	}
	h, ok := rpf.Key(m.x, router, k)
	if !ok {
		return 0, true
	}
	return h.Cost, true
}

// loses tells whether a port is left to another one for a source's key.
func (m model) loses(l []want.Row, port int, k api.Key) bool {
	own := m.n.Ports[port]
	by, ok := first(l, own.Router, k)
	if !ok {
		by, ok = first(l, own.Router, key(0, k.Group))
	}
	if !ok || !slices.Contains(by.Out, port) {
		return false
	}
	dear, _ := m.bid(l, port, by.Key)
	for i, p := range m.n.Ports {
		if p.Link != own.Link || p.Router == own.Router {
			continue
		}
		if _, exact := m.bid(l, i, k); exact && by.Key != k {
			return true
		}
		if cost, ok := m.bid(l, i, by.Key); ok && (cost < dear || cost == dear && p.Addr > own.Addr) {
			return true
		}
	}
	return false
}

// lost are the ports that are left to others, and the keys of which.
func (m model) lost(l []want.Row) (ls []fwd.Lost) {
	for port := range m.n.Ports {
		for _, k := range m.named() {
			sent := slices.ContainsFunc(m.n.Sources, func(s api.Source) bool { return s.Key == k })
			if sent && m.loses(l, port, k) {
				ls = append(ls, fwd.Lost{Port: port, Key: k})
			}
		}
	}
	return ls
}
