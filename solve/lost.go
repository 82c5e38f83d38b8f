package solve

import (
	"slices"

	"rivulet/api"
	"rivulet/best"
	"rivulet/fwd"
	"rivulet/keys"
	"rivulet/rpf"
	"rivulet/topo"
	"rivulet/want"
)

// bids are what routers offer: at which of their ports, by the row of which key.
type bids map[fwd.Lost]best.Bid

// Lost are the ports at which routers with such rows leave a source's packets to another one, port by port, and at each by the sources' keys.
func Lost(t *topo.Topo, rows []want.Row) []fwd.Lost {
	offered := bidsOf(t, rows)
	sent := keys.Sent(t)
	var l []fwd.Lost
	for port, p := range t.Config().Ports {
		others := t.Others(port)
		for _, k := range sent {
			r, ok := fwd.Row(p.Router, rows, k)
			if !ok || !slices.Contains(r.Out, port) {
				continue
			}
			own := offered[fwd.Lost{Port: port, Key: r.Key}]
			if best.Lost(own, r.Key == k, offered.at(others, r.Key), offered.at(others, k)) {
				l = append(l, fwd.Lost{Port: port, Key: k})
			}
		}
	}
	return l
}

// bidsOf are what all routers offer by rows of keys by which sources' packets go.
func bidsOf(t *topo.Topo, rows []want.Row) bids {
	ports := t.Config().Ports
	offered := make(bids)
	for _, k := range forwarding(t) {
		for port, p := range ports {
			r, ok := want.Find(rows, p.Router, k)
			if ok && slices.Contains(r.Out, port) {
				offered[fwd.Lost{Port: port, Key: k}] = best.Bid{Cost: costOf(t, p.Router, k), Addr: p.Addr}
			}
		}
	}
	return offered
}

// forwarding are the keys by whose rows sources' packets may go: each source's own, and that of any source to its group.
func forwarding(t *topo.Topo) []api.Key {
	var l []api.Key
	for _, k := range keys.Sent(t) {
		l = append(l, k, api.Key{Group: k.Group})
	}
	return keys.Sort(l...)
}

// costOf is how dear a router's way is towards a key's source or root; 0, if it has none.
func costOf(t *topo.Topo, router int, k api.Key) int {
	h, ok := rpf.Key(t, router, k)
	if !ok {
		return 0
	}
	return h.Cost
}

// at are the bids at some ports by rows of a key.
func (b bids) at(ports []int, k api.Key) []best.Bid {
	var l []best.Bid
	for _, port := range ports {
		if bid, ok := b[fwd.Lost{Port: port, Key: k}]; ok {
			l = append(l, bid)
		}
	}
	return l
}
