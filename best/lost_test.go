package best_test

import (
	"math"
	"slices"
	"testing"

	"rivulet/api"
	"rivulet/best"
)

// lost fails where a bid has lost, or has not, otherwise than wanted, or where a list is changed.
func lost(t *testing.T, want bool, own best.Bid, exact bool, same, other []best.Bid) {
	t.Helper()
	sames, others := slices.Clone(same), slices.Clone(other)
	if got := best.Lost(own, exact, same, other); got != want {
		t.Errorf("Lost(%v, %v, %v, %v) = %v", own, exact, same, other, got)
	}
	if !slices.Equal(same, sames) || !slices.Equal(other, others) {
		t.Errorf("Lost made %v of %v, %v of %v", same, sames, other, others)
	}
}

// 'Examples': nobody else bids: not lost, whatever the own bid is; nil and the empty list are the same (P0.4).
func TestLostToNobody(t *testing.T) {
	for _, own := range append(slices.Clone(rising), best.Bid{}) {
		for _, exact := range []bool{true, false} {
			lost(t, false, own, exact, nil, nil)
			lost(t, false, own, exact, []best.Bid{}, nil)
			lost(t, false, own, exact, nil, []best.Bid{})
			lost(t, false, own, exact, []best.Bid{}, []best.Bid{})
		}
	}
}

// P18.1: against one of the same sort, exact or not: lost where that one is better, by cost or by address, and not where it is just as good.
func TestLostToOneOfTheSame(t *testing.T) {
	for i, own := range rising {
		for j, b := range rising {
			lost(t, j > i, own, true, []best.Bid{b}, nil)
			lost(t, j > i, own, false, []best.Bid{b}, nil)
		}
	}
}

// P18.1: exact: those by rows of the source are its own sort already; what stands in other counts for nothing, be it better or not.
func TestLostExactBesideOthers(t *testing.T) {
	for i, own := range rising {
		lost(t, false, own, true, nil, rising)
		for j, b := range rising {
			lost(t, false, own, true, nil, []best.Bid{b})
			lost(t, j > i, own, true, []best.Bid{b}, rising)
			lost(t, i < len(rising)-1, own, true, rising, []best.Bid{b})
		}
	}
}

// P18.1: not exact: one by a row of the source is enough, be it better or worse or just as good, be there one of the same or not.
func TestLostToOthers(t *testing.T) {
	for _, own := range rising {
		lost(t, true, own, false, nil, rising)
		lost(t, true, own, false, nil, []best.Bid{{}})
		for _, b := range rising {
			lost(t, true, own, false, nil, []best.Bid{b})
			lost(t, true, own, false, []best.Bid{b}, []best.Bid{own})
			lost(t, true, own, false, []best.Bid{own}, []best.Bid{b})
		}
	}
}

// P18.1: of several of the same one better one is enough, wherever it stands, and none better is none.
func TestLostToOneOfSeveral(t *testing.T) {
	own := best.Bid{Cost: 5, Addr: 7}
	worse := []best.Bid{{Cost: 5, Addr: 6}, {Cost: 6, Addr: 9}, {Cost: 5, Addr: 7}, {Cost: api.MaxCost, Addr: math.MaxUint32}, {Cost: 5, Addr: 0}}
	for _, exact := range []bool{true, false} {
		lost(t, false, own, exact, worse, nil)
		for _, better := range []best.Bid{{Cost: 5, Addr: 8}, {Cost: 4, Addr: 0}, {Cost: 0, Addr: 7}, {Cost: -1, Addr: 1}} {
			for i := range len(worse) + 1 {
				lost(t, true, own, exact, slices.Insert(slices.Clone(worse), i, better), nil)
			}
		}
	}
}

// P18.1: any few of the same, any few others, in any order: as asked one by one.
func TestLostInAnyOrder(t *testing.T) {
	for place, own := range few {
		for _, sames := range lists(3) {
			better := slices.ContainsFunc(sames, func(p int) bool { return p > place })
			for _, others := range lists(2) {
				lost(t, better, own, true, picked(sames), picked(others))
				lost(t, better || len(others) > 0, own, false, picked(sames), picked(others))
			}
		}
	}
}

// P18.1: of very many of the same just one is better, the last one.
func TestLostToOneOfMany(t *testing.T) {
	own, better := best.Bid{Cost: 1, Addr: 1}, best.Bid{Cost: 1, Addr: 2}
	l := slices.Repeat([]best.Bid{own}, 10000)
	for _, exact := range []bool{true, false} {
		lost(t, false, own, exact, l, nil)
		lost(t, true, own, exact, append(slices.Clone(l), better), nil)
	}
}

// P0.4: what lies behind the lengths of what is handed in is neither read nor written, in one memory or in two.
func TestLostBehindTheEnd(t *testing.T) {
	full := slices.Clone(few)
	for place, own := range few {
		for n := range len(full) + 1 {
			lost(t, n-1 > place, own, true, full[:n], full[n:n])
			lost(t, n-1 > place, own, false, full[:n], full[n:n])
			lost(t, n-1 > place, own, true, full[:n], full[:n])
			lost(t, false, own, true, full[:0], full[:n])
			lost(t, n > 0, own, false, full[:0], full[:n])
			if !slices.Equal(full, few) {
				t.Fatalf("%v became %v", few, full)
			}
		}
	}
}

// P18.1: any own bid against any two, one of the same and one other, each there or not.
func FuzzLost(f *testing.F) {
	f.Add(5, uint32(1), 4, uint32(1), true, 9, uint32(9), true)
	f.Add(5, uint32(1), 5, uint32(2), true, 9, uint32(9), false)
	f.Add(5, uint32(1), 5, uint32(1), true, 0, uint32(0), false)
	f.Add(math.MinInt, uint32(0), math.MaxInt, uint32(math.MaxUint32), true, 0, uint32(0), true)
	f.Add(math.MaxInt, uint32(1<<31), math.MinInt, uint32(1), false, 0, uint32(0), true)
	f.Fuzz(func(t *testing.T, cost int, addr uint32, cost1 int, addr1 uint32, there1 bool, cost2 int, addr2 uint32, there2 bool) {
		own := best.Bid{Cost: cost, Addr: api.Addr(addr)}
		var same, other []best.Bid
		if there1 {
			same = []best.Bid{{Cost: cost1, Addr: api.Addr(addr1)}}
		}
		if there2 {
			other = []best.Bid{{Cost: cost2, Addr: api.Addr(addr2)}}
		}
		better := there1 && (cost1 < cost || cost1 == cost && addr1 > addr)
		lost(t, better, own, true, same, other)
		lost(t, better || there2, own, false, same, other)
	})
}
