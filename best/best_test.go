package best_test

import (
	"math"
	"math/rand"
	"slices"
	"testing"

	"rivulet/api"
	"rivulet/best"
)

// rising are bids, each better than all ahead of it: costs below 0 and above all limits, addresses up to the last one.
var rising = []best.Bid{
	{Cost: math.MaxInt, Addr: 0},
	{Cost: math.MaxInt, Addr: 1},
	{Cost: math.MaxInt, Addr: math.MaxUint32},
	{Cost: math.MaxInt - 1, Addr: 0},
	{Cost: 1<<32 + 1, Addr: 3},
	{Cost: 1 << 32, Addr: 4},
	{Cost: math.MaxInt32, Addr: 5},
	{Cost: api.MaxCost + 1, Addr: 0},
	{Cost: api.MaxCost, Addr: 10<<24 + 1},
	{Cost: api.MaxCost, Addr: 10<<24 + 1<<16},
	{Cost: api.MaxCost, Addr: 200 << 24},
	{Cost: 10, Addr: 0},
	{Cost: 2, Addr: 1},
	{Cost: 1, Addr: 0},
	{Cost: 1, Addr: 9},
	{Cost: 1, Addr: 10},
	{Cost: 0, Addr: 0},
	{Cost: 0, Addr: 1},
	{Cost: 0, Addr: math.MaxInt32},
	{Cost: 0, Addr: 1 << 31},
	{Cost: 0, Addr: math.MaxUint32},
	{Cost: -1, Addr: 0},
	{Cost: -1, Addr: 1},
	{Cost: -2, Addr: 9},
	{Cost: math.MinInt32, Addr: 7},
	{Cost: math.MinInt + 1, Addr: math.MaxUint32},
	{Cost: math.MinInt, Addr: 0},
	{Cost: math.MinInt, Addr: math.MaxUint32},
}

// few are bids, each better than all ahead of it.
var few = []best.Bid{{Cost: 4, Addr: 1}, {Cost: 4, Addr: 2}, {Cost: 0, Addr: 3}, {Cost: 0, Addr: 9}, {Cost: -1, Addr: 8}}

// lists are all lists of up to so many of a few bids, alike ones too, in any order: each one's places in few.
func lists(most int) [][]int {
	all := [][]int{nil}
	for ahead := 0; ahead < len(all); ahead++ {
		if len(all[ahead]) == most {
			break
		}
		for place := range few {
			all = append(all, append(slices.Clone(all[ahead]), place))
		}
	}
	return all
}

// picked are the bids at some places in few.
func picked(places []int) []best.Bid {
	l := make([]best.Bid, len(places))
	for i, place := range places {
		l[i] = few[place]
	}
	return l
}

// chosen fails where the best of some bids is at another place, or where they are changed; -1 wanted is none.
func chosen(t *testing.T, want int, l ...best.Bid) {
	t.Helper()
	ahead := slices.Clone(l)
	if n, ok := best.Best(l...); n != max(want, 0) || ok != (want >= 0) {
		t.Errorf("Best(%v) = %d, %v, not %d", l, n, ok, want)
	}
	if !slices.Equal(l, ahead) {
		t.Errorf("Best made %v of %v", l, ahead)
	}
}

// P18.1: Better is by Cost, the less, of equal ones by Addr, the greater; of the same ones neither.
func TestBetter(t *testing.T) {
	for i, a := range rising {
		for j, b := range rising {
			if got := best.Better(a, b); got != (i > j) {
				t.Errorf("Better(%v, %v) = %v", a, b, got)
			}
		}
	}
}

// P18.1: of none there is none.
func TestBestOfNone(t *testing.T) {
	chosen(t, -1)
	chosen(t, -1, nil...)
	chosen(t, -1, []best.Bid{}...)
}

// P18.1: of one it is that one, whatever it is.
func TestBestOfOne(t *testing.T) {
	chosen(t, 0, best.Bid{})
	for _, b := range rising {
		chosen(t, 0, b)
	}
}

// P18.1: of any two the better one, of the same ones the first.
func TestBestOfTwo(t *testing.T) {
	for i, a := range rising {
		for j, b := range rising {
			want := 0
			if j > i {
				want = 1
			}
			chosen(t, want, a, b)
		}
	}
}

// P18.1: of up to five, in any order, several alike or not: the first than which none is better.
func TestBestInAnyOrder(t *testing.T) {
	for _, places := range lists(5) {
		want := -1
		for i, place := range places {
			if want < 0 || place > places[want] {
				want = i
			}
		}
		chosen(t, want, picked(places)...)
	}
}

// P18.1: of several alike that are the best the first, wherever they stand.
func TestBestAlike(t *testing.T) {
	good, bad := best.Bid{Cost: 3, Addr: 3}, best.Bid{Cost: 3, Addr: 2}
	chosen(t, 0, good, good, good)
	chosen(t, 1, bad, good, good, bad, good)
	chosen(t, 0, good, bad, good)
	chosen(t, 2, bad, bad, good, good)
	chosen(t, 0, slices.Repeat([]best.Bid{{}}, 100)...)
	chosen(t, 50, slices.Concat(slices.Repeat([]best.Bid{bad}, 50), slices.Repeat([]best.Bid{good}, 50))...)
}

// P18.1: of very many, the best of them anywhere.
func TestBestOfMany(t *testing.T) {
	r := rand.New(rand.NewSource(18))
	for range 50 {
		l := make([]best.Bid, 1+r.Intn(2000))
		for i := range l {
			l[i] = rising[r.Intn(len(rising)-1)]
		}
		n := r.Intn(len(l))
		l[n] = rising[len(rising)-1]
		chosen(t, n, l...)
		l[len(l)-1] = rising[len(rising)-1]
		chosen(t, n, l...)
	}
}

// P0.4: what lies behind the length of what is handed in is neither read nor written.
func TestBestBehindTheEnd(t *testing.T) {
	full := slices.Clone(few)
	for n := range len(full) + 1 {
		// Each one is better than all ahead of it: the last one within is the best.
		chosen(t, n-1, full[:n]...)
		if !slices.Equal(full, few) {
			t.Fatalf("%v became %v", few, full)
		}
	}
}

// P18.1: the best one is one that has not lost against the others, and each one that is worse has.
func TestBestIsNotLost(t *testing.T) {
	for _, places := range lists(4) {
		l := picked(places)
		n, ok := best.Best(l...)
		if !ok {
			continue
		}
		for i, own := range l {
			others := slices.Delete(slices.Clone(l), i, i+1)
			lost(t, own != l[n], own, true, others, nil)
			lost(t, own != l[n], own, false, others, nil)
		}
	}
}

// P18.1: the answers are the same again, whatever else was asked between.
func TestBestAgain(t *testing.T) {
	chosen(t, 1, few[0], few[2], few[1])
	chosen(t, 0, few[4])
	lost(t, true, few[0], false, nil, few[:1])
	chosen(t, -1)
	chosen(t, 1, few[0], few[2], few[1])
	lost(t, false, few[0], true, nil, few[:1])
}
