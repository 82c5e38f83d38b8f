package trie_test

import (
	"encoding/binary"
	"fmt"
	"math"
	"math/rand"
	"slices"
	"strings"
	"testing"

	"rivulet/api"
	"rivulet/trie"
)

const last = api.Addr(math.MaxUint32)

// digits are an address's 32 bits, written out.
func digits(a api.Addr) string { return fmt.Sprintf("%032b", uint32(a)) }

// address is the address that such digits write; those that lack at the end are all the digit behind.
func address(s, behind string) (a api.Addr) {
	for _, digit := range s + strings.Repeat(behind, 32-len(s)) {
		a = 2*a + api.Addr(digit-'0')
	}
	return a
}

// prefix is the prefix of those digits.
func prefix(s string) api.Prefix { return api.Prefix{Addr: address(s, "0"), Bits: len(s)} }

// of is the prefix of that many bits in which an address is.
func of(a api.Addr, bits int) api.Prefix { return prefix(digits(a)[:bits]) }

// valid tells whether the bits are 0 to 32, and there is no one behind them.
func valid(p api.Prefix) bool {
	return p.Bits >= 0 && p.Bits <= 32 && !strings.Contains(digits(p.Addr)[p.Bits:], "1")
}

// within tells whether an address begins with a valid prefix's digits.
func within(p api.Prefix, a api.Addr) bool {
	return strings.HasPrefix(digits(a), digits(p.Addr)[:p.Bits])
}

// put is a number that is put at a prefix.
type put struct {
	p api.Prefix
	n int
}

// model is what was put, one behind the other: what stands is found by going through all of it.
type model []put

// get is what stands at a prefix.
func (m model) get(p api.Prefix) (list []int) {
	for _, x := range m {
		if x.p == p && valid(p) {
			list = append(list, x.n)
		}
	}
	return list
}

// look is the prefix with the most bits in which an address is.
func (m model) look(a api.Addr) (best api.Prefix, list []int) {
	for _, x := range m {
		if valid(x.p) && within(x.p, a) && (list == nil || x.p.Bits > best.Bits) {
			best, list = x.p, m.get(x.p)
		}
	}
	return best, list
}

// all are the valid prefixes, each once, in the order of the texts of their digits and bits.
func (m model) all() (list []api.Prefix) {
	texts := map[string]api.Prefix{}
	for _, x := range m {
		if valid(x.p) {
			texts[fmt.Sprintf("%s %02d", digits(x.p.Addr), x.p.Bits)] = x.p
		}
	}
	keys := []string{}
	for s := range texts {
		keys = append(keys, s)
	}
	slices.Sort(keys)
	for _, s := range keys {
		list = append(list, texts[s])
	}
	return list
}

// built puts all that the model has, and fails where Put tells another thing than whether the prefix is valid.
func built(t *testing.T, m model) *trie.Trie {
	t.Helper()
	x := new(trie.Trie)
	for _, y := range m {
		if got := x.Put(y.p, y.n); got != valid(y.p) {
			t.Errorf("Put(%v, %d) = %v", y.p, y.n, got)
		}
	}
	return x
}

// gets fails where something else stands at a prefix.
func gets(t *testing.T, x *trie.Trie, p api.Prefix, want ...int) {
	t.Helper()
	if list, ok := x.Get(p); !slices.Equal(list, want) || ok != (len(want) > 0) {
		t.Errorf("Get(%v) = %v, %v, not %v", p, list, ok, want)
	}
}

// looks fails where another prefix is found for an address, or something else at it; nothing wanted is none found.
func looks(t *testing.T, x *trie.Trie, a api.Addr, p api.Prefix, want ...int) {
	t.Helper()
	if q, list, ok := x.Look(a); q != p || !slices.Equal(list, want) || ok != (len(want) > 0) {
		t.Errorf("Look(%d) = %v, %v, %v, not %v, %v", a, q, list, ok, p, want)
	}
}

// lists fails where there are other prefixes, or they come in another order.
func lists(t *testing.T, x *trie.Trie, want ...api.Prefix) {
	t.Helper()
	if all, n := x.All(), x.Len(); !slices.Equal(all, want) || n != len(want) {
		t.Errorf("All() = %v, Len() = %d, not %v", all, n, want)
	}
}

// ends are the first and the last address of a prefix, with those on both sides of each.
func ends(p api.Prefix) []api.Addr {
	s := digits(p.Addr)[:p.Bits]
	first, final := address(s, "0"), address(s, "1")
	return []api.Addr{first - 1, first, first + 1, final - 1, final, final + 1}
}

// holds fails where a call answers otherwise than the model: it is asked at and around each prefix, and of the addresses beside.
func holds(t *testing.T, x *trie.Trie, m model, beside ...api.Addr) {
	t.Helper()
	all := m.all()
	lists(t, x, all...)
	asked := append(slices.Clone(beside), 0, last, 1<<31, 1<<31-1)
	for _, p := range all {
		asked = append(asked, ends(p)...)
		gets(t, x, p, m.get(p)...)
		for _, bits := range []int{p.Bits - 1, p.Bits + 1} {
			q := api.Prefix{Addr: p.Addr, Bits: bits}
			gets(t, x, q, m.get(q)...)
		}
	}
	for _, y := range m {
		gets(t, x, y.p, m.get(y.p)...)
	}
	for _, a := range asked {
		p, list := m.look(a)
		looks(t, x, a, p, list...)
		for bits := range 33 {
			gets(t, x, of(a, bits), m.get(of(a, bits))...)
		}
	}
}

// patterns are addresses whose bits differ in each place.
func patterns() []api.Addr {
	return []api.Addr{0, last, 0xAAAAAAAA, 0x55555555, 10<<24 + 1<<16 + 2<<8 + 3}
}

// noPrefixes are prefixes that are not valid: bits below 0 and above 32, or a one in each place behind them.
func noPrefixes() (all []api.Prefix) {
	for _, bits := range []int{-1, -2, -8, -31, -32, -33, -64, math.MinInt, math.MinInt32, 33, 34, 40, 63, 64, 65, 96, 256, 256 + 8, 1 << 16, 1<<32 + 8, math.MaxInt32, math.MaxInt} {
		for _, a := range []api.Addr{0, 1, 1 << 31, 10 << 24, last} {
			all = append(all, api.Prefix{Addr: a, Bits: bits})
		}
	}
	for bits := range 32 {
		for place := range 32 - bits {
			for _, a := range []api.Addr{0, 10 << 24, last} {
				all = append(all, api.Prefix{Addr: of(a, bits).Addr + 1<<place, Bits: bits})
			}
		}
		all = append(all, api.Prefix{Addr: last, Bits: bits})
	}
	return all
}

// P7.1: an empty one has nothing at any prefix, and for any address; the zero value is one.
func TestEmpty(t *testing.T) {
	var x trie.Trie
	holder := struct{ x trie.Trie }{}
	for _, x := range []*trie.Trie{&x, new(trie.Trie), {}, &holder.x} {
		holds(t, x, nil, patterns()...)
		for _, p := range noPrefixes() {
			gets(t, x, p)
		}
		if !x.Put(prefix("1"), 3) {
			t.Error("Put at 1")
		}
		holds(t, x, model{{prefix("1"), 3}}, patterns()...)
	}
}

// P7.1: one alone, of each number of bits.
func TestEachBits(t *testing.T) {
	for bits := range 33 {
		for _, a := range patterns() {
			p := of(a, bits)
			m := model{{p, bits - 16}}
			x := built(t, m)
			lists(t, x, p)
			gets(t, x, p, bits-16)
			looks(t, x, a, p, bits-16)
			holds(t, x, m, patterns()...)
		}
	}
}

// P7.1: what is put at a prefix that is not valid is not taken, and changes nothing; nothing stands there.
func TestNotValid(t *testing.T) {
	for _, m := range []model{
		nil,
		{{prefix(""), 1}},
		{{prefix(""), 1}, {prefix("00001010"), 2}, {prefix("00001010"), 3}, {prefix(digits(last)), 4}},
		{{of(0, 32), 5}, {of(last, 31), 6}, {of(1<<31, 1), 7}},
	} {
		x := built(t, m)
		for _, p := range noPrefixes() {
			if x.Put(p, 77) {
				t.Errorf("Put(%v) is taken", p)
			}
			gets(t, x, p)
			lists(t, x, m.all()...)
			wanted, list := m.look(p.Addr)
			looks(t, x, p.Addr, wanted, list...)
		}
		holds(t, x, m, patterns()...)
	}
}

// P7.1: a number is put behind those that stand at the prefix, the same one again, too.
func TestNumbers(t *testing.T) {
	numbers := []int{5, 3, 5, 5, 0, -1, 3, math.MaxInt, math.MinInt, 0, 1 << 32, 4}
	for _, p := range []api.Prefix{prefix(""), prefix("1"), of(10<<24, 8), of(last, 32), of(0, 32)} {
		x := new(trie.Trie)
		for i, n := range numbers {
			if !x.Put(p, n) {
				t.Errorf("Put(%v, %d)", p, n)
			}
			gets(t, x, p, numbers[:i+1]...)
			looks(t, x, p.Addr, p, numbers[:i+1]...)
			lists(t, x, p)
		}
	}
}

// P7.1: many numbers at two prefixes, in turns, keep their order.
func TestManyNumbers(t *testing.T) {
	x := new(trie.Trie)
	var rising, falling []int
	for n := range 5000 {
		rising, falling = append(rising, n), append(falling, -n)
		x.Put(prefix("01"), n)
		x.Put(prefix("011"), -n)
	}
	gets(t, x, prefix("01"), rising...)
	gets(t, x, prefix("011"), falling...)
	lists(t, x, prefix("01"), prefix("011"))
}

// P7.1: nothing stands at prefixes within, around and beside those at which something was put.
func TestGetOfOthers(t *testing.T) {
	x := built(t, model{{prefix("00001010"), 1}, {prefix("0000101000000001"), 2}})
	gets(t, x, prefix("00001010"), 1)
	gets(t, x, prefix("0000101000000001"), 2)
	for _, s := range []string{
		"", "0", "0000101", "00001011", "000010100", "000010101", "000010100000000", "0000101000000000",
		"00001010000000010", "00001010000000011", "1", "10001010", digits(10 << 24), digits(10<<24 + 1<<16),
	} {
		gets(t, x, prefix(s))
	}
}

// nested are 33 numbers, each at the prefix of so many bits around the address.
func nested(a api.Addr) (m model) {
	for bits := range 33 {
		m = append(m, put{of(a, bits), 100 + bits})
	}
	return m
}

// P7.1: of prefixes within one another the innermost is found, in whichever order they were put.
func TestInnermost(t *testing.T) {
	for _, a := range patterns() {
		m := nested(a)
		orders := []model{m, slices.Clone(m), nil}
		slices.Reverse(orders[1])
		for i := range m {
			orders[2] = append(orders[2], m[i*14%33])
		}
		for _, m := range orders {
			x := built(t, m)
			looks(t, x, a, of(a, 32), 132)
			for bits := range 32 {
				// The first bit that is another one is behind so many that are the same.
				looks(t, x, a^1<<(31-bits), of(a, bits), 100+bits)
				looks(t, x, a^(last>>bits), of(a, bits), 100+bits)
			}
			holds(t, x, m)
		}
	}
}

// P7.1: with some lengths left out, the next shorter one that is there is found, or none.
func TestInnermostWithGaps(t *testing.T) {
	for _, a := range patterns() {
		for _, lengths := range [][]int{{32}, {31}, {0}, {1}, {0, 32}, {8, 24}, {0, 8, 9, 31}, {3, 17, 30}, {1, 2, 4, 8, 16, 32}} {
			var m model
			for _, bits := range lengths {
				m = append(m, put{of(a, bits), bits}, put{of(a, bits), -bits})
			}
			x := built(t, m)
			for same := range 33 {
				asked, p, want := a, api.Prefix{}, []int(nil)
				if same < 32 {
					asked ^= 1 << (31 - same)
				}
				for _, bits := range lengths {
					if bits <= same {
						p, want = of(a, bits), []int{bits, -bits}
					}
				}
				looks(t, x, asked, p, want...)
			}
		}
	}
}

// P7.1: the first and the last address of a prefix, and those just outside.
func TestLookEnds(t *testing.T) {
	x := built(t, model{{prefix("00001010"), 1}, {prefix("0000101000000001"), 2}, {of(10<<24+5, 32), 3}, {of(200<<24, 31), 4}})
	ten, inner, none := prefix("00001010"), prefix("0000101000000001"), api.Prefix{}
	looks(t, x, 10<<24-1, none)
	looks(t, x, 10<<24, ten, 1)
	looks(t, x, 10<<24+4, ten, 1)
	looks(t, x, 10<<24+5, of(10<<24+5, 32), 3)
	looks(t, x, 10<<24+6, ten, 1)
	looks(t, x, 10<<24+1<<16-1, ten, 1)
	looks(t, x, 10<<24+1<<16, inner, 2)
	looks(t, x, 10<<24+2<<16-1, inner, 2)
	looks(t, x, 10<<24+2<<16, ten, 1)
	looks(t, x, 11<<24-1, ten, 1)
	looks(t, x, 11<<24, none)
	looks(t, x, 200<<24-1, none)
	looks(t, x, 200<<24, of(200<<24, 31), 4)
	looks(t, x, 200<<24+1, of(200<<24, 31), 4)
	looks(t, x, 200<<24+2, none)
	for _, a := range []api.Addr{0, last, 1 << 31, 9 << 24, 138 << 24} {
		looks(t, x, a, none)
	}
	// With 0 bits there, no address is in none.
	x.Put(prefix(""), 9)
	for _, a := range []api.Addr{0, last, 1 << 31, 10<<24 - 1, 11 << 24, 200<<24 - 1, 200<<24 + 2} {
		looks(t, x, a, none, 9)
	}
	looks(t, x, 10<<24, ten, 1)
}

// P7.1: the prefixes come by Addr, then Bits, each once, in whichever order they were put, and however often they are asked for.
func TestAllInOrder(t *testing.T) {
	want := []api.Prefix{
		prefix(""), prefix("0"), prefix("00000000"), of(0, 32), of(1, 32), of(2, 31), prefix("00001010"), prefix("000010100"), of(10<<24, 32),
		prefix("000010101"), of(1<<31-1, 32), prefix("1"), prefix("10"), of(1<<31, 32), prefix("11"), of(last, 31), of(last, 32),
	}
	drawn := rand.New(rand.NewSource(7))
	for range 100 {
		x := new(trie.Trie)
		for i, place := range drawn.Perm(3 * len(want)) {
			x.Put(want[place%len(want)], i)
		}
		lists(t, x, want...)
		lists(t, x, want...)
	}
}

// P7.1: Len counts the prefixes, not the numbers, and not what was not taken; many prefixes are all kept.
func TestLen(t *testing.T) {
	x := new(trie.Trie)
	var all []api.Prefix
	for i := range 4096 {
		all = append(all, api.Prefix{Addr: api.Addr(i) << 20, Bits: 12})
	}
	for round := range 3 {
		for i := range all {
			// 1365 is odd, so each comes once, the order mixed.
			p := all[i*1365%4096]
			if x.Put(p, i); round == 0 && x.Len() != i+1 || round > 0 && x.Len() != len(all) {
				t.Fatalf("round %d: Len() = %d behind %d", round, x.Len(), i)
			}
			x.Put(api.Prefix{Addr: p.Addr + 1, Bits: 12}, i)
		}
	}
	lists(t, x, all...)
	for i := range all {
		p := all[i*1365%4096]
		gets(t, x, p, i, i, i)
		looks(t, x, p.Addr+1, p, i, i, i)
	}
}

// P7.1: each set of prefixes of few bits, at the head and at the end of an address.
func TestEachSmallSet(t *testing.T) {
	short := []string{"", "0", "1", "00", "01", "10", "11"}
	for _, ahead := range []string{"", digits(0)[:30], digits(last)[:30], digits(0xAAAAAAAA)[:30]} {
		for set := range 1 << len(short) {
			var m model
			for i, s := range short {
				if set>>i&1 == 1 {
					m = append(m, put{prefix(ahead + s), i})
				}
			}
			holds(t, built(t, m), m, 0, 1<<30, 2<<30, 3<<30)
		}
	}
}

// drawnPrefix is a prefix, mostly a valid one, that is near others.
func drawnPrefix(r *rand.Rand) api.Prefix {
	a := api.Addr(r.Uint32())
	switch r.Intn(3) {
	case 0:
		a &= 0xF0000000
	case 1:
		a = 10<<24 + a&0x0000000F
	}
	if r.Intn(20) == 0 {
		return api.Prefix{Addr: a, Bits: r.Intn(40) - 4}
	}
	return of(a, r.Intn(33))
}

// P7.1: as found by going through all prefixes, one by one, behind each of a few and behind many.
func TestAgainstOneByOne(t *testing.T) {
	r := rand.New(rand.NewSource(77))
	for range 30 {
		x, m := new(trie.Trie), model{}
		for i := range 12 {
			y := put{drawnPrefix(r), i}
			if got := x.Put(y.p, y.n); got != valid(y.p) {
				t.Errorf("Put(%v, %d) = %v", y.p, y.n, got)
			}
			m = append(m, y)
			holds(t, x, m, api.Addr(r.Uint32()))
		}
	}
	for range 2 {
		var m model
		for i := range 400 {
			m = append(m, put{drawnPrefix(r), i % 50})
		}
		x := built(t, m)
		lists(t, x, m.all()...)
		for range 1500 {
			p := drawnPrefix(r)
			gets(t, x, p, m.get(p)...)
			q, list := m.look(p.Addr)
			looks(t, x, p.Addr, q, list...)
		}
	}
}

// spoil writes into a list, its spare room too, and behind it.
func spoil[T any](list []T, with T) {
	full := list[:cap(list)]
	for i := range full {
		full[i] = with
	}
	_ = append(list, with, with)
}

// P0.4: what is written into an answer no other answer shows, nor what is kept.
func TestAnswersNotShared(t *testing.T) {
	for numbers := 1; numbers < 20; numbers++ {
		p, m := prefix("0101"), model{}
		for n := range numbers {
			m = append(m, put{p, n}, put{prefix("01010"), n}, put{of(api.Addr(n), 32), n})
		}
		x := built(t, m)
		want := m.get(p)
		first, _ := x.Get(p)
		second, _ := x.Get(p)
		_, third, _ := x.Look(address("0101", "1"))
		_, fourth, _ := x.Look(address("0101", "1"))
		all, again := x.All(), x.All()
		answers := [][]int{first, second, third, fourth}
		for i, list := range answers {
			spoil(list, 77)
			for _, other := range answers[i+1:] {
				if !slices.Equal(other, want) {
					t.Errorf("another answer shows %v", other)
				}
			}
			gets(t, x, p, want...)
			looks(t, x, address("0101", "1"), p, want...)
		}
		spoil(all, of(77, 32))
		if !slices.Equal(again, m.all()) {
			t.Errorf("another answer shows %v", again)
		}
		holds(t, x, m)
		// What is put behind all this stands behind what stood.
		x.Put(p, 5)
		gets(t, x, p, append(want, 5)...)
	}
}

// P0.4: what is put later changes no answer that was given before, neither in it nor in its spare room.
func TestAnswersNotChanged(t *testing.T) {
	type answer struct{ list, room, was []int }
	x, p := new(trie.Trie), prefix("0101")
	var answers []answer
	var alls [][]api.Prefix
	for n := range 40 {
		x.Put(p, n)
		x.Put(of(api.Addr(n)<<27, 5), n)
		got, _ := x.Get(p)
		_, found, _ := x.Look(p.Addr + 1<<27)
		for _, list := range [][]int{got, found} {
			room := list[:cap(list)]
			answers = append(answers, answer{list, room, slices.Clone(room)})
		}
		alls = append(alls, x.All())
	}
	for i, y := range answers {
		if !slices.Equal(y.room, y.was) {
			t.Errorf("answer %d became %v, with %v in its room", i, y.list, y.room)
		}
	}
	for n, all := range alls {
		var m model
		for i := range n + 1 {
			m = append(m, put{p, i}, put{of(api.Addr(i)<<27, 5), i})
		}
		if !slices.Equal(all, m.all()) {
			t.Errorf("the prefixes behind %d became %v", n, all)
		}
	}
}

// P0.5: what one is given no other one shows.
func TestOthersApart(t *testing.T) {
	one, other := model{{prefix("01"), 1}, {prefix("0"), 2}}, model{{prefix("01"), 3}, {prefix("1"), 4}}
	x, y := new(trie.Trie), new(trie.Trie)
	for i := range one {
		x.Put(one[i].p, one[i].n)
		y.Put(other[i].p, other[i].n)
	}
	holds(t, x, one)
	holds(t, y, other)
	holds(t, new(trie.Trie), nil)
}

// P7.1: asking changes nothing.
func TestAskingChangesNothing(t *testing.T) {
	m := nested(10 << 24)
	x := built(t, m)
	holds(t, x, m, patterns()...)
	holds(t, x, m, patterns()...)
	if !x.Put(prefix("1"), 1) {
		t.Error("Put at 1")
	}
	holds(t, x, append(m, put{prefix("1"), 1}), patterns()...)
}

// P7.1: whatever is put: each 6 bytes are an address, its bits and a number.
func FuzzTrie(f *testing.F) {
	f.Add([]byte{})
	f.Add([]byte{10, 0, 0, 0, 8, 1, 10, 1, 0, 0, 16, 2, 10, 1, 2, 3, 32, 3, 10, 0, 0, 0, 8, 4, 0, 0, 0, 0, 0, 5})
	f.Add([]byte{0, 0, 0, 1, 8, 1, 0, 0, 0, 0, 33, 2, 0, 0, 0, 0, 255, 3, 128, 0, 0, 0, 1, 4, 128, 0, 0, 0, 1, 4})
	f.Fuzz(func(t *testing.T, b []byte) {
		var m model
		for ; len(b) >= 6 && len(m) < 40; b = b[6:] {
			p := api.Prefix{Addr: api.Addr(binary.BigEndian.Uint32(b)), Bits: int(int8(b[4]))}
			if b[5] > 50 {
				p.Bits &= 31
				p = of(p.Addr, p.Bits)
			}
			m = append(m, put{p, int(b[5])})
		}
		holds(t, built(t, m), m)
	})
}
