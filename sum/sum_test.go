package sum_test

import (
	"bytes"
	"math"
	"math/big"
	"testing"

	"rivulet/sum"
)

// expected is the sum by another way: 2^16 is 1 above 65,535, so the words add up to the whole number's rest by 65,535.
func expected(b []byte) uint16 {
	padded := bytes.Clone(b)
	if len(padded)%2 != 0 {
		padded = append(padded, 0)
	}
	whole := new(big.Int).SetBytes(padded)
	rest := new(big.Int).Mod(whole, big.NewInt(65535)).Uint64()
	// Adding what is above again comes to 0 just for 0s alone.
	if rest == 0 && whole.Sign() != 0 {
		rest = 65535
	}
	return uint16(65535 - rest)
}

// steps are n bytes, each so far from the one ahead.
func steps(n int, first, step byte) []byte {
	b := make([]byte, n)
	for i := range b {
		b[i] = first + byte(i)*step
	}
	return b
}

// samples are bytes of each small number: 0s, all 255, and two uneven ones.
func samples() [][]byte {
	var all [][]byte
	for n := range 20 {
		all = append(all, make([]byte, n), bytes.Repeat([]byte{255}, n), steps(n, 1, 1), steps(n, 201, 91))
	}
	return all
}

// written are bytes with their sums, written out.
func written() []struct {
	name string
	b    []byte
	want uint16
} {
	return []struct {
		name string
		b    []byte
		want uint16
	}{
		{"nil", nil, 65535},
		{"no bytes", []byte{}, 65535},
		{"one byte of 0", []byte{0}, 65535},
		{"one byte is the higher", []byte{1}, 0xFEFF},
		{"one byte of 255", []byte{255}, 0x00FF},
		{"the higher first", []byte{1, 2}, 0xFEFD},
		{"the highest bit", []byte{128, 0}, 0x7FFF},
		{"the lowest bit", []byte{0, 1}, 0xFFFE},
		{"two bytes of 255", []byte{255, 255}, 0},
		{"an odd last has a 0 behind", []byte{1, 2, 3}, 0xFBFD},
		{"odd, all 255", []byte{255, 255, 255}, 0x00FF},
		{"odd, passing 16 bits", []byte{255, 255, 1}, 0xFEFF},
		{"just 16 bits", []byte{255, 254, 0, 1}, 0},
		{"passing by one", []byte{255, 255, 0, 1}, 0xFFFE},
		{"passing twice", []byte{255, 255, 255, 255, 255, 255}, 0},
		{"what was added again passes too", []byte{255, 255, 255, 255, 0, 1}, 0xFFFE},
		{"highest bits alone", []byte{128, 0, 128, 0}, 0xFFFE},
		{"a packet's header", []byte{0x45, 0, 0, 0x73, 0, 0, 0x40, 0, 0x40, 0x11, 0, 0, 0xC0, 0xA8, 0, 1, 0xC0, 0xA8, 0, 0xC7}, 0xB861},
	}
}

// P2.1: the sums of bytes written out, and Check of them.
func TestOfWritten(t *testing.T) {
	for _, c := range written() {
		if got := sum.Of(c.b); got != c.want {
			t.Errorf("%s: Of = %#04x, not %#04x", c.name, got, c.want)
		}
		if got := sum.Check(c.b); got != (c.want == 0) {
			t.Errorf("%s: Check = %v", c.name, got)
		}
	}
}

// P2.1: each byte in the higher place and in the lower one, beside bytes of 0 and of 255.
func TestOfEachByte(t *testing.T) {
	for n := range 256 {
		for _, other := range []byte{0, 255} {
			for place := range 5 {
				b := bytes.Repeat([]byte{other}, 5)
				b[place] = byte(n)
				if got, want := sum.Of(b), expected(b); got != want || sum.Check(b) != (want == 0) {
					t.Errorf("Of(%v) = %#04x, not %#04x", b, got, want)
				}
			}
		}
	}
}

// P2.1: two words of all kinds near each other's end, so that they just pass 16 bits, or just don't.
func TestOfAroundSixteenBits(t *testing.T) {
	for a := range 65536 {
		for near := -2; near <= 2; near++ {
			w := uint16(65535 - a + near)
			b := []byte{byte(a >> 8), byte(a), byte(w >> 8), byte(w)}
			if got, want := sum.Of(b), expected(b); got != want {
				t.Fatalf("Of(%v) = %#04x, not %#04x", b, got, want)
			}
		}
	}
}

// P2.1, P0.6: what many bytes add up to passes 32 bits too.
func TestOfMany(t *testing.T) {
	for _, n := range []int{131070, 131071, 131072, 131073, 131074, 131076, 200000, 400001, 1 << 20} {
		for _, b := range [][]byte{make([]byte, n), bytes.Repeat([]byte{255}, n), steps(n, 255, 255)} {
			if got, want := sum.Of(b), expected(b); got != want || sum.Check(b) != (want == 0) {
				t.Errorf("%d bytes from %d on: Of = %#04x, not %#04x", n, b[0], got, want)
			}
		}
	}
}

// P2.1: 2^32 + 65,535, with what is above 16 bits added, passes them twice more.
func TestOfAddedThreeTimes(t *testing.T) {
	b := append(bytes.Repeat([]byte{255}, 2*65538), 0, 1)
	if got := sum.Of(b); got != 0xFFFE {
		t.Errorf("Of = %#04x", got)
	}
	want := append(bytes.Repeat([]byte{255}, 2*65538), 0, 0)
	if got := sum.Put(b, len(b)-2); !bytes.Equal(got, want) {
		t.Errorf("Put ends in %v", got[len(got)-4:])
	}
}

// places are all at of n bytes, some on both sides of them, and the numbers' ends.
func places(n int) []int {
	all := []int{math.MinInt, math.MinInt + 1, math.MinInt + 2, math.MaxInt - 2, math.MaxInt - 1, math.MaxInt}
	for at := -5; at <= n+5; at++ {
		all = append(all, at)
	}
	return all
}

// fits tells whether the two bytes at a place are one of n bytes' words.
func fits(n, at int) bool {
	for i := 0; i+2 <= n; i += 2 {
		if i == at {
			return true
		}
	}
	return false
}

// P2.1: Put at each place: the sum of the bytes with 0s there, or the bytes as they are.
func TestPutAtEachPlace(t *testing.T) {
	for _, b := range samples() {
		for _, at := range places(len(b)) {
			want := bytes.Clone(b)
			if fits(len(b), at) {
				want[at], want[at+1] = 0, 0
				s := expected(want)
				want[at], want[at+1] = byte(s>>8), byte(s)
			}
			got := sum.Put(b, at)
			if !bytes.Equal(got, want) {
				t.Errorf("Put(%v, %d) = %v, not %v", b, at, got, want)
			}
			if fits(len(b), at) && !sum.Check(got) {
				t.Errorf("Check(Put(%v, %d)) does not hold", b, at)
			}
		}
	}
}

// P2.1: Put written out.
func TestPutWritten(t *testing.T) {
	cases := []struct {
		b    []byte
		at   int
		want []byte
	}{
		{nil, 0, nil},
		{[]byte{7}, 0, []byte{7}},
		{[]byte{7, 8}, 0, []byte{255, 255}},
		{[]byte{7, 8}, 1, []byte{7, 8}},
		{[]byte{7, 8}, 2, []byte{7, 8}},
		{[]byte{7, 8}, -2, []byte{7, 8}},
		{[]byte{0, 0, 7, 7}, 2, []byte{0, 0, 255, 255}},
		{[]byte{255, 255, 7, 7}, 2, []byte{255, 255, 0, 0}},
		{[]byte{1, 2, 9, 9, 3}, 2, []byte{1, 2, 251, 253, 3}},
		{[]byte{1, 2, 3}, 2, []byte{1, 2, 3}},
		{[]byte{1, 2, 3, 4}, 3, []byte{1, 2, 3, 4}},
		{[]byte{1, 2, 3, 4}, 4, []byte{1, 2, 3, 4}},
	}
	for _, c := range cases {
		if got := sum.Put(c.b, c.at); !bytes.Equal(got, c.want) {
			t.Errorf("Put(%v, %d) = %v, not %v", c.b, c.at, got, c.want)
		}
	}
}

// P2.1: what stood at the place before is of no weight, and a sum that is right stays.
func TestPutAgain(t *testing.T) {
	b := steps(12, 17, 37)
	for at := 0; at < len(b); at += 2 {
		put := sum.Put(b, at)
		for _, old := range []byte{0, 1, 127, 128, 255} {
			other := bytes.Clone(b)
			other[at], other[at+1] = old, ^old
			if got := sum.Put(other, at); !bytes.Equal(got, put) {
				t.Errorf("at %d over %d: %v, not %v", at, old, got, put)
			}
		}
		if got := sum.Put(put, at); !bytes.Equal(got, put) {
			t.Errorf("at %d again: %v, not %v", at, got, put)
		}
	}
}

// P0.4: what is handed in stays as it was, and so does what lies behind its length, which no answer hangs on.
func TestHandedInStays(t *testing.T) {
	for _, b := range samples() {
		for _, behind := range []byte{0, 170, 255} {
			memory := append(bytes.Clone(b), bytes.Repeat([]byte{behind}, 8)...)
			before := bytes.Clone(memory)
			in := memory[:len(b)]
			if got := sum.Of(in); got != expected(b) || sum.Check(in) != (got == 0) {
				t.Errorf("Of(%v) = %#04x with %d behind", b, got, behind)
			}
			for _, at := range places(len(b)) {
				if got := sum.Put(in, at); !bytes.Equal(got, sum.Put(b, at)) {
					t.Errorf("Put(%v, %d) = %v with %d behind", b, at, got, behind)
				}
			}
			if !bytes.Equal(memory, before) {
				t.Errorf("%v became %v", before, memory)
			}
		}
	}
}

// P0.4: what Put answers is new memory, its spare room too, also where it is b as it is.
func TestPutIsNewMemory(t *testing.T) {
	for _, b := range samples() {
		for _, at := range places(len(b)) {
			memory := append(bytes.Clone(b), make([]byte, 64)...)
			before := bytes.Clone(memory)
			first, second := sum.Put(memory[:len(b)], at), sum.Put(memory[:len(b)], at)
			kept := bytes.Clone(second)
			first = first[:cap(first)]
			for i := range first {
				first[i] ^= 255
			}
			if !bytes.Equal(memory, before) || !bytes.Equal(second, kept) {
				t.Errorf("Put(%v, %d) shares its memory", b, at)
			}
		}
	}
}

// turnedTold fails where one bit turned is not told of bytes for which Check holds.
func turnedTold(t *testing.T, b []byte) {
	t.Helper()
	if !sum.Check(b) {
		t.Fatalf("Check(%v) does not hold", b)
	}
	for bit := range 8 * len(b) {
		turned := bytes.Clone(b)
		turned[bit/8] ^= 1 << (bit % 8)
		if sum.Check(turned) {
			t.Errorf("%v: bit %d turned is not told", b, bit)
		}
	}
}

// P2.2: each turned bit is told, of even and odd numbers of bytes, with the sum at each place.
func TestEachTurnedBit(t *testing.T) {
	for _, b := range samples() {
		for at := 0; at+2 <= len(b); at += 2 {
			turnedTold(t, sum.Put(b, at))
		}
	}
	turnedTold(t, []byte{255, 255})
	turnedTold(t, bytes.Repeat([]byte{255}, 64))
	turnedTold(t, []byte{255, 254, 0, 1})
	turnedTold(t, []byte{0, 255, 255})
	turnedTold(t, sum.Put(steps(301, 3, 77), 150))
}

// P2.2: of two bytes, and of three, Check holds of those alone that add up to 65,535, so no two of them are one bit apart.
func TestCheckOfAllWords(t *testing.T) {
	for w := range 65536 {
		b := []byte{byte(w >> 8), byte(w)}
		if sum.Check(b) != (w == 65535) {
			t.Errorf("Check(%v) is %v", b, sum.Check(b))
		}
		c := []byte{byte(w >> 8), byte(w), 128}
		if sum.Check(c) != (w == 65535-128<<8) {
			t.Errorf("Check(%v) is %v", c, sum.Check(c))
		}
	}
}

// P2.1, P2.2: of whatever bytes and place.
func FuzzSum(f *testing.F) {
	f.Add([]byte{}, 0, uint(0))
	f.Add([]byte{1}, 0, uint(7))
	f.Add([]byte{1, 2, 3}, 0, uint(20))
	f.Add([]byte{255, 255, 255, 255, 0, 1}, 4, uint(40))
	f.Fuzz(func(t *testing.T, b []byte, at int, bit uint) {
		before := bytes.Clone(b)
		put := sum.Put(b, at)
		if sum.Of(b) != expected(b) || !bytes.Equal(b, before) || len(put) != len(b) {
			t.Errorf("Of(%v) = %#04x, Put at %d: %v", b, sum.Of(b), at, put)
		}
		if at < 0 || at%2 != 0 || at >= len(b)-1 {
			if !bytes.Equal(put, b) {
				t.Errorf("Put(%v, %d) = %v", b, at, put)
			}
			return
		}
		bit %= 8 * uint(len(b))
		turned := bytes.Clone(put)
		turned[bit/8] ^= 1 << (bit % 8)
		if !sum.Check(put) || sum.Check(turned) {
			t.Errorf("%v at %d: Check is %v, with bit %d turned %v", put, at, sum.Check(put), bit, sum.Check(turned))
		}
	})
}
