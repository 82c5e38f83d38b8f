package ip_test

import (
	"bytes"
	"encoding/binary"
	"math"
	"testing"

	"rivulet/api"
	"rivulet/ip"
	"rivulet/sum"
)

const last = api.Addr(math.MaxUint32)

// written are headers with their bytes, written out.
func written() []struct {
	h ip.Header
	b []byte
} {
	return []struct {
		h ip.Header
		b []byte
	}{
		{ip.Header{Len: 20}, []byte{69, 0, 0, 20, 0, 0, 0, 0, 0, 0, 0xBA, 0xEB, 0, 0, 0, 0, 0, 0, 0, 0}},
		{ip.Header{Len: 65535, ID: 65535, TTL: 255, Proto: 255, From: last, To: last},
			[]byte{69, 0, 255, 255, 255, 255, 0, 0, 255, 255, 0xBA, 0xFF, 255, 255, 255, 255, 255, 255, 255, 255}},
		{ip.Header{Len: 115, TTL: 64, Proto: 17, From: 0xC0A80001, To: 0xC0A800C7},
			[]byte{69, 0, 0, 115, 0, 0, 0, 0, 64, 17, 0xF8, 0x61, 192, 168, 0, 1, 192, 168, 0, 199}},
		{ip.Header{Len: 0x1234, ID: 0x5678, TTL: 1, Proto: 2, From: 0x0A0B0C0D, To: 0xE0010203},
			[]byte{69, 0, 0x12, 0x34, 0x56, 0x78, 0, 0, 1, 2, 0x59, 0x34, 10, 11, 12, 13, 224, 1, 2, 3}},
		// The rest adds up to 65,535, so that the sum is 0.
		{ip.Header{Len: 20, ID: 0xBAEB}, []byte{69, 0, 0, 20, 0xBA, 0xEB, 0, 0, 0, 0, 0, 0, 0, 0, 0, 0, 0, 0, 0, 0}},
	}
}

// summed is the bytes with their sum at 10, worked out by words that the 1s carried out of are added to at once.
func summed(b []byte) []byte {
	out := bytes.Clone(b)
	binary.BigEndian.PutUint16(out[10:], 0)
	total := 0
	for i := 0; i < 20; i += 2 {
		total += int(binary.BigEndian.Uint16(out[i:]))
		if total > 65535 {
			total -= 65535
		}
	}
	binary.BigEndian.PutUint16(out[10:], uint16(65535-total))
	return out
}

// expected are a header's bytes, put together in another way.
func expected(h ip.Header) []byte {
	b := []byte{69, 0}
	b = binary.BigEndian.AppendUint16(b, uint16(h.Len))
	b = binary.BigEndian.AppendUint16(b, uint16(h.ID))
	b = append(b, 0, 0, byte(h.TTL), byte(h.Proto), 0, 0)
	b = binary.BigEndian.AppendUint32(b, uint32(h.From))
	b = binary.BigEndian.AppendUint32(b, uint32(h.To))
	return summed(b)
}

// good is a header's bytes in which each field is another number.
func good() []byte {
	return expected(ip.Header{Len: 0x1234, ID: 0x5678, TTL: 9, Proto: 17, From: 0x0A0B0C0D, To: 0xE0010203})
}

// with is a header's bytes with some of them others, and the sum of these.
func with(places map[int]byte) []byte {
	b := good()
	for place, n := range places {
		b[place] = n
	}
	return summed(b)
}

// bothTell fails where Read or Hop of the bytes does not tell that error, or answers anything beside it.
func bothTell(t *testing.T, name string, b []byte, want error) {
	t.Helper()
	if h, err := ip.Read(b); h != (ip.Header{}) || err != want {
		t.Errorf("%s: Read(%v) = %v, %v, not %v", name, b, h, err, want)
	}
	if out, err := ip.Hop(b); len(out) != 0 || err != want {
		t.Errorf("%s: Hop(%v) = %v, %v, not %v", name, b, out, err, want)
	}
}

// backAndForth fails where Bytes, Read or Hop of a header that fits is another one than expected.
func backAndForth(t *testing.T, h ip.Header) {
	t.Helper()
	want := expected(h)
	b, err := ip.Bytes(h)
	if !bytes.Equal(b, want) || err != nil {
		t.Errorf("Bytes(%v) = %v, %v, not %v", h, b, err, want)
	}
	if got, err := ip.Read(want); got != h || err != nil {
		t.Errorf("Read(%v) = %v, %v, not %v", want, got, err, h)
	}
	out, err := ip.Hop(want)
	if h.TTL == 0 {
		if len(out) != 0 || err != api.ErrRange {
			t.Errorf("Hop(%v) = %v, %v", want, out, err)
		}
		return
	}
	h.TTL--
	if !bytes.Equal(out, expected(h)) || err != nil {
		t.Errorf("Hop(%v) = %v, %v", want, out, err)
	}
}

// P3.1: headers written out, both ways.
func TestWritten(t *testing.T) {
	for _, c := range written() {
		if b, err := ip.Bytes(c.h); !bytes.Equal(b, c.b) || err != nil {
			t.Errorf("Bytes(%v) = %v, %v", c.h, b, err)
		}
		if h, err := ip.Read(c.b); h != c.h || err != nil {
			t.Errorf("Read(%v) = %v, %v", c.b, h, err)
		}
		backAndForth(t, c.h)
	}
}

// numbers are a header's numbers, with the least and the most of each.
func numbers() []struct {
	name        string
	least, most int
	set         func(h *ip.Header, n int)
} {
	return []struct {
		name        string
		least, most int
		set         func(h *ip.Header, n int)
	}{
		{"Len", 20, 65535, func(h *ip.Header, n int) { h.Len = n }},
		{"ID", 0, 65535, func(h *ip.Header, n int) { h.ID = n }},
		{"TTL", 0, 255, func(h *ip.Header, n int) { h.TTL = n }},
		{"Proto", 0, 255, func(h *ip.Header, n int) { h.Proto = n }},
	}
}

// P3.1: each number from its least to its most, beside others that are small and others that are great.
func TestEachNumber(t *testing.T) {
	for _, f := range numbers() {
		for n := f.least; n <= f.most; n++ {
			small := ip.Header{Len: 20}
			great := ip.Header{Len: 65535, ID: 65535, TTL: 255, Proto: 255, From: last, To: last}
			f.set(&small, n)
			f.set(&great, n)
			backAndForth(t, small)
			backAndForth(t, great)
		}
	}
}

// P3.1: each byte in each place of From and of To.
func TestEachAddressByte(t *testing.T) {
	for n := range 256 {
		for shift := 0; shift < 32; shift += 8 {
			a := api.Addr(n) << shift
			backAndForth(t, ip.Header{Len: 100, ID: 7, TTL: 3, Proto: 103, From: a, To: ^a})
			backAndForth(t, ip.Header{Len: 100, ID: 7, TTL: 3, Proto: 103, From: ^a, To: a})
		}
	}
}

// P3.1: Bytes of a number below its least or above its most, also of those that would be cut to one that fits.
func TestBytesRange(t *testing.T) {
	for _, f := range numbers() {
		wrong := []int{
			f.least - 1, f.most + 1, -1, -2, -20, -256, -65516, -65536, f.most + 2, f.most + 21, 65536, 65536 + 20, 1 << 17, 1<<24 + 100,
			math.MinInt32, math.MaxInt32, 1<<32 + 100, -(1 << 32) + 100, math.MinInt, math.MinInt + 100, math.MaxInt - 1, math.MaxInt,
		}
		for _, n := range wrong {
			h := ip.Header{Len: 100, ID: 100, TTL: 100, Proto: 100, From: 1, To: 2}
			f.set(&h, n)
			if b, err := ip.Bytes(h); len(b) != 0 || err != api.ErrRange {
				t.Errorf("%s of %d: %v, %v", f.name, n, b, err)
			}
		}
	}
	for _, h := range []ip.Header{{}, {Len: -1, ID: -1, TTL: -1, Proto: -1}, {Len: 19, ID: 65536}, {Len: 65536, TTL: 256, Proto: 256}} {
		if b, err := ip.Bytes(h); len(b) != 0 || err != api.ErrRange {
			t.Errorf("Bytes(%v) = %v, %v", h, b, err)
		}
	}
}

// P3.1: fewer than 20 bytes end too early, whatever they are, and whatever memory is behind them.
func TestEnd(t *testing.T) {
	bothTell(t, "nil", nil, api.ErrEnd)
	for n := range 20 {
		bothTell(t, "a header's", good()[:n], api.ErrEnd)
		bothTell(t, "a header's alone", bytes.Clone(good()[:n]), api.ErrEnd)
		bothTell(t, "of 0", make([]byte, n), api.ErrEnd)
		bothTell(t, "of 255", bytes.Repeat([]byte{255}, n), api.ErrEnd)
	}
}

// P3.1: the first 20 bytes are the header; what is behind is of no weight, and not in what Hop answers.
func TestMoreBytes(t *testing.T) {
	h, err := ip.Read(good())
	hop, hopErr := ip.Hop(good())
	if err != nil || hopErr != nil || len(hop) != 20 {
		t.Fatal(err, hopErr, hop)
	}
	for _, n := range []int{1, 2, 3, 20, 65535, 70000} {
		for _, behind := range []byte{0, 1, 170, 255} {
			b := append(good(), bytes.Repeat([]byte{behind}, n)...)
			if got, err := ip.Read(b); got != h || err != nil {
				t.Errorf("Read with %d of %d behind: %v, %v", n, behind, got, err)
			}
			if got, err := ip.Hop(b); !bytes.Equal(got, hop) || err != nil {
				t.Errorf("Hop with %d of %d behind: %v, %v", n, behind, got, err)
			}
		}
	}
}

// P3.1: each other byte in the first, second, seventh or eighth place is told, with the sum that goes with it and without.
func TestShape(t *testing.T) {
	for _, place := range []int{0, 1, 6, 7} {
		for n := range 256 {
			b := with(map[int]byte{place: byte(n)})
			if b[place] == good()[place] {
				continue
			}
			bothTell(t, "its sum holds", b, api.ErrShape)
			bothTell(t, "more bytes", append(bytes.Clone(b), 1, 2, 3), api.ErrShape)
			b[11] ^= 1
			bothTell(t, "its sum does not hold", b, api.ErrShape)
		}
	}
	bothTell(t, "all", with(map[int]byte{0: 70, 1: 1, 6: 64, 7: 1}), api.ErrShape)
	bothTell(t, "20 bytes of 0", make([]byte, 20), api.ErrShape)
}

// P3.1: each bit turned of the other bytes is told by the sum, whatever is behind the 20 bytes.
func TestSum(t *testing.T) {
	for bit := range 8 * 20 {
		place := bit / 8
		if place < 2 || place == 6 || place == 7 {
			continue
		}
		b := good()
		b[place] ^= 1 << (bit % 8)
		bothTell(t, "a bit turned", b, api.ErrSum)
		bothTell(t, "its like behind", append(b, b[18], b[19]), api.ErrSum)
	}
	// With the two bytes behind, the sum of them all would hold.
	b := good()
	b[19]++
	b = append(b, 255, 254)
	if !sum.Check(b) {
		t.Errorf("Check(%v) does not hold", b)
	}
	bothTell(t, "made good behind", b, api.ErrSum)
}

// P3.1: a sum of 65,535 holds where 0 does.
func TestOtherZero(t *testing.T) {
	c := written()[4]
	b := bytes.Clone(c.b)
	b[10], b[11] = 255, 255
	if h, err := ip.Read(b); h != c.h || err != nil {
		t.Errorf("Read(%v) = %v, %v", b, h, err)
	}
	h := c.h
	h.ID, h.TTL = 0xB9EB, 1
	b = expected(h)
	b[10], b[11] = 255, 255
	h.TTL = 0
	if out, err := ip.Hop(b); !bytes.Equal(out, expected(h)) || err != nil {
		t.Errorf("Hop(%v) = %v, %v", b, out, err)
	}
}

// P3.1: a Len below 20 with a sum that holds is out of its range, one of 20 is not.
func TestLenRange(t *testing.T) {
	for n := range byte(20) {
		bothTell(t, "its sum holds", with(map[int]byte{2: 0, 3: n}), api.ErrRange)
		bothTell(t, "no hop left", with(map[int]byte{2: 0, 3: n, 8: 0}), api.ErrRange)
	}
	for _, b := range [][]byte{with(map[int]byte{2: 0, 3: 20}), with(map[int]byte{2: 1, 3: 0}), with(map[int]byte{2: 1, 3: 19}), with(map[int]byte{2: 255, 3: 255})} {
		h, err := ip.Read(b)
		if h.Len != int(b[2])<<8+int(b[3]) || err != nil {
			t.Errorf("Read(%v) = %v, %v", b, h, err)
		}
	}
}

// P3.1, P0.2: of several errors the first is told: the end, the shape, the sum, then Len and the hops.
func TestFirstError(t *testing.T) {
	// No hop left, so that Hop has an error of its own behind Read's.
	b := with(map[int]byte{2: 0, 3: 19, 8: 0})
	bothTell(t, "Len", b, api.ErrRange)
	b[11] ^= 1
	bothTell(t, "the sum and Len", b, api.ErrSum)
	for _, place := range []int{0, 1, 6, 7} {
		c := bytes.Clone(b)
		c[place]++
		bothTell(t, "the shape, the sum and Len", c, api.ErrShape)
		bothTell(t, "the end, the shape, the sum and Len", c[:19], api.ErrEnd)
	}
}

// P3.1: Hop of no hop left is an error though Read's is none, of one left it leaves none.
func TestHopEdges(t *testing.T) {
	h := ip.Header{Len: 100, ID: 1, TTL: 0, Proto: 2, From: 3, To: 4}
	if got, err := ip.Read(expected(h)); got != h || err != nil {
		t.Errorf("Read = %v, %v", got, err)
	}
	if b, err := ip.Hop(expected(h)); len(b) != 0 || err != api.ErrRange {
		t.Errorf("Hop of 0: %v, %v", b, err)
	}
	h.TTL = 1
	b, err := ip.Hop(expected(h))
	h.TTL = 0
	if !bytes.Equal(b, expected(h)) || err != nil {
		t.Errorf("Hop of 1: %v, %v", b, err)
	}
}

// P3.1: hop by hop from 255 to 0, each with a sum that holds, and with nothing else another than it was.
func TestHopByHop(t *testing.T) {
	first := with(map[int]byte{8: 255})
	b := first
	for ttl := 254; ttl >= 0; ttl-- {
		next, err := ip.Hop(b)
		if err != nil || len(next) != 20 {
			t.Fatalf("Hop(%v) = %v, %v", b, next, err)
		}
		if h, err := ip.Read(next); h.TTL != ttl || err != nil {
			t.Errorf("Read(%v) = %v, %v", next, h, err)
		}
		if !bytes.Equal(next, with(map[int]byte{8: byte(ttl)})) || !bytes.Equal(next[:8], first[:8]) || !bytes.Equal(next[12:], first[12:]) {
			t.Errorf("with %d hops left: %v", ttl, next)
		}
		b = next
	}
	bothHopTell(t, b)
}

// bothHopTell fails where Hop does not tell, called again too, that no hop is left.
func bothHopTell(t *testing.T, b []byte) {
	t.Helper()
	for range 2 {
		if out, err := ip.Hop(b); len(out) != 0 || err != api.ErrRange {
			t.Errorf("Hop(%v) = %v, %v", b, out, err)
		}
	}
}

// P0.4: what is handed in stays as it was, with what lies behind its length, on which no answer hangs.
func TestHandedInStays(t *testing.T) {
	ins := [][]byte{nil, good()[:19], good(), append(good(), 1, 2, 3), with(map[int]byte{0: 70}), with(map[int]byte{3: 1, 2: 0}), with(map[int]byte{8: 0}), with(map[int]byte{8: 1}), make([]byte, 20)}
	for _, b := range ins {
		h, err := ip.Read(b)
		hop, hopErr := ip.Hop(b)
		for _, behind := range []byte{0, 170, 255} {
			memory := append(bytes.Clone(b), bytes.Repeat([]byte{behind}, 40)...)
			before := bytes.Clone(memory)
			in := memory[:len(b)]
			if got, e := ip.Read(in); got != h || e != err {
				t.Errorf("Read(%v) = %v, %v with %d behind", in, got, e, behind)
			}
			if got, e := ip.Hop(in); !bytes.Equal(got, hop) || e != hopErr {
				t.Errorf("Hop(%v) = %v, %v with %d behind", in, got, e, behind)
			}
			if !bytes.Equal(memory, before) {
				t.Errorf("%v became %v", before, memory)
			}
		}
	}
}

// spoil turns all bits of a list, its spare room too.
func spoil(b []byte) {
	b = b[:cap(b)]
	for i := range b {
		b[i] ^= 255
	}
}

// P0.4: what Bytes and Hop answer is new memory, its spare room too.
func TestNewMemory(t *testing.T) {
	memory := append(good(), make([]byte, 64)...)
	before := bytes.Clone(memory)
	h, err := ip.Read(memory)
	if err != nil {
		t.Fatal(err)
	}
	firstHop, _ := ip.Hop(memory[:20])
	secondHop, _ := ip.Hop(memory[:20])
	kept := bytes.Clone(secondHop)
	spoil(firstHop)
	thirdHop, _ := ip.Hop(memory[:20])
	if !bytes.Equal(memory, before) || !bytes.Equal(secondHop, kept) || !bytes.Equal(thirdHop, kept) {
		t.Error("Hop shares its memory")
	}
	first, _ := ip.Bytes(h)
	second, _ := ip.Bytes(h)
	spoil(first)
	third, _ := ip.Bytes(h)
	if !bytes.Equal(second, good()) || !bytes.Equal(third, good()) {
		t.Error("Bytes shares its memory")
	}
}

// told is the error that the chapter names first for these bytes, or none.
func told(b []byte) error {
	switch {
	case len(b) < 20:
		return api.ErrEnd
	case b[0] != 69 || b[1] != 0 || b[6] != 0 || b[7] != 0:
		return api.ErrShape
	}
	right := summed(b[:20])
	// Of the same 16 bits 0 and 65,535 are the same sum.
	other := right[10] == 0 && right[11] == 0 && b[10] == 255 && b[11] == 255
	if !other && !bytes.Equal(right, b[:20]) {
		return api.ErrSum
	}
	if b[2] == 0 && b[3] < 20 {
		return api.ErrRange
	}
	return nil
}

// P3.1: whatever the bytes, as they are and with a shape and a sum that are right.
func FuzzRead(f *testing.F) {
	f.Add([]byte{})
	f.Add(good())
	f.Add(good()[:19])
	f.Add(make([]byte, 21))
	for _, c := range written() {
		f.Add(c.b)
	}
	f.Fuzz(func(t *testing.T, b []byte) {
		ins := [][]byte{b}
		if len(b) >= 20 {
			shaped := bytes.Clone(b)
			shaped[0], shaped[1], shaped[6], shaped[7] = 69, 0, 0, 0
			ins = append(ins, shaped, summed(b), summed(shaped))
		}
		for _, in := range ins {
			if want := told(in); want != nil {
				bothTell(t, "wrong", in, want)
				continue
			}
			h, err := ip.Read(in)
			if err != nil || !bytes.Equal(expected(h), summed(in[:20])) {
				t.Errorf("Read(%v) = %v, %v", in, h, err)
			}
			backAndForth(t, h)
		}
	})
}

// P3.1: whatever the header: its bytes are those that stand for it, or it does not fit.
func FuzzBytes(f *testing.F) {
	f.Add(20, 0, 0, 0, uint32(0), uint32(0))
	f.Add(19, 0, 0, 0, uint32(0), uint32(0))
	f.Add(65535, 65535, 255, 255, uint32(1), uint32(math.MaxUint32))
	f.Add(65536, -1, 256, -1, uint32(1), uint32(2))
	f.Fuzz(func(t *testing.T, length, id, ttl, proto int, from, to uint32) {
		h := ip.Header{Len: length, ID: id, TTL: ttl, Proto: proto, From: api.Addr(from), To: api.Addr(to)}
		if length >= 20 && length < 1<<16 && id >= 0 && id < 1<<16 && ttl >= 0 && ttl < 1<<8 && proto >= 0 && proto < 1<<8 {
			backAndForth(t, h)
			return
		}
		if b, err := ip.Bytes(h); len(b) != 0 || err != api.ErrRange {
			t.Errorf("Bytes(%v) = %v, %v", h, b, err)
		}
	})
}
