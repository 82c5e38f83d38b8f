package addr_test

import (
	"math"
	"strconv"
	"strings"
	"testing"

	"rivulet/addr"
	"rivulet/api"
)

const last = api.Addr(math.MaxUint32)

// bytesWritten are all bytes with the texts that stand for them.
func bytesWritten() map[int]string {
	written := map[int]string{}
	for n := range 256 {
		written[n] = strconv.Itoa(n)
	}
	return written
}

// P1.1: each byte is read and written in each of the four places.
func TestEachByteInEachPlace(t *testing.T) {
	for place := range 4 {
		for n, word := range bytesWritten() {
			parts := []string{"9", "9", "9", "9"}
			parts[place] = word
			text := strings.Join(parts, ".")
			want := [4]byte{9, 9, 9, 9}
			want[place] = byte(n)
			a, err := addr.Parse(text)
			if err != nil || addr.Bytes(a) != want || addr.Of(want) != a || addr.Text(a) != text {
				t.Errorf("%s: %d %v, bytes %v, text %s", text, a, err, addr.Bytes(a), addr.Text(a))
			}
		}
	}
}

// P1.1: the highest byte is the first.
func TestHighestByteFirst(t *testing.T) {
	cases := []struct {
		text  string
		bytes [4]byte
		addr  api.Addr
	}{
		{"1.0.0.2", [4]byte{1, 0, 0, 2}, 1<<24 + 2},
		{"0.0.0.0", [4]byte{}, 0},
		{"0.0.0.1", [4]byte{0, 0, 0, 1}, 1},
		{"0.0.1.0", [4]byte{0, 0, 1, 0}, 1 << 8},
		{"0.1.0.0", [4]byte{0, 1, 0, 0}, 1 << 16},
		{"1.0.0.0", [4]byte{1, 0, 0, 0}, 1 << 24},
		{"128.64.32.16", [4]byte{128, 64, 32, 16}, 0x80402010},
		{"255.255.255.255", [4]byte{255, 255, 255, 255}, last},
	}
	for _, c := range cases {
		a, err := addr.Parse(c.text)
		if a != c.addr || err != nil {
			t.Errorf("Parse(%q) = %d, %v", c.text, a, err)
		}
		if got := addr.Text(c.addr); got != c.text {
			t.Errorf("Text(%d) = %q", c.addr, got)
		}
		if got := addr.Bytes(c.addr); got != c.bytes {
			t.Errorf("Bytes(%d) = %v", c.addr, got)
		}
		if got := addr.Of(c.bytes); got != c.addr {
			t.Errorf("Of(%v) = %d", c.bytes, got)
		}
	}
}

// wrongNumbers are no numbers of an address, nor of a prefix's bits.
func wrongNumbers() []string {
	return []string{
		"", " ", "00", "01", "007", "032", "0000", "0001", "1000", "1234",
		"256", "260", "300", "999", "4294967296", "18446744073709551616",
		"-1", "+1", "-0", " 1", "1 ", "1\n", "\t1", "1\x00", "a", "1a", "a1", "0x1", "1e1", "1_0", "1,0", "/", ":",
		"\u0661", "\u00b2", "\uff11", "\xff", strings.Repeat("1", 10000),
	}
}

// P1.1: what is not four such numbers is no address, and the address beside the error is 0.
func TestParseWrong(t *testing.T) {
	wrong := []string{
		"", ".", "..", "...", "....", "1", "1.2", "1.2.3", "1.2.3.", ".1.2.3", "1..2.3", "1.2..3.4",
		"1.2.3.4.", ".1.2.3.4", "1.2.3.4.5", "1.2.3.4.5.6", "1.2.3.4..", "1,2,3,4", "1.2.3,4", "1.2.3.4/32", "1.2.3.4/",
		"16909060", strings.Repeat("1.", 10000),
	}
	for _, word := range wrongNumbers() {
		wrong = append(wrong, word+".2.3.4", "1."+word+".3.4", "1.2."+word+".4", "1.2.3."+word)
	}
	for _, s := range wrong {
		if a, err := addr.Parse(s); a != 0 || err != api.ErrAddr {
			t.Errorf("Parse(%.40q) = %d, %v", s, a, err)
		}
	}
}

// P1.1: a prefix of each number of bits is read and written.
func TestPrefixOfEachBits(t *testing.T) {
	for bits := range 33 {
		for _, a := range []api.Addr{0, last, 0xAAAAAAAA, 0x55555555} {
			p := api.Prefix{Addr: a & addr.Mask(bits), Bits: bits}
			text := addr.Text(p.Addr) + "/" + strconv.Itoa(bits)
			if got := addr.PrefixText(p); got != text {
				t.Errorf("PrefixText(%v) = %q", p, got)
			}
			if got, err := addr.ParsePrefix(text); got != p || err != nil {
				t.Errorf("ParsePrefix(%q) = %v, %v", text, got, err)
			}
		}
	}
}

// P1.1: prefixes written out, not by the package's own calls.
func TestPrefixWritten(t *testing.T) {
	cases := []struct {
		text string
		p    api.Prefix
	}{
		{"0.0.0.0/0", api.Prefix{}},
		{"0.0.0.0/32", api.Prefix{Bits: 32}},
		{"128.0.0.0/1", api.Prefix{Addr: 1 << 31, Bits: 1}},
		{"10.0.0.0/8", api.Prefix{Addr: 10 << 24, Bits: 8}},
		{"1.2.3.4/30", api.Prefix{Addr: 0x01020304, Bits: 30}},
		{"255.255.255.254/31", api.Prefix{Addr: last - 1, Bits: 31}},
		{"255.255.255.255/32", api.Prefix{Addr: last, Bits: 32}},
	}
	for _, c := range cases {
		if got, err := addr.ParsePrefix(c.text); got != c.p || err != nil {
			t.Errorf("ParsePrefix(%q) = %v, %v", c.text, got, err)
		}
		if got := addr.PrefixText(c.p); got != c.text {
			t.Errorf("PrefixText(%v) = %q", c.p, got)
		}
	}
}

// P1.1: what is no prefix, or no valid one, is ErrAddr, and the prefix beside it is zero.
func TestParsePrefixWrong(t *testing.T) {
	wrong := []string{
		"", "/", "/8", "8", "10.0.0.0", "10.0.0.0/", "10.0.0.0//8", "/10.0.0.0/8", "10.0.0.0/8/", "10.0.0.0/8/8",
		"10.0.0/8", "10.0.0.0.0/8", "010.0.0.0/8", "256.0.0.0/8", "10.0.0.0\\8", "10.0.0.0 /8", "8/10.0.0.0",
		"0.0.0.0/33", "0.0.0.0/64", "0.0.0.0/255", "0.0.0.0/8.0",
		"0.0.0.1/0", "128.0.0.0/0", "64.0.0.0/1", "10.0.0.1/8", "10.128.0.0/8", "10.0.0.1/31", "255.255.255.255/31",
	}
	for _, word := range wrongNumbers() {
		wrong = append(wrong, "0.0.0.0/"+word, word+".0.0.0/8")
	}
	for _, s := range wrong {
		if p, err := addr.ParsePrefix(s); p != (api.Prefix{}) || err != api.ErrAddr {
			t.Errorf("ParsePrefix(%.40q) = %v, %v", s, p, err)
		}
	}
}

// invalid are prefixes with bits out of range, or with a one behind the bits.
func invalid() []api.Prefix {
	wrong := []api.Prefix{{Bits: -1}, {Bits: 33}, {Bits: 64}, {Bits: math.MinInt}, {Bits: math.MaxInt},
		{Addr: last, Bits: -1}, {Addr: last, Bits: 33}, {Addr: last, Bits: math.MaxInt}}
	for bits := range 32 {
		first, lowest := api.Addr(1)<<(31-bits), api.Addr(1)
		wrong = append(wrong, api.Prefix{Addr: first, Bits: bits}, api.Prefix{Addr: lowest, Bits: bits}, api.Prefix{Addr: last, Bits: bits})
	}
	return wrong
}

// What is written of an invalid prefix the document leaves open: nothing is.
func TestPrefixTextOfInvalid(t *testing.T) {
	for _, p := range invalid() {
		if got := addr.PrefixText(p); got != "" {
			t.Errorf("PrefixText(%v) = %q", p, got)
		}
	}
}

// P1.2: so many ones from the highest bit on, and no more than there are.
func TestMask(t *testing.T) {
	for bits := range 33 {
		text := strings.Repeat("1", bits) + strings.Repeat("0", 32-bits)
		want, err := strconv.ParseUint(text, 2, 32)
		if got := addr.Mask(bits); err != nil || got != api.Addr(want) {
			t.Errorf("Mask(%d) = %x", bits, got)
		}
	}
	for _, bits := range []int{-1, -32, math.MinInt32, math.MinInt} {
		if got := addr.Mask(bits); got != 0 {
			t.Errorf("Mask(%d) = %x", bits, got)
		}
	}
	for _, bits := range []int{33, 40, 64, 255, math.MaxInt32, math.MaxInt} {
		if got := addr.Mask(bits); got != last {
			t.Errorf("Mask(%d) = %x", bits, got)
		}
	}
}

// P1.2: a prefix is valid just with bits of 0 to 32 and no one behind them.
func TestValid(t *testing.T) {
	for bits := range 33 {
		for _, a := range []api.Addr{0, addr.Mask(bits)} {
			if !addr.Valid(api.Prefix{Addr: a, Bits: bits}) {
				t.Errorf("%x/%d is not valid", a, bits)
			}
		}
	}
	for _, p := range invalid() {
		if addr.Valid(p) {
			t.Errorf("%v is valid", p)
		}
	}
}

// P1.2: an address is in a prefix if its first bits are the prefix's: each of these counts, none behind them does.
func TestIn(t *testing.T) {
	const a = api.Addr(0xC5A3960F)
	for bits := range 33 {
		p := api.Prefix{Addr: a & addr.Mask(bits), Bits: bits}
		if !addr.In(p, a) {
			t.Errorf("%x is not in %v", a, p)
		}
		for i := range 32 {
			other := a ^ 1<<(31-i)
			if addr.In(p, other) != (i >= bits) {
				t.Errorf("In(%v, %x) is %v", p, other, addr.In(p, other))
			}
		}
	}
	for _, p := range invalid() {
		for _, a := range []api.Addr{p.Addr, p.Addr & addr.Mask(p.Bits), 0, last} {
			if addr.In(p, a) {
				t.Errorf("%x is in %v, which is not valid", a, p)
			}
		}
	}
}

// P1.2: a prefix is within those of as many bits or fewer that its address is in.
func TestWithin(t *testing.T) {
	const a = api.Addr(0xC5A3960F)
	for bits := range 33 {
		p := api.Prefix{Addr: a & addr.Mask(bits), Bits: bits}
		for inBits := range 33 {
			in := api.Prefix{Addr: a & addr.Mask(inBits), Bits: inBits}
			if addr.Within(p, in) != (bits >= inBits) {
				t.Errorf("Within(%v, %v) is %v", p, in, addr.Within(p, in))
			}
			if inBits > 0 {
				in.Addr ^= 1 << (32 - inBits)
				if addr.Within(p, in) {
					t.Errorf("%v is within %v", p, in)
				}
			}
		}
	}
	// The zero address is in both, so that the bits alone decide.
	if addr.Within(api.Prefix{Bits: 8}, api.Prefix{Bits: 9}) {
		t.Error("0.0.0.0/8 is within 0.0.0.0/9")
	}
}

// P1.2: nothing is within an invalid prefix, and no invalid one is within any.
func TestWithinInvalid(t *testing.T) {
	for _, p := range invalid() {
		for _, valid := range []api.Prefix{{}, {Bits: 32}, {Addr: last, Bits: 32}, {Addr: p.Addr, Bits: 32}} {
			if addr.Within(p, valid) || addr.Within(valid, p) {
				t.Errorf("%v and %v", p, valid)
			}
		}
		if addr.Within(p, p) {
			t.Errorf("%v is within itself", p)
		}
	}
}

// P1.2: groups are 224.0.0.0 to 239.255.255.255, both with them.
func TestGroup(t *testing.T) {
	for first := range 256 {
		for _, rest := range []api.Addr{0, 1, 1<<24 - 1} {
			a := api.Addr(first)<<24 + rest
			if addr.Group(a) != (first >= 224 && first <= 239) {
				t.Errorf("Group(%d, %x) is %v", first, rest, addr.Group(a))
			}
		}
	}
}

// P1.1: whatever is read is written back just as it was.
func FuzzReadAndWritten(f *testing.F) {
	for _, s := range []string{"", "1.0.0.2", "01.0.0.2", "10.0.0.0/8", "10.0.0.1/8", "0.0.0.0/00", "255.255.255.255/32", "1.2.3.4.5"} {
		f.Add(s)
	}
	f.Fuzz(func(t *testing.T, s string) {
		if a, err := addr.Parse(s); err == nil && addr.Text(a) != s || err != nil && (a != 0 || err != api.ErrAddr) {
			t.Errorf("Parse(%q) = %d, %v", s, a, err)
		}
		p, err := addr.ParsePrefix(s)
		if err == nil && (addr.PrefixText(p) != s || !addr.Valid(p)) || err != nil && (p != (api.Prefix{}) || err != api.ErrAddr) {
			t.Errorf("ParsePrefix(%q) = %v, %v", s, p, err)
		}
	})
}
