// Package addr: addresses: see ../shared/doc/01-addr.md.
package addr

import (
	"strconv"
	"strings"

	"rivulet/api"
)

// width is how many bits an address has.
const width = 32

// Parse reads four numbers apart by points, the highest byte first.
func Parse(s string) (api.Addr, error) {
	var b [4]byte
	// One part more than needed is enough to tell that there are too many.
	parts := strings.SplitN(s, ".", len(b)+1)
	if len(parts) != len(b) {
		return 0, api.ErrAddr
	}
	for i, part := range parts {
		n, ok := number(part, 255)
		if !ok {
			return 0, api.ErrAddr
		}
		b[i] = byte(n)
	}
	return Of(b), nil
}

// number reads 1 to 3 decimal digits, no 0 ahead of others, up to most.
func number(s string, most int) (int, bool) {
	if len(s) < 1 || len(s) > 3 || len(s) > 1 && s[0] == '0' {
		return 0, false
	}
	n := 0
	for i := range len(s) {
		if s[i] < '0' || s[i] > '9' {
			return 0, false
		}
		n = 10*n + int(s[i]-'0')
	}
	if n > most {
		return 0, false
	}
	return n, true
}

// Text writes an address as Parse reads it.
func Text(a api.Addr) string {
	var parts [4]string
	for i, b := range Bytes(a) {
		parts[i] = strconv.Itoa(int(b))
	}
	return strings.Join(parts[:], ".")
}

// ParsePrefix reads an address, a slash and the number of bits.
func ParsePrefix(s string) (api.Prefix, error) {
	// Without a slash the bits are empty, which is no number.
	first, second, _ := strings.Cut(s, "/")
	a, err := Parse(first)
	if err != nil {
		return api.Prefix{}, err
	}
	bits, ok := number(second, width)
	p := api.Prefix{Addr: a, Bits: bits}
	if !ok || !Valid(p) {
		return api.Prefix{}, api.ErrAddr
	}
	return p, nil
}

// PrefixText writes a valid prefix as ParsePrefix reads it; of another one it writes nothing.
func PrefixText(p api.Prefix) string {
	if !Valid(p) {
		return ""
	}
	return Text(p.Addr) + "/" + strconv.Itoa(p.Bits)
}

// Mask is so many ones from the highest bit on.
func Mask(bits int) api.Addr {
	zeros := width - min(max(bits, 0), width)
	return ^api.Addr(0) << zeros
}

// Valid tells whether the bits are 0 to 32, and the address has no one behind them.
func Valid(p api.Prefix) bool {
	return p.Bits >= 0 && p.Bits <= width && p.Addr&^Mask(p.Bits) == 0
}

// In tells whether an address begins as a valid prefix.
func In(p api.Prefix, a api.Addr) bool {
	return Valid(p) && a&Mask(p.Bits) == p.Addr
}

// Within tells whether all addresses of a valid prefix are in another valid one.
func Within(p, in api.Prefix) bool {
	return Valid(p) && p.Bits >= in.Bits && In(in, p.Addr)
}

// Group tells whether an address is one of 224.0.0.0 to 239.255.255.255.
func Group(a api.Addr) bool {
	// They are just those that begin with the bits 1110.
	return a>>28 == 0b1110
}

// Bytes are an address's bytes, the highest first.
func Bytes(a api.Addr) [4]byte {
	return [4]byte{byte(a >> 24), byte(a >> 16), byte(a >> 8), byte(a)}
}

// Of is the address of these bytes, the highest first.
func Of(b [4]byte) api.Addr {
	return api.Addr(b[0])<<24 | api.Addr(b[1])<<16 | api.Addr(b[2])<<8 | api.Addr(b[3])
}
