package wire_test

import (
	"bytes"
	"encoding/binary"
	"math"
	"slices"
	"testing"

	"rivulet/api"
	"rivulet/wire"
)

const (
	last       = api.Addr(math.MaxUint32)
	firstGroup = api.Addr(0xE0000000)
	lastGroup  = api.Addr(0xEFFFFFFF)
	group      = api.Addr(0xE0010203)
)

// example is a message with its bytes.
type example struct {
	m api.Msg
	b []byte
}

// written are messages of each kind with their bytes, written out.
func written() []example {
	return []example{
		{api.Msg{Kind: api.Hello},
			[]byte{33, 0, 0xDE, 0xFF, 0, 0, 0, 0, 0, 0}},
		{api.Msg{Kind: api.Hello, From: 0x0A0B0C0D, Rank: 0x1234},
			[]byte{33, 0, 0xB6, 0xB3, 10, 11, 12, 13, 0x12, 0x34}},
		{api.Msg{Kind: api.Hello, From: last, Rank: 65535},
			[]byte{33, 0, 0xDE, 0xFF, 255, 255, 255, 255, 255, 255}},
		{api.Msg{Kind: api.Join, From: 0x01020304, To: 0x05060708, Key: api.Key{Source: 0x090A0B0C, Group: group}},
			[]byte{34, 0, 0xD7, 0xD0, 1, 2, 3, 4, 5, 6, 7, 8, 9, 10, 11, 12, 224, 1, 2, 3}},
		{api.Msg{Kind: api.Join, Key: api.Key{Group: firstGroup}},
			[]byte{34, 0, 0xFD, 0xFE, 0, 0, 0, 0, 0, 0, 0, 0, 0, 0, 0, 0, 224, 0, 0, 0}},
		{api.Msg{Kind: api.Join, From: last, To: last, Key: api.Key{Source: last, Group: lastGroup}},
			[]byte{34, 0, 0xED, 0xFF, 255, 255, 255, 255, 255, 255, 255, 255, 255, 255, 255, 255, 239, 255, 255, 255}},
		{api.Msg{Kind: api.Assert, From: 0x01020304, Key: api.Key{Source: 0x05060708, Group: group}, Cost: 0x090A},
			[]byte{35, 0, 0xE1, 0xDC, 1, 2, 3, 4, 5, 6, 7, 8, 224, 1, 2, 3, 9, 10}},
		{api.Msg{Kind: api.Assert, Key: api.Key{Group: group}},
			[]byte{35, 0, 0xFA, 0xFA, 0, 0, 0, 0, 0, 0, 0, 0, 224, 1, 2, 3, 0, 0}},
		{api.Msg{Kind: api.Report, From: 0x01020304, Key: api.Key{Group: group}, Only: true, Sources: []api.Addr{0x05060708, 9}},
			[]byte{36, 0, 0xE8, 0xDB, 1, 2, 3, 4, 224, 1, 2, 3, 1, 2, 5, 6, 7, 8, 0, 0, 0, 9}},
		{api.Msg{Kind: api.Report, Key: api.Key{Group: group}},
			[]byte{36, 0, 0xF9, 0xFA, 0, 0, 0, 0, 224, 1, 2, 3, 0, 0}},
		{api.Msg{Kind: api.Report, Key: api.Key{Group: group}, Only: true},
			[]byte{36, 0, 0xF8, 0xFA, 0, 0, 0, 0, 224, 1, 2, 3, 1, 0}},
		// Sources in no order, one of them twice, one of them 0.
		{api.Msg{Kind: api.Report, From: 1, Key: api.Key{Group: group}, Sources: []api.Addr{7, 0, last, 7}},
			[]byte{36, 0, 0xF9, 0xE7, 0, 0, 0, 1, 224, 1, 2, 3, 0, 4, 0, 0, 0, 7, 0, 0, 0, 0, 255, 255, 255, 255, 0, 0, 0, 7}},
		{api.Msg{Kind: api.Query, From: 0x01020304, Key: api.Key{Group: group}},
			[]byte{37, 0, 0xF4, 0xF4, 1, 2, 3, 4, 224, 1, 2, 3}},
		// The rest adds up to 65,535, so that the sum is 0.
		{api.Msg{Kind: api.Hello, Rank: 0xDEFF},
			[]byte{33, 0, 0, 0, 0, 0, 0, 0, 0xDE, 0xFF}},
	}
}

// ordinary is a message of a kind in which each field that the kind has is another number, and none is its zero value.
func ordinary(kind int) api.Msg {
	m := api.Msg{Kind: kind, From: 0x0A000001}
	switch kind {
	case api.Hello:
		m.Rank = 258
	case api.Join:
		m.To, m.Key = 0x0A000002, api.Key{Source: 0x0A000103, Group: group}
	case api.Assert:
		m.Key, m.Cost = api.Key{Source: 0x0A000103, Group: group}, 259
	case api.Report:
		m.Key.Group, m.Only, m.Sources = group, true, []api.Addr{0x0A000103, 0x0A000104}
	case api.Query:
		m.Key.Group = group
	}
	return m
}

// kinds are all kinds.
func kinds() []int {
	return []int{api.Hello, api.Join, api.Assert, api.Report, api.Query}
}

// keyed are the kinds that have a key.
func keyed() []int {
	return kinds()[1:]
}

// rest adds the bytes by two up, less 65,535 wherever it can be taken off: it is 0 just where the sum holds, or all is 0.
func rest(b []byte) int {
	total := 0
	for i, n := range b {
		total += int(n) << (8 * ((i + 1) % 2))
		total %= 65535
	}
	return total
}

// holds tells whether the sum of the bytes holds.
func holds(b []byte) bool {
	return rest(b) == 0 && slices.ContainsFunc(b, func(n byte) bool { return n != 0 })
}

// summed is the bytes with their sum at 2.
func summed(b []byte) []byte {
	out := bytes.Clone(b)
	out[2], out[3] = 0, 0
	binary.BigEndian.PutUint16(out[2:], uint16(65535-rest(out)))
	if rest(out[:2])+rest(out[4:]) == 65535 {
		binary.BigEndian.PutUint16(out[2:], 0)
	}
	return out
}

// expected are a valid message's bytes, put together in another way.
func expected(m api.Msg) []byte {
	long := binary.BigEndian.AppendUint32
	b := long([]byte{byte(32 + m.Kind), 0, 0, 0}, uint32(m.From))
	if m.Kind == api.Join {
		b = long(b, uint32(m.To))
	}
	if m.Kind == api.Join || m.Kind == api.Assert {
		b = long(b, uint32(m.Key.Source))
	}
	if m.Kind != api.Hello {
		b = long(b, uint32(m.Key.Group))
	}
	if m.Kind == api.Hello || m.Kind == api.Assert {
		b = binary.BigEndian.AppendUint16(b, uint16(m.Rank+m.Cost))
	}
	if m.Kind == api.Report {
		only := map[bool]byte{true: 1}[m.Only]
		b = append(b, only, byte(len(m.Sources)))
		for _, s := range m.Sources {
			b = long(b, uint32(s))
		}
	}
	return summed(b)
}

// equal tells whether two messages are the same, asked another way than Same is.
func equal(a, b api.Msg) bool {
	return string(appendAll(nil, a)) == string(appendAll(nil, b))
}

// appendAll writes each field of a message, valid or not, behind b.
func appendAll(b []byte, m api.Msg) []byte {
	for _, n := range []int{m.Kind, m.Rank, m.Cost, int(m.From), int(m.To), int(m.Key.Source), int(m.Key.Group), len(m.Sources)} {
		b = binary.BigEndian.AppendUint64(b, uint64(n))
	}
	if m.Only {
		b = append(b, 1)
	}
	for _, s := range m.Sources {
		b = binary.BigEndian.AppendUint32(b, uint32(s))
	}
	return b
}

// zero tells whether a message has no field that is not its zero value.
func zero(m api.Msg) bool {
	return equal(m, api.Msg{})
}

// right fails where a valid message is not taken as one, or does not become its bytes and itself again.
func right(t *testing.T, m api.Msg) {
	t.Helper()
	if err := wire.Valid(m); err != nil {
		t.Errorf("Valid(%v) = %v", m, err)
	}
	want := expected(m)
	b, err := wire.Bytes(m)
	if !bytes.Equal(b, want) || err != nil {
		t.Errorf("Bytes(%v) = %v, %v, not %v", m, b, err, want)
	}
	got, err := wire.Read(want)
	if !equal(got, m) || err != nil {
		t.Errorf("Read(%v) = %v, %v, not %v", want, got, err, m)
	}
	if !wire.Same(got, m) || !wire.Same(m, got) {
		t.Errorf("Same(%v, %v) is false", got, m)
	}
}

// wrong fails where Valid or Bytes of a message does not tell that error, or Bytes answers anything beside it.
func wrong(t *testing.T, m api.Msg, want error) {
	t.Helper()
	if err := wire.Valid(m); err != want {
		t.Errorf("Valid(%v) = %v, not %v", m, err, want)
	}
	if b, err := wire.Bytes(m); len(b) != 0 || err != want {
		t.Errorf("Bytes(%v) = %v, %v, not %v", m, b, err, want)
	}
}

// unread fails where Read of the bytes does not tell that error, or answers anything beside it.
func unread(t *testing.T, b []byte, want error) {
	t.Helper()
	if m, err := wire.Read(b); !zero(m) || err != want {
		t.Errorf("Read(%v) = %v, %v, not %v", b, m, err, want)
	}
}

// P4.1, P4.2: messages written out, both ways.
func TestWritten(t *testing.T) {
	for _, c := range written() {
		if b, err := wire.Bytes(c.m); !bytes.Equal(b, c.b) || err != nil {
			t.Errorf("Bytes(%v) = %v, %v, not %v", c.m, b, err, c.b)
		}
		if m, err := wire.Read(c.b); !equal(m, c.m) || err != nil {
			t.Errorf("Read(%v) = %v, %v, not %v", c.b, m, err, c.m)
		}
		right(t, c.m)
	}
}

// P4.2: how many bytes each kind has.
func TestLengths(t *testing.T) {
	lengths := []int{10, 20, 18, 22, 12}
	for i, kind := range kinds() {
		if b, err := wire.Bytes(ordinary(kind)); len(b) != lengths[i] || err != nil {
			t.Errorf("kind %d: %d bytes, %v", kind, len(b), err)
		}
	}
	for n := range api.MaxListed + 1 {
		m := api.Msg{Kind: api.Report, Key: api.Key{Group: group}, Sources: make([]api.Addr, n)}
		if b, err := wire.Bytes(m); len(b) != 14+4*n || err != nil {
			t.Errorf("%d sources: %d bytes, %v", n, len(b), err)
		}
	}
}

// P4.1: each kind, and what lies beside the first and the last.
func TestKinds(t *testing.T) {
	for _, kind := range kinds() {
		right(t, ordinary(kind))
	}
	for _, kind := range []int{api.Hello - 1, api.Query + 1, -1, -31, 7, 32, 33, 256 + api.Hello, api.Hello - 256, 1<<32 + api.Join, math.MinInt, math.MaxInt} {
		wrong(t, api.Msg{Kind: kind}, api.ErrKind)
		m := ordinary(api.Query)
		m.Kind = kind
		wrong(t, m, api.ErrKind)
	}
}

// P4.1: none, MaxListed and one more Sources; what they are is of no weight.
func TestHowManySources(t *testing.T) {
	for n := range 3 * api.MaxListed {
		for _, s := range []api.Addr{0, 1, 0x0A000001, group, last} {
			m := ordinary(api.Report)
			m.Sources = slices.Repeat([]api.Addr{s}, n)
			if n > api.MaxListed {
				wrong(t, m, api.ErrMany)
				continue
			}
			right(t, m)
			m.Only = false
			right(t, m)
		}
	}
	m := ordinary(api.Report)
	m.Sources = make([]api.Addr, 256+1)
	wrong(t, m, api.ErrMany)
}

// P4.1, P0.4: no Sources, as nil and as the empty list, in a report and in what has none.
func TestEmptyList(t *testing.T) {
	for _, kind := range kinds() {
		m := ordinary(kind)
		m.Sources = nil
		n := m
		n.Sources = []api.Addr{}
		right(t, m)
		right(t, n)
		if !wire.Same(m, n) || !wire.Same(n, m) {
			t.Errorf("kind %d: nil and the empty list are not the same", kind)
		}
	}
}

// numbers are numbers out of their range, also such as would be in it, were they cut to 16 or 32 bits.
func numbers() []int {
	return []int{-1, -2, -65535, -65536, -65535 - 65536, api.MaxCost + 1, api.MaxCost + 2, 65536 + 258, 1 << 17, math.MinInt32, math.MaxInt32, 1<<32 + 258, -(1 << 32) + 258, math.MinInt, math.MaxInt}
}

// P4.1: a Rank and a Cost from 0 to MaxCost, and others.
func TestRankAndCost(t *testing.T) {
	for n := range api.MaxCost + 1 {
		m := ordinary(api.Hello)
		m.Rank = n
		right(t, m)
		m = ordinary(api.Assert)
		m.Cost = n
		right(t, m)
	}
	for _, n := range numbers() {
		for _, kind := range kinds() {
			m := ordinary(kind)
			m.Rank = n
			wrong(t, m, api.ErrRange)
			m = ordinary(kind)
			m.Cost = n
			wrong(t, m, api.ErrRange)
		}
	}
}

// P4.1: the first and the last group, and what lies beside them.
func TestGroups(t *testing.T) {
	for _, kind := range keyed() {
		for _, a := range []api.Addr{firstGroup, firstGroup + 1, 0xE0FFFFFF, 0xE1000000, 0xE8000000, lastGroup - 1, lastGroup} {
			m := ordinary(kind)
			m.Key.Group = a
			right(t, m)
		}
		for _, a := range []api.Addr{0, 1, 0x0A000001, 0x60000000, 0xD0000000, firstGroup - 1, lastGroup + 1, 0xF0000001, last} {
			m := ordinary(kind)
			m.Key.Group = a
			wrong(t, m, api.ErrRange)
			unread(t, expected(m), api.ErrRange)
		}
	}
}

// P4.1: each byte in each place of From, and of To and Source where there is one.
func TestEachAddressByte(t *testing.T) {
	for n := range 256 {
		for shift := 0; shift < 32; shift += 8 {
			a := api.Addr(n) << shift
			for _, kind := range kinds() {
				m := ordinary(kind)
				m.From = a
				right(t, m)
			}
			right(t, api.Msg{Kind: api.Join, From: 1, To: a, Key: api.Key{Source: ^a, Group: group}})
			right(t, api.Msg{Kind: api.Assert, From: ^a, Key: api.Key{Source: a, Group: group}, Cost: n})
			right(t, api.Msg{Kind: api.Report, Key: api.Key{Group: group}, Sources: []api.Addr{a, ^a, a + 1, ^a + 1}})
		}
	}
}

// field is a field of a message: which kinds have it, and values that it takes which are not its zero value.
type field struct {
	name  string
	kinds []int
	sets  []func(m *api.Msg)
}

// fields are all fields but Kind.
func fields() []field {
	type set = func(m *api.Msg)
	return []field{
		{"From", kinds(), []set{func(m *api.Msg) { m.From = 1 }, func(m *api.Msg) { m.From = last }}},
		{"To", []int{api.Join}, []set{func(m *api.Msg) { m.To = 1 }, func(m *api.Msg) { m.To = last }}},
		{"Source", []int{api.Join, api.Assert}, []set{func(m *api.Msg) { m.Key.Source = 1 }, func(m *api.Msg) { m.Key.Source = last }}},
		{"Group", keyed(), []set{func(m *api.Msg) { m.Key.Group = firstGroup }, func(m *api.Msg) { m.Key.Group = lastGroup }}},
		{"Rank", []int{api.Hello}, []set{func(m *api.Msg) { m.Rank = 1 }, func(m *api.Msg) { m.Rank = api.MaxCost }}},
		{"Cost", []int{api.Assert}, []set{func(m *api.Msg) { m.Cost = 1 }, func(m *api.Msg) { m.Cost = api.MaxCost }}},
		{"Only", []int{api.Report}, []set{func(m *api.Msg) { m.Only = true }}},
		{"Sources", []int{api.Report}, []set{func(m *api.Msg) { m.Sources = []api.Addr{0} }, func(m *api.Msg) { m.Sources = []api.Addr{1, 2, 3, 4} }}},
	}
}

// P4.1: a field is taken in the kinds that have it, and in no other, whatever its value.
func TestFieldsOfKinds(t *testing.T) {
	for _, kind := range kinds() {
		for _, f := range fields() {
			for _, set := range f.sets {
				m := ordinary(kind)
				set(&m)
				if slices.Contains(f.kinds, kind) {
					right(t, m)
				} else {
					wrong(t, m, api.ErrRange)
				}
			}
		}
	}
	wrong(t, api.Msg{Kind: api.Hello, Key: api.Key{Group: 1}}, api.ErrRange)
}

// P4.1, P0.2: of several errors the first is told: the kind, the many, the range.
func TestValidFirstError(t *testing.T) {
	many := make([]api.Addr, api.MaxListed+1)
	for _, kind := range kinds() {
		m := ordinary(kind)
		m.Sources = many
		wrong(t, m, api.ErrMany)
		m.Rank, m.Cost, m.Key.Group = -1, -1, 1
		wrong(t, m, api.ErrMany)
		m.Sources = nil
		wrong(t, m, api.ErrRange)
	}
	for _, kind := range []int{api.Hello - 1, api.Query + 1} {
		wrong(t, api.Msg{Kind: kind, Sources: many}, api.ErrKind)
		wrong(t, api.Msg{Kind: kind, Rank: -1, Cost: 65536, Sources: many}, api.ErrKind)
		wrong(t, api.Msg{Kind: kind, Rank: -1}, api.ErrKind)
	}
}

// P4.2: fewer than 4 bytes end too early, whatever they are, and whatever memory is behind them.
func TestShortHead(t *testing.T) {
	unread(t, nil, api.ErrEnd)
	for n := range 4 {
		for _, c := range written() {
			unread(t, c.b[:n], api.ErrEnd)
			unread(t, bytes.Clone(c.b[:n]), api.ErrEnd)
		}
		unread(t, make([]byte, n), api.ErrEnd)
		unread(t, bytes.Repeat([]byte{255}, n), api.ErrEnd)
	}
}

// P4.2: each length from 4 bytes up to a whole message, and bytes behind it, each with a sum that holds.
func TestLengthsOff(t *testing.T) {
	for _, c := range written() {
		for n := 4; n < len(c.b); n++ {
			unread(t, summed(c.b[:n]), api.ErrEnd)
		}
		for _, n := range []int{1, 2, 3, 4, 8, 20, 1000, 70000} {
			for _, behind := range []byte{0, 1, 255} {
				unread(t, summed(append(bytes.Clone(c.b), bytes.Repeat([]byte{behind}, n)...)), api.ErrShape)
			}
		}
	}
}

// P4.2: each bit turned of a message is told by the sum.
func TestEachBitTurned(t *testing.T) {
	for _, c := range written() {
		for bit := range 8 * len(c.b) {
			b := bytes.Clone(c.b)
			b[bit/8] ^= 1 << (bit % 8)
			unread(t, b, api.ErrSum)
		}
	}
}

// P4.2: each other sum than the one that holds is told, but 65,535 where 0 holds.
func TestEachSum(t *testing.T) {
	for _, kind := range kinds() {
		want := expected(ordinary(kind))
		for n := range 1 << 16 {
			b := bytes.Clone(want)
			binary.BigEndian.PutUint16(b[2:], uint16(n))
			if !bytes.Equal(b, want) {
				unread(t, b, api.ErrSum)
			}
		}
	}
	b := []byte{33, 0, 255, 255, 0, 0, 0, 0, 0xDE, 0xFF}
	if m, err := wire.Read(b); !equal(m, api.Msg{Kind: api.Hello, Rank: 0xDEFF}) || err != nil {
		t.Errorf("Read(%v) = %v, %v", b, m, err)
	}
}

// P4.2: a second byte that is not 0 is told, in messages of each kind.
func TestSecondByte(t *testing.T) {
	for _, c := range written() {
		for n := 1; n < 256; n++ {
			b := bytes.Clone(c.b)
			b[1] = byte(n)
			unread(t, summed(b), api.ErrShape)
		}
	}
}

// P4.2: a first byte that tells no kind is told, however many bytes there are.
func TestFirstByte(t *testing.T) {
	for n := range 256 {
		if n >= 33 && n <= 37 {
			continue
		}
		for _, length := range []int{4, 5, 10, 12, 14, 18, 20, 30, 31} {
			b := make([]byte, length)
			b[0] = byte(n)
			b[length-1] = 1
			unread(t, summed(b), api.ErrKind)
		}
		for _, c := range written() {
			b := bytes.Clone(c.b)
			b[0] = byte(n)
			unread(t, summed(b), api.ErrKind)
		}
	}
}

// report is a report's bytes with that Only, that number of Sources told, and so many bytes of them there.
func report(only, told byte, there int) []byte {
	b := []byte{36, 0, 0, 0, 10, 0, 0, 1, 224, 0, 0, 1, only, told}
	return summed(append(b, bytes.Repeat([]byte{7}, there)...))
}

// P4.2: an Only of 0 or 1 is read, another one is told.
func TestOnly(t *testing.T) {
	for only := range 256 {
		for told := range api.MaxListed + 1 {
			b := report(byte(only), byte(told), 4*told)
			if only > 1 {
				unread(t, b, api.ErrShape)
				continue
			}
			m, err := wire.Read(b)
			if m.Only != (only == 1) || len(m.Sources) != told || err != nil {
				t.Errorf("Read(%v) = %v, %v", b, m, err)
			}
		}
	}
}

// P4.2: more Sources told than MaxListed are too many where just so many are there; fewer end too early; others are behind.
func TestSourcesTold(t *testing.T) {
	for told := range 256 {
		b := report(0, byte(told), 4*told)
		if told > api.MaxListed {
			unread(t, b, api.ErrMany)
		} else if m, err := wire.Read(b); len(m.Sources) != told || err != nil {
			t.Errorf("Read(%v) = %v, %v", b, m, err)
		}
		for less := 1; less <= min(9, 4*told); less++ {
			unread(t, report(0, byte(told), 4*told-less), api.ErrEnd)
			unread(t, report(2, byte(told), 4*told-less), api.ErrEnd)
		}
		for more := 1; more < 9; more++ {
			unread(t, report(0, byte(told), 4*told+more), api.ErrShape)
		}
	}
}

// P4.2, P0.2: of several errors the first is told: the end of the head, the sum, the second byte, the kind, the end, what is behind or Only, the many, the group.
func TestReadFirstError(t *testing.T) {
	b := report(0, 5, 20)
	b[8] = 10
	unread(t, summed(b), api.ErrMany)
	b[12] = 2
	unread(t, summed(b), api.ErrShape)
	unread(t, summed(b[:33]), api.ErrEnd)
	unread(t, summed(append(bytes.Clone(b), 1)), api.ErrShape)
	b[0] = 38
	unread(t, summed(b), api.ErrKind)
	unread(t, summed(b[:5]), api.ErrKind)
	b[1] = 1
	unread(t, summed(b), api.ErrShape)
	unread(t, summed(b[:4]), api.ErrShape)
	b = summed(b)
	b[3] ^= 1
	unread(t, b, api.ErrSum)
	unread(t, b[:4], api.ErrSum)
	unread(t, b[:3], api.ErrEnd)
	b = report(2, 0, 0)
	b[8] = 10
	unread(t, summed(b), api.ErrShape)
	b[12] = 1
	unread(t, summed(append(b, 0)), api.ErrShape)
	unread(t, summed(b), api.ErrRange)
	unread(t, summed(b[:13]), api.ErrEnd)
	unread(t, make([]byte, 4), api.ErrSum)
	unread(t, make([]byte, 20), api.ErrSum)
}

// P4.2: Same asks each field, of messages valid or not.
func TestSame(t *testing.T) {
	for _, kind := range append(kinds(), 0, -1, 6) {
		m := ordinary(kind)
		n := ordinary(kind)
		if !wire.Same(m, n) {
			t.Errorf("%v is not the same as itself", m)
		}
		for _, f := range fields() {
			for i, set := range f.sets {
				x := ordinary(kind)
				set(&x)
				if wire.Same(m, x) != equal(m, x) || wire.Same(x, m) != equal(m, x) {
					t.Errorf("kind %d: %s, its value %d: %v", kind, f.name, i, wire.Same(m, x))
				}
			}
		}
		n.Kind++
		if wire.Same(m, n) || wire.Same(n, m) {
			t.Errorf("another kind is the same: %v, %v", m, n)
		}
	}
	for i, a := range written() {
		for j, b := range written() {
			if wire.Same(a.m, b.m) != (i == j) {
				t.Errorf("Same(%v, %v) is %v", a.m, b.m, i != j)
			}
		}
	}
}

// P4.2: each bit of a number and of an address makes another message.
func TestSameEachBit(t *testing.T) {
	for bit := range 64 {
		for _, n := range []api.Msg{{Kind: 1 << bit}, {Rank: 1 << bit}, {Cost: 1 << bit}} {
			if wire.Same(n, api.Msg{}) || wire.Same(api.Msg{}, n) || !wire.Same(n, n) {
				t.Errorf("Same of %v", n)
			}
		}
	}
	for bit := range 32 {
		a := api.Addr(1) << bit
		for _, n := range []api.Msg{{From: a}, {To: a}, {Key: api.Key{Source: a}}, {Key: api.Key{Group: a}}, {Sources: []api.Addr{a}}} {
			if wire.Same(n, api.Msg{Sources: make([]api.Addr, len(n.Sources))}) || wire.Same(n, api.Msg{}) || !wire.Same(n, n) {
				t.Errorf("Same of %v", n)
			}
		}
	}
}

// P4.2: Sources are the same in the same order, and as many.
func TestSameSources(t *testing.T) {
	lists := [][]api.Addr{nil, {0}, {0, 0}, {1}, {1, 2}, {2, 1}, {1, 1, 2}, {1, 2, 2}, {1, 2, 3, 4}, {1, 2, 3, 4, 5}, {1, 2, 3, 4, 6}}
	for i, l := range lists {
		for j, k := range lists {
			a := api.Msg{Kind: api.Report, Sources: l}
			b := api.Msg{Kind: api.Report, Sources: slices.Clone(k)}
			if wire.Same(a, b) != (i == j) {
				t.Errorf("Same(%v, %v) is %v", a, b, i != j)
			}
		}
	}
}

// P0.4: what is handed to Read stays as it was, with what lies behind its length, on which no answer hangs.
func TestBytesHandedInStay(t *testing.T) {
	ins := [][]byte{nil, {33, 0, 0}, {33, 0, 0, 0}, report(1, 4, 16), report(2, 1, 4), report(0, 5, 20), report(0, 4, 3)}
	for _, c := range written() {
		ins = append(ins, c.b, summed(c.b[:len(c.b)-1]), summed(append(bytes.Clone(c.b), 0)))
	}
	for _, b := range ins {
		want, wantErr := wire.Read(bytes.Clone(b))
		for _, behind := range []byte{0, 170, 255} {
			memory := append(bytes.Clone(b), bytes.Repeat([]byte{behind}, 40)...)
			before := bytes.Clone(memory)
			if m, err := wire.Read(memory[:len(b)]); !equal(m, want) || err != wantErr {
				t.Errorf("Read(%v) = %v, %v with %d behind", b, m, err, behind)
			}
			if !bytes.Equal(memory, before) {
				t.Errorf("%v became %v", before, memory)
			}
		}
	}
}

// P0.4: what is handed to Valid, Bytes and Same stays as it was, with what lies behind its length, on which no answer hangs.
func TestSourcesHandedInStay(t *testing.T) {
	for n := range api.MaxListed + 2 {
		for _, behind := range []api.Addr{0, 9, last} {
			memory := []api.Addr{8, 7, 6, 5, 4, 3, 2, 1}
			for i := n; i < len(memory); i++ {
				memory[i] = behind
			}
			before := slices.Clone(memory)
			m := api.Msg{Kind: api.Report, Key: api.Key{Group: group}, Sources: memory[:n]}
			kept := api.Msg{Kind: api.Report, Key: api.Key{Group: group}, Sources: slices.Clone(memory[:n])}
			if n > api.MaxListed {
				wrong(t, m, api.ErrMany)
			} else {
				right(t, m)
			}
			if !wire.Same(m, kept) || !equal(m, kept) || !slices.Equal(memory, before) {
				t.Errorf("%v became %v", before, memory)
			}
		}
	}
}

// spoilBytes turns all bits of a list, its spare room too.
func spoilBytes(b []byte) {
	b = b[:cap(b)]
	for i := range b {
		b[i] ^= 255
	}
}

// spoilAddrs turns all bits of a list, its spare room too.
func spoilAddrs(l []api.Addr) {
	l = l[:cap(l)]
	for i := range l {
		l[i] ^= last
	}
}

// P0.4: what Bytes answers is new memory, its spare room too.
func TestBytesNewMemory(t *testing.T) {
	for _, c := range written() {
		m := c.m
		m.Sources = slices.Clone(c.m.Sources)
		first, _ := wire.Bytes(m)
		second, _ := wire.Bytes(m)
		spoilBytes(first)
		third, _ := wire.Bytes(m)
		spoilAddrs(m.Sources)
		if !bytes.Equal(second, c.b) || !bytes.Equal(third, c.b) {
			t.Errorf("Bytes of %v shares its memory: %v, %v", c.m, second, third)
		}
		spoilAddrs(m.Sources)
		if !equal(m, c.m) {
			t.Errorf("%v became %v", c.m, m)
		}
	}
}

// P0.4: what Read answers is new memory, its spare room too.
func TestReadNewMemory(t *testing.T) {
	for _, c := range written() {
		b := append(bytes.Clone(c.b), make([]byte, 64)...)
		before := bytes.Clone(b)
		first, _ := wire.Read(b[:len(c.b)])
		second, _ := wire.Read(b[:len(c.b)])
		spoilAddrs(first.Sources)
		third, _ := wire.Read(b[:len(c.b)])
		if !bytes.Equal(b, before) {
			t.Errorf("%v became %v", before, b)
		}
		spoilBytes(b)
		if !equal(second, c.m) || !equal(third, c.m) {
			t.Errorf("Read of %v shares its memory: %v, %v", c.b, second, third)
		}
	}
}

// size is how many bytes a kind has; of a report as many as these bytes tell.
func size(kind int, b []byte) int {
	if kind == api.Report && len(b) > 13 {
		return 14 + 4*int(b[13])
	}
	return []int{10, 20, 18, 14, 12}[kind-1]
}

// told is the error that the chapter names first for these bytes, or none.
func told(b []byte) error {
	switch {
	case len(b) < 4:
		return api.ErrEnd
	case !holds(b):
		return api.ErrSum
	case b[1] != 0:
		return api.ErrShape
	case b[0] < 33 || b[0] > 37:
		return api.ErrKind
	}
	kind := int(b[0]) - 32
	groupAt := []int{0, 16, 12, 8, 8}[kind-1]
	switch {
	case len(b) < size(kind, b):
		return api.ErrEnd
	case len(b) > size(kind, b) || kind == api.Report && b[12] > 1:
		return api.ErrShape
	case kind == api.Report && b[13] > 4:
		return api.ErrMany
	case kind != api.Hello && b[groupAt]>>4 != 14:
		return api.ErrRange
	}
	return nil
}

// shapes are the bytes as they are, with a sum that holds, and as messages of each kind, as long as they have to be where they are long enough.
func shapes(b []byte) [][]byte {
	out := [][]byte{b}
	if len(b) < 4 {
		return out
	}
	out = append(out, summed(b))
	for _, kind := range kinds() {
		c := bytes.Clone(b)
		c[0], c[1] = byte(32+kind), 0
		out = append(out, summed(c), summed(c[:min(len(c), size(kind, c))]))
		if kind == api.Report && len(c) > 13 {
			c[8], c[12], c[13] = (c[8]|0xE0)&0xEF, c[12]&1, c[13]%6
			out = append(out, summed(c), summed(c[:min(len(c), size(kind, c))]))
		}
	}
	return out
}

// P4.2: whatever the bytes, as they are and made a little better.
func FuzzRead(f *testing.F) {
	f.Add([]byte{})
	f.Add(make([]byte, 40))
	f.Add(report(1, 5, 20))
	f.Add(report(2, 4, 16))
	for _, c := range written() {
		f.Add(c.b)
	}
	f.Fuzz(func(t *testing.T, b []byte) {
		for _, in := range shapes(b) {
			if want := told(in); want != nil {
				unread(t, in, want)
				continue
			}
			m, err := wire.Read(in)
			// Of the same 16 bits 0 and 65,535 are the same sum.
			if err != nil || !bytes.Equal(expected(m), summed(in)) {
				t.Errorf("Read(%v) = %v, %v", in, m, err)
			}
			right(t, m)
		}
	})
}

// ruled is the error that the chapter names first for a message, or none.
func ruled(m api.Msg) error {
	if m.Kind < 1 || m.Kind > 5 {
		return api.ErrKind
	}
	if len(m.Sources) > 4 {
		return api.ErrMany
	}
	is := func(l ...int) bool { return slices.Contains(l, m.Kind) }
	for _, fault := range []bool{
		m.Rank < 0 || m.Rank > 65535,
		m.Cost < 0 || m.Cost > 65535,
		m.Kind != api.Hello && m.Key.Group>>28 != 14,
		m.Kind == api.Hello && m.Key.Group != 0,
		!is(api.Hello) && m.Rank != 0,
		!is(api.Join) && m.To != 0,
		!is(api.Join, api.Assert) && m.Key.Source != 0,
		!is(api.Assert) && m.Cost != 0,
		!is(api.Report) && (m.Only || len(m.Sources) > 0),
	} {
		if fault {
			return api.ErrRange
		}
	}
	return nil
}

// P4.1: whatever the message: it is valid and becomes its bytes, or its error is told.
func FuzzMessage(f *testing.F) {
	f.Add(1, uint32(1), uint32(0), uint32(0), uint32(0), 65535, 0, false, []byte{})
	f.Add(2, uint32(1), uint32(2), uint32(3), uint32(group), 0, 0, false, []byte{})
	f.Add(3, uint32(1), uint32(0), uint32(3), uint32(group), 0, 65536, false, []byte{})
	f.Add(4, uint32(1), uint32(0), uint32(0), uint32(group), 0, 0, true, []byte{1, 2, 3})
	f.Add(5, uint32(1), uint32(0), uint32(0), uint32(group), 0, 0, false, []byte{1})
	f.Fuzz(func(t *testing.T, kind int, from, to, source, g uint32, rank, cost int, only bool, sources []byte) {
		m := api.Msg{Kind: kind, From: api.Addr(from), To: api.Addr(to), Key: api.Key{Source: api.Addr(source), Group: api.Addr(g)}, Rank: rank, Cost: cost, Only: only}
		for i, n := range sources {
			m.Sources = append(m.Sources, api.Addr(n)<<(8*(i%4)))
		}
		if err := ruled(m); err != nil {
			wrong(t, m, err)
			return
		}
		right(t, m)
	})
}
