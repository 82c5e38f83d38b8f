package conf_test

import (
	"bytes"
	"math"
	"math/rand"
	"reflect"
	"slices"
	"strings"
	"testing"
	"unsafe"

	"rivulet/api"
	"rivulet/conf"
)

// again fails where a valid network, printed and read again, is not the same.
func again(t *testing.T, c api.Config) {
	t.Helper()
	s := conf.Text(c)
	got, err := conf.Parse(s)
	if err != nil || told(got) != told(c) || !conf.Same(got, c) || conf.Text(got) != s {
		t.Errorf("Parse(%.200q) = %.300s, %v, not %.300s", s, told(got), err, told(c))
	}
}

// P6.3: a network's lines, written out.
func TestText(t *testing.T) {
	if got := conf.Text(small()); got != smallText {
		t.Errorf("%q", got)
	}
	if got := conf.Text(api.Config{}); got != "" {
		t.Errorf("of an empty network: %q", got)
	}
	for l, want := range map[list]string{routers: "router more 0\n", links: "link more 9.0.0.0/8\n", ranges: "root 233.0.0.0/8 0.0.0.1\n"} {
		var c api.Config
		l.longer(&c)
		if got := conf.Text(c); got != want {
			t.Errorf("%v: %q", l, got)
		}
	}
}

// P6.3: a text however it is spaced and mixed is written in the lists' order, one space between words.
func TestTextOfParsed(t *testing.T) {
	const s = "\tlink  l\t10.0.0.0/8 # l\r\nmember l 224.0.0.1 but#\n\n\nroot 224.0.0.0/4   1.1.1.1\nrouter  b  2\nrouter a 1\nmember\rl 224.0.0.1 only 2.2.2.2   1.1.1.1\nsource l 10.0.0.2 224.0.0.1\nsource l 10.0.0.1 224.0.0.1\nroute a 0.0.0.0/0 1.1.1.1 0\nport a l 10.0.0.4\nport b l 10.0.0.3"
	const want = "router b 2\nrouter a 1\nlink l 10.0.0.0/8\nport a l 10.0.0.4\nport b l 10.0.0.3\nroute a 0.0.0.0/0 1.1.1.1 0\nroot 224.0.0.0/4 1.1.1.1\nsource l 10.0.0.2 224.0.0.1\nsource l 10.0.0.1 224.0.0.1\nmember l 224.0.0.1 but\nmember l 224.0.0.1 only 2.2.2.2 1.1.1.1\n"
	c, err := conf.Parse(s)
	if err != nil || conf.Text(c) != want {
		t.Errorf("%q, %v", conf.Text(c), err)
	}
}

// P6.3, P0.8: networks printed and read again, the greatest too: its text is no longer than may be.
func TestTextAgain(t *testing.T) {
	again(t, api.Config{})
	again(t, small())
	again(t, most())
	if n := len(conf.Text(most())); n < 12000 || n > api.MaxText {
		t.Errorf("the greatest network: %d bytes", n)
	}
	for _, l := range allLists() {
		c := most()
		for _, other := range allLists() {
			if other != l && other > links {
				other.cut(&c, 0)
			}
		}
		again(t, c)
		if n := strings.Count(conf.Text(c), "\n"); n != len(c.Routers)+len(c.Links)+lengths(c)[l] && l > links {
			t.Errorf("%v: %d lines", l, n)
		}
	}
}

// What is written of a network that is not valid the document leaves open: nothing is.
func TestTextOfInvalid(t *testing.T) {
	for _, l := range allLists() {
		for _, s := range l.spoilers() {
			c := most()
			s.put(&c, 1)
			if got := conf.Text(c); got != "" {
				t.Errorf("%v: %s: %.80q", l, s.what, got)
			}
		}
		c := most()
		l.longer(&c)
		if got := conf.Text(c); got != "" {
			t.Errorf("%v: one more: %.80q", l, got)
		}
	}
}

// strangeNet is a network that is wrong everywhere, its lists longer than may be.
func strangeNet() api.Config {
	c := api.Config{
		Routers: []api.Router{{Name: "", Rank: -1}, {Name: "\xff\n#", Rank: math.MinInt}, {Name: strings.Repeat("x", 100), Rank: math.MaxInt}},
		Links:   []api.Link{{Name: "L l", Prefix: api.Prefix{Addr: 0xffffffff, Bits: -5}}, {Prefix: api.Prefix{Addr: 1, Bits: math.MaxInt}}},
		Ports:   []api.Port{{Router: -1, Link: 9, Addr: 0}, {Router: math.MaxInt, Link: math.MinInt, Addr: 0xe0000000}},
		Routes:  []api.Route{{Router: 7, To: api.Prefix{Addr: 3, Bits: 40}, Via: 0xe0000001, Cost: -9}, {Router: -7, Cost: math.MaxInt}},
		Ranges:  []api.Range{{Groups: api.Prefix{Addr: 5, Bits: 99}}, {Root: 0xe0000000}},
		Sources: []api.Source{{Link: 3}, {Link: -3, Key: api.Key{Source: 0xe0000000, Group: 1}}},
		Members: []api.Member{{Link: 8, Sources: []api.Addr{0, 0, 0xe0000000, 1, 2, 3, 4, 5}}, {Link: -8, Only: true}, {Group: 1, Sources: make5000()}},
	}
	for range 100 {
		for _, l := range allLists() {
			l.longer(&c)
		}
	}
	return c
}

// nets are networks, valid ones and others, each time in new memory.
func nets() []api.Config {
	return []api.Config{{}, small(), most(), strangeNet()}
}

// same fails where Same, either way round, tells something else.
func same(t *testing.T, a, b api.Config, want bool, what string) {
	t.Helper()
	if conf.Same(a, b) != want || conf.Same(b, a) != want {
		t.Errorf("%s: Same is not %v, of %.300s and %.300s", what, want, told(a), told(b))
	}
}

// P6.3: any network is the same as one with the same lists.
func TestSame(t *testing.T) {
	for i := range nets() {
		for j := range nets() {
			same(t, nets()[i], nets()[j], i == j, "networks")
		}
	}
}

// fields goes through all that a network holds (numbers, texts, truths), each by how to change it.
func fields(v reflect.Value, path string, each func(path string, v reflect.Value)) {
	switch v.Kind() {
	case reflect.Struct:
		for i := range v.NumField() {
			fields(v.Field(i), path+"."+v.Type().Field(i).Name, each)
		}
	case reflect.Slice:
		for i := range v.Len() {
			fields(v.Index(i), path, each)
		}
	default:
		each(path, v)
	}
}

// other is another value than there is.
func other(v reflect.Value) reflect.Value {
	w := reflect.New(v.Type()).Elem()
	switch v.Kind() {
	case reflect.String:
		w.SetString(v.String() + "x")
	case reflect.Bool:
		w.SetBool(!v.Bool())
	case reflect.Int:
		w.SetInt(v.Int() ^ 1<<40)
	case reflect.Uint32:
		w.SetUint(v.Uint() ^ 1<<31)
	}
	return w
}

// P6.3: any one field of any item is held against the other's.
func TestSameEachField(t *testing.T) {
	for _, c := range []api.Config{small(), most()} {
		d := conf.Clone(c)
		paths := map[string]int{}
		fields(reflect.ValueOf(&d).Elem(), "", func(path string, v reflect.Value) {
			paths[path]++
			before := reflect.ValueOf(v.Interface())
			v.Set(other(v))
			same(t, c, d, false, path)
			v.Set(before)
			same(t, c, d, true, path)
		})
		if len(paths) != 23 {
			t.Errorf("fields: %v", paths)
		}
	}
}

// lists goes through all lists of a network, its members' sources too.
func lists(c *api.Config, each func(list reflect.Value)) {
	v := reflect.ValueOf(c).Elem()
	for i := range c.Members {
		each(reflect.ValueOf(&c.Members[i].Sources).Elem())
	}
	for i := range v.NumField() {
		each(v.Field(i))
	}
}

// P6.3: a list that is longer or shorter by one, at its end or its head, or in another order, is another one.
func TestSameLists(t *testing.T) {
	for i := range nets() {
		c, d := nets()[i], nets()[i]
		lists(&d, func(list reflect.Value) {
			kept, n := reflect.ValueOf(list.Interface()), list.Len()
			what := list.Type().String()
			more := reflect.Append(reflect.AppendSlice(reflect.MakeSlice(list.Type(), 0, n+1), kept), reflect.Zero(list.Type().Elem()))
			list.Set(more)
			same(t, c, d, false, what+" longer by one")
			if n > 0 {
				list.Set(kept.Slice(0, n-1))
				same(t, c, d, false, what+" without the last")
				list.Set(kept.Slice(1, n))
				same(t, c, d, false, what+" without the first")
				list.Set(reflect.Zero(list.Type()))
				same(t, c, d, false, what+" without any")
			}
			list.Set(kept)
			for j := 1; j < n && n < 200; j++ {
				if reflect.DeepEqual(kept.Index(0).Interface(), kept.Index(j).Interface()) {
					continue
				}
				swap := reflect.Swapper(kept.Interface())
				swap(0, j)
				same(t, c, d, false, what+" in another order")
				swap(0, j)
			}
			same(t, c, d, true, what)
		})
	}
}

// P6.3, P0.4: nil and the empty list are alike, a member's sources too.
func TestSameNilAndEmpty(t *testing.T) {
	empty := api.Config{Routers: []api.Router{}, Links: []api.Link{}, Ports: []api.Port{}, Routes: make([]api.Route, 0, 9), Ranges: []api.Range{}, Sources: []api.Source{}, Members: []api.Member{}}
	same(t, api.Config{}, empty, true, "nil and empty lists")
	same(t, empty, empty, true, "empty lists")
	same(t, empty, conf.Clone(empty), true, "empty lists and their copies")
	same(t, api.Config{}, conf.Clone(api.Config{}), true, "nil lists and their copies")
	if conf.Valid(empty) != nil || conf.Text(empty) != "" {
		t.Errorf("%v, %q", conf.Valid(empty), conf.Text(empty))
	}
	without, with := small(), small()
	for i := range with.Members {
		if len(with.Members[i].Sources) == 0 {
			without.Members[i].Sources, with.Members[i].Sources = nil, make([]api.Addr, 0, 3)
		}
	}
	same(t, without, with, true, "members without sources")
	same(t, without, conf.Clone(with), true, "members without sources, copied")
	if conf.Valid(with) != nil || conf.Text(with) != smallText {
		t.Errorf("%v, %q", conf.Valid(with), conf.Text(with))
	}
}

// P6.3: a copy of any network is the same.
func TestClone(t *testing.T) {
	for _, c := range nets() {
		d := conf.Clone(c)
		if told(d) != told(c) || !conf.Same(c, d) {
			t.Errorf("%.300s, not %.300s", told(d), told(c))
		}
	}
}

// spoil writes into all lists of a network, their spare room too.
func spoil(c api.Config) {
	lists(&c, func(list reflect.Value) { spoilList(list) })
}

// spoilList writes into a list of any kind, its spare room too.
func spoilList(list reflect.Value) {
	for i := range list.Cap() {
		fields(list.Slice(0, list.Cap()).Index(i), "", func(_ string, v reflect.Value) { v.Set(other(v)) })
	}
}

// apart fails where two lists of an answer share memory, their spare room too; make answers the same each time.
func apart(t *testing.T, make func() api.Config) {
	t.Helper()
	c := make()
	count := 0
	lists(&c, func(reflect.Value) { count++ })
	for spoilt := range count {
		c, want := make(), make()
		at := 0
		lists(&c, func(list reflect.Value) {
			if at == spoilt {
				spoilList(list)
				list.Set(reflect.Zero(list.Type()))
			}
			at++
		})
		at = 0
		lists(&want, func(list reflect.Value) {
			if at == spoilt {
				list.Set(reflect.Zero(list.Type()))
			}
			at++
		})
		if told(c) != told(want) {
			t.Errorf("list %d shares its memory: %.300s", spoilt, told(c))
		}
	}
}

// P6.3, P0.4: a copy shares no memory with what it was made of, nor its lists with one another, their spare room too.
func TestCloneMemory(t *testing.T) {
	for i := range nets() {
		c := nets()[i]
		d := conf.Clone(c)
		e := conf.Clone(c)
		spoil(d)
		if told(c) != told(nets()[i]) || told(e) != told(c) {
			t.Errorf("%d: a copy that is written into changes others", i)
		}
		spoil(c)
		if told(e) != told(nets()[i]) {
			t.Errorf("%d: what was copied is written into, and a copy changes", i)
		}
		if i < 2 {
			apart(t, func() api.Config { return conf.Clone(nets()[i]) })
		}
	}
}

// P6.3, P0.4: what is put into a copy's empty lists doesn't come into the room of the lists that were copied.
func TestCloneOfEmptyWithRoom(t *testing.T) {
	c := most()
	for i := range c.Members {
		c.Members[i].Sources = c.Members[i].Sources[:0]
	}
	for _, l := range allLists() {
		l.cut(&c, 0)
	}
	before := whole(c)
	d := conf.Clone(c)
	lists(&d, func(list reflect.Value) {
		list.Set(reflect.Append(list, reflect.Zero(list.Type().Elem())))
		spoilList(list)
	})
	if whole(c) != before {
		t.Errorf("%.300s", whole(c))
	}
	c = most()
	for i := range c.Members {
		c.Members[i].Sources = c.Members[i].Sources[:0]
	}
	before = whole(c)
	d = conf.Clone(c)
	for i := range d.Members {
		d.Members[i].Sources = append(d.Members[i].Sources, 9)
	}
	if whole(c) != before {
		t.Errorf("%.300s", whole(c))
	}
}

// P6.3, P0.4: a copy keeps nothing of the names' memory.
func TestCloneNames(t *testing.T) {
	router, link := []byte("router-1"), []byte("link-1")
	text := func(b []byte) string { return unsafe.String(unsafe.SliceData(b), len(b)) }
	c := api.Config{Routers: []api.Router{{Name: text(router)}}, Links: []api.Link{{Name: text(link), Prefix: api.Prefix{Bits: 8}}}}
	d, s := conf.Clone(c), conf.Text(c)
	router[0], link[0] = 'x', 'x'
	if d.Routers[0].Name != "router-1" || d.Links[0].Name != "link-1" || s != "router router-1 0\nlink link-1 0.0.0.0/8\n" {
		t.Errorf("%s, %q", told(d), s)
	}
}

// roomy is a network with the same lists, and room behind each that is full of items that are not right.
func roomy(c api.Config) api.Config {
	lists(&c, func(list reflect.Value) {
		n := list.Len()
		room := reflect.MakeSlice(list.Type(), n+3, n+3)
		reflect.Copy(room, list)
		for i := range 3 {
			fields(room.Index(n+i), "", func(_ string, v reflect.Value) { v.Set(other(v)) })
		}
		list.Set(room.Slice(0, n))
	})
	return c
}

// whole is a network with all that lies in its lists' room.
func whole(c api.Config) string {
	c.Members = slices.Clone(c.Members[:cap(c.Members)])
	lists(&c, func(list reflect.Value) { list.Set(list.Slice(0, list.Cap())) })
	return told(c)
}

// P0.4: what is handed in stays as it was, and what lies behind a list's end is neither read nor written.
func TestRoomBehindLists(t *testing.T) {
	for i := range nets() {
		c, d := roomy(nets()[i]), roomy(nets()[i])
		before := whole(c)
		valid, text := conf.Valid(nets()[i]), conf.Text(nets()[i])
		if conf.Valid(c) != valid || conf.Text(c) != text {
			t.Errorf("%d: %v, %.80q, not %v, %.80q", i, conf.Valid(c), conf.Text(c), valid, text)
		}
		same(t, c, d, true, "lists with room")
		same(t, c, nets()[i], true, "lists with room and without")
		e := conf.Clone(c)
		if told(e) != told(nets()[i]) {
			t.Errorf("%d: a copy of lists with room: %.300s", i, told(e))
		}
		lists(&e, func(list reflect.Value) {
			for j := list.Len(); j < list.Cap(); j++ {
				if !list.Slice(0, list.Cap()).Index(j).IsZero() {
					t.Errorf("%d: a copy shows what lay behind %v", i, list.Type())
				}
			}
		})
		spoil(e)
		if whole(c) != before || whole(d) != before {
			t.Errorf("%d: what was handed in has changed", i)
		}
	}
}

// P0.4: Valid, Text, Same and Clone change nothing of a network, whatever is wrong with it.
func TestHandedInUnchanged(t *testing.T) {
	for _, l := range allLists() {
		for _, s := range l.spoilers() {
			c := most()
			s.put(&c, 1)
			before := told(c)
			conf.Valid(c)
			conf.Text(c)
			conf.Same(c, most())
			conf.Clone(c)
			if told(c) != before {
				t.Errorf("%v: %s: %.300s", l, s.what, told(c))
			}
		}
	}
}

// pick chooses a number below n.
type pick func(n int) int

// change changes something of a network: a field, or a list's items.
func change(c *api.Config, pick pick) {
	addrs := []api.Addr{0, 1, 0x0a010001, 0x0a010009, 0x0a01ffff, 0x0a020300, 0x0a0203ff, 0xf0000001, 0xf0000009, 0xdfffffff, 0xe0000000, 0xe0000001, 0xe8000007, 0xefffffff, 0xffffffff}
	numbers := []int{0, 1, 2, 3, 4, 5, 8, 16, 24, 31, 32, 33, -1, 65535, 65536, math.MinInt, math.MaxInt}
	names := []string{"a", "b-2", "west", "zzzzzzzzzzzz", "c", "9", "", "abcdefghijklm"}
	var all []reflect.Value
	if pick(3) > 0 {
		fields(reflect.ValueOf(c).Elem(), "", func(_ string, v reflect.Value) { all = append(all, v) })
		if len(all) == 0 {
			return
		}
		switch v := all[pick(len(all))]; v.Kind() {
		case reflect.String:
			v.SetString(names[pick(len(names))])
		case reflect.Bool:
			v.SetBool(!v.Bool())
		case reflect.Int:
			v.SetInt(int64(numbers[pick(len(numbers))]))
		case reflect.Uint32:
			v.SetUint(uint64(addrs[pick(len(addrs))]))
		}
		return
	}
	lists(c, func(list reflect.Value) { all = append(all, list) })
	list := all[pick(len(all))]
	if list.Len() == 0 {
		list.Set(reflect.Append(list, reflect.Zero(list.Type().Elem())))
		return
	}
	i, j := pick(list.Len()), pick(list.Len())
	switch pick(3) {
	case 0:
		reflect.Swapper(list.Interface())(i, j)
	case 1:
		list.Set(reflect.Append(list, list.Index(i)))
	case 2:
		reflect.Swapper(list.Interface())(i, list.Len()-1)
		list.Set(list.Slice(0, list.Len()-1))
	}
}

// holds fails where a promise about a network, and about it and another one, doesn't hold.
func holds(t *testing.T, c, beside api.Config) {
	t.Helper()
	if got, want := conf.Valid(c), wrong(c); got != want {
		t.Errorf("Valid tells %v, not %v, of %s", got, want, told(c))
	} else if got == nil {
		again(t, c)
	}
	same(t, c, beside, told(c) == told(beside), "networks")
	same(t, c, conf.Clone(c), true, "a copy")
}

// P6.2, P6.3: networks with some changes, drawn from a row that is always the same.
func TestChangedNetworks(t *testing.T) {
	drawn := rand.New(rand.NewSource(6))
	count := 0
	for range 20000 {
		c := small()
		for range drawn.Intn(4) {
			change(&c, drawn.Intn)
		}
		if conf.Valid(c) == nil {
			count++
		}
		holds(t, c, small())
	}
	if count < 2000 || count > 18000 {
		t.Errorf("%d of them are valid", count)
	}
}

// P6.2, P6.3: whatever the network.
func FuzzNetwork(f *testing.F) {
	f.Add([]byte{})
	for i := range byte(60) {
		f.Add(bytes.Repeat([]byte{i, 7 * i, 1, 3 * i}, 5))
	}
	f.Fuzz(func(t *testing.T, row []byte) {
		c := small()
		for len(row) > 0 {
			change(&c, func(n int) int {
				var b byte
				if len(row) > 0 {
					b, row = row[0], row[1:]
				}
				return int(b) % n
			})
		}
		holds(t, c, small())
	})
}
