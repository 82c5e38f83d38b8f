package conf_test

import (
	"bytes"
	"errors"
	"slices"
	"strconv"
	"strings"
	"testing"
	"unsafe"

	"rivulet/addr"
	"rivulet/api"
	"rivulet/conf"
	"rivulet/lex"
)

// reads fails where a text is not read as that network.
func reads(t *testing.T, s string, want api.Config) {
	t.Helper()
	if got, err := conf.Parse(s); err != nil || told(got) != told(want) || !conf.Same(got, want) {
		t.Errorf("Parse(%.200q) = %.300s, %v, not %.300s", s, told(got), err, told(want))
	}
}

// refused fails where a text is not refused at that line with that error, and an empty network beside it.
func refused(t *testing.T, s string, no int, want error) {
	t.Helper()
	c, err := conf.Parse(s)
	at, ok := err.(*api.At)
	if !ok || at.Pos != no || at.Err != want || !errors.Is(err, want) {
		t.Errorf("Parse(%.200q) tells %v, not %d: %v", s, err, no, want)
	}
	if lengths(c) != [7]int{} {
		t.Errorf("Parse(%.200q): beside an error: %.300s", s, told(c))
	}
}

// P6.1: an empty text, and one without words, is an empty network.
func TestParseNothing(t *testing.T) {
	for _, s := range []string{"", " ", "\n", "\n\n\n", "# nothing", " # router a 1\n\t\r\n#", strings.Repeat(" ", api.MaxText), strings.Repeat("\n", api.MaxText)} {
		reads(t, s, api.Config{})
	}
}

// P6.1: texts with what they tell, each kind of line.
func TestParseWritten(t *testing.T) {
	reads(t, smallText, small())
	a, l := []api.Router{{Name: "a", Rank: 3}}, []api.Link{{Name: "l", Prefix: api.Prefix{Addr: 0x0a000000, Bits: 8}}}
	const head = "router a 3\nlink l 10.0.0.0/8\n"
	cases := []struct {
		s string
		c api.Config
	}{
		{"router a 3", api.Config{Routers: a}},
		{"link l 10.0.0.0/8", api.Config{Links: l}},
		{"link l 10.0.0.0/8\nrouter a 3\n", api.Config{Routers: a, Links: l}},
		// A router and a link may have the same name.
		{"router l 0\nlink l 10.0.0.0/8\nport l l 10.0.0.0", api.Config{Routers: []api.Router{{Name: "l"}}, Links: l, Ports: []api.Port{{Addr: 0x0a000000}}}},
		// A name may be a word of lines.
		{"router router 0\nlink link 10.0.0.0/8\nport router link 10.1.2.3\nmember link 224.0.0.1 but", api.Config{
			Routers: []api.Router{{Name: "router"}}, Links: []api.Link{{Name: "link", Prefix: l[0].Prefix}}, Ports: []api.Port{{Addr: 0x0a010203}}, Members: []api.Member{{Group: 0xe0000001}}}},
		{head + "port a l 10.0.0.1", api.Config{Routers: a, Links: l, Ports: []api.Port{{Addr: 0x0a000001}}}},
		{head + "route a 1.2.0.0/16 3.4.5.6 7", api.Config{Routers: a, Links: l, Routes: []api.Route{{To: api.Prefix{Addr: 0x01020000, Bits: 16}, Via: 0x03040506, Cost: 7}}}},
		{"root 239.1.0.0/16 3.4.5.6", api.Config{Ranges: []api.Range{{Groups: api.Prefix{Addr: 0xef010000, Bits: 16}, Root: 0x03040506}}}},
		{head + "source l 10.0.0.9 224.1.2.3", api.Config{Routers: a, Links: l, Sources: []api.Source{{Key: api.Key{Source: 0x0a000009, Group: 0xe0010203}}}}},
		{head + "member l 224.1.2.3 only", api.Config{Routers: a, Links: l, Members: []api.Member{{Group: 0xe0010203, Only: true}}}},
		{head + "member l 224.1.2.3 but 1.1.1.1", api.Config{Routers: a, Links: l, Members: []api.Member{{Group: 0xe0010203, Sources: []api.Addr{0x01010101}}}}},
		{head + "member l 224.1.2.3 only 4.4.4.4 3.3.3.3 2.2.2.2 1.1.1.1", api.Config{Routers: a, Links: l, Members: []api.Member{{Group: 0xe0010203, Only: true, Sources: []api.Addr{0x04040404, 0x03030303, 0x02020202, 0x01010101}}}}},
		// Lines that are told twice, where they may be.
		{head + "member l 224.1.2.3 only\nmember l 224.1.2.3 only", api.Config{Routers: a, Links: l, Members: []api.Member{{Group: 0xe0010203, Only: true}, {Group: 0xe0010203, Only: true}}}},
		{"router a 3\nroute a 0.0.0.0/0 1.1.1.1 0\nroute a 0.0.0.0/0 1.1.1.1 0", api.Config{Routers: a, Routes: []api.Route{{Via: 0x01010101}, {Via: 0x01010101}}}},
	}
	for _, x := range cases {
		reads(t, x.s, x.c)
	}
}

// P6.1: lists are in their lines' order, however the kinds are mixed; a place is counted among the lines ahead.
func TestParseMixed(t *testing.T) {
	lines := strings.SplitAfter(strings.TrimSuffix(smallText, "\n"), "\n")
	lines[len(lines)-1] += "\n"
	// As late as may be, and as early as may be: what is named comes just ahead.
	order := []int{12, 1, 5, 6, 2, 14, 18, 19, 13, 10, 0, 3, 4, 7, 17, 9, 8, 11, 15, 16}
	var mixed strings.Builder
	for _, i := range order {
		mixed.WriteString(lines[i])
	}
	reads(t, mixed.String(), api.Config{
		Routers: []api.Router{{Name: "b-2", Rank: 65535}, {Name: "abcdefghij-9", Rank: 7}, {Name: "a", Rank: 0}},
		Links: []api.Link{
			{Name: "zzzzzzzzzzzz", Prefix: api.Prefix{Addr: 0xf0000000, Bits: 4}},
			{Name: "west", Prefix: api.Prefix{Addr: 0x0a010000, Bits: 16}},
			{Name: "a", Prefix: api.Prefix{Addr: 0x0a020300, Bits: 24}},
		},
		Ports: []api.Port{{Router: 0, Link: 0, Addr: 0xf0000001}, {Router: 2, Link: 1, Addr: 0x0a010001}, {Router: 2, Link: 2, Addr: 0x0a0203ff}},
		Routes: []api.Route{
			{Router: 1, To: api.Prefix{Addr: 0x01020304, Bits: 32}, Via: 0xffffffff, Cost: 65535},
			{Router: 2, Via: 0x0a010002, Cost: 0},
			{Router: 0, To: api.Prefix{Addr: 0xe0000000, Bits: 3}, Via: 1, Cost: 10},
		},
		Ranges: small().Ranges,
		Sources: []api.Source{
			{Link: 0, Key: api.Key{Source: 0xf0000009, Group: 0xe0000000}},
			{Link: 1, Key: api.Key{Source: 0x0a010009, Group: 0xefffffff}},
		},
		Members: []api.Member{
			{Link: 0, Group: 0xe0000001, Only: true},
			{Link: 0, Group: 0xe0000001, Sources: []api.Addr{0xffffffff}},
			{Link: 1, Group: 0xe8000007, Only: true, Sources: []api.Addr{0x0a010009, 1, 0xdfffffff, 0xf0000000}},
			{Link: 2, Group: 0xe0000001},
		},
	})
}

// around is a text around a line: behind the lines that it needs, lines that are left out, and a line behind it that is wrong too.
func around(line string) (s string, no int) {
	const head = "# head\nrouter a 1\n\nrouter b 2\r\nlink l 10.0.0.0/8 # l\n \t\nlink m 11.0.0.0/8\n\n#\n\n"
	return head + "\t" + line + " # end\n\n nothing\nrouter a 1 1\n", strings.Count(head, "\n") + 1
}

// word is a word of a line, and what is wrong with it.
type word struct {
	s   string
	err error
}

// words are words that are right, and then some with that error.
func words(right string, err error, bad ...string) []word {
	var all []word
	for _, s := range strings.Fields(right) {
		all = append(all, word{s, nil})
	}
	for _, s := range bad {
		all = append(all, word{s, err})
	}
	return all
}

// The words that a line of a kind may have at each place, right ones and wrong ones.
func grammar() map[string][][]word {
	name := words("n", api.ErrName, "9", "N", "abcdefghijklm", "n_")
	number := append(words("0 65535", api.ErrNumber, "x", "-1", "01", "1000000000"), word{"65536", api.ErrRange}, word{"999999999", api.ErrRange})
	address := func(right string) []word { return words(right, api.ErrAddr, "z", "1.2.3", "1.2.3.04", "1.2.3.4/32") }
	prefix := func(right string) []word {
		return words(right, api.ErrAddr, "z", "10.0.0.0", "10.0.0.1/8", "10.0.0.0/33", "10.0.0.0/08")
	}
	router, link := words("a b", api.ErrNone, "c", "l", "A", "9", "ab", "1"), words("l", api.ErrNone, "n", "a", "L", "9", "lm", "1")
	how := words("only but", api.ErrWord, "all", "Only", "BUT", "onl", "onlyy", "but,", "1.1.1.1")
	return map[string][][]word{
		"router": {name, number},
		"link":   {name, prefix("0.0.0.0/1 10.0.0.0/8 11.0.0.1/32")},
		"port":   {router, link, address("10.0.0.0 10.255.255.255")},
		"route":  {router, prefix("0.0.0.0/0 224.0.0.0/4"), address("0.0.0.1 255.255.255.255"), number},
		"root":   {prefix("224.0.0.0/4 239.255.255.255/32"), address("0.0.0.1 223.255.255.255")},
		"source": {link, address("10.0.0.0 10.255.255.255"), address("224.0.0.0 239.255.255.255")},
		"member": {link, address("224.0.0.0 239.255.255.255"), how},
	}
}

// eachLine goes through all lines of a kind, with the first error of their words in their order.
func eachLine(kind string, places [][]word, each func(line string, err error)) {
	var build func(line string, err error, left [][]word)
	build = func(line string, err error, left [][]word) {
		if len(left) == 0 {
			each(line, err)
			return
		}
		for _, w := range left[0] {
			first := err
			if first == nil {
				first = w.err
			}
			build(line+" "+w.s, first, left[1:])
		}
	}
	build(kind, nil, places)
}

// P6.1: lines of each kind, of right and wrong words in each mixture: of the words' errors the first is told.
func TestParseWordsInOrder(t *testing.T) {
	for kind, places := range grammar() {
		eachLine(kind, places, func(line string, want error) {
			s, no := around(line)
			if want != nil {
				refused(t, s, no, want)
				return
			}
			// The line that is wrong behind it.
			refused(t, s, no+2, api.ErrWord)
			if c, err := conf.Parse(s[:strings.Index(s, " nothing")]); err != nil || conf.Valid(c) != nil {
				t.Errorf("%s: %v", line, err)
			}
		})
	}
}

// P6.1: a member's sources: none to four right ones; a wrong one in each place, also behind the fourth.
func TestParseMemberSources(t *testing.T) {
	const right = "member l 224.0.0.1 only"
	list := []string{"1.1.1.1", "2.2.2.2", "3.3.3.3", "4.4.4.4", "5.5.5.5", "6.6.6.6"}
	for n := range 7 {
		line := strings.Join(append([]string{right}, list[:n]...), " ")
		s, no := around(line)
		if n <= 4 {
			refused(t, s, no+2, api.ErrWord)
			c, err := conf.Parse(s[:strings.Index(s, " nothing")])
			if err != nil || len(c.Members) != 1 || len(c.Members[0].Sources) != n {
				t.Errorf("%s: %s, %v", line, told(c), err)
			}
		} else {
			refused(t, s, no, api.ErrMany)
		}
		for i := range n {
			for _, bad := range []word{{"z", api.ErrAddr}, {"1.1.1.256", api.ErrAddr}, {"only", api.ErrAddr}, {"0.0.0.0", api.ErrKind}, {"224.0.0.0", api.ErrKind}, {"239.255.255.255", api.ErrKind}} {
				spoilt := slices.Clone(list[:n])
				spoilt[i] = bad.s
				s, no := around(right + " " + strings.Join(spoilt, " "))
				refused(t, s, no, bad.err)
				// What is wrong with the words ahead of them is told first.
				s, no = around("member l 224.0.0.1 neither " + strings.Join(spoilt, " "))
				refused(t, s, no, api.ErrWord)
				s, no = around("member l 10.0.0.1 but " + strings.Join(spoilt, " "))
				refused(t, s, no, bad.err)
			}
		}
	}
	s, no := around(right + strings.Repeat(" 1.1.1.1", 2000))
	refused(t, s, no, api.ErrMany)
	s, no = around(right + " 1.1.1.1 1.1.1.1")
	refused(t, s, no, api.ErrTwice)
	s, no = around(right + " 1.1.1.1 2.2.2.2 3.3.3.3 1.1.1.1")
	refused(t, s, no, api.ErrTwice)
}

// P6.1: lines of each kind with too few and too many words: told ahead of what is wrong with the words.
func TestParseCounts(t *testing.T) {
	counts := map[string]int{"router": 2, "link": 2, "port": 3, "route": 4, "root": 2, "source": 3, "member": 3}
	for kind, right := range counts {
		var good []string
		for _, w := range grammar()[kind] {
			good = append(good, w[0].s)
		}
		for n := range 10 {
			if n == right || kind == "member" && n > right {
				continue
			}
			some := slices.Clone(good)
			for len(some) < n {
				some = append(some, "1.1.1.1")
			}
			for _, words := range [][]string{some[:n], slices.Repeat([]string{"?"}, n), slices.Repeat([]string{"1"}, n), slices.Repeat([]string{"only"}, n)} {
				s, no := around(strings.Join(append([]string{kind}, words...), " "))
				refused(t, s, no, api.ErrWord)
			}
		}
	}
}

// P6.1: what a line begins with is one of the seven words, just so.
func TestParseNoSuchWord(t *testing.T) {
	for _, w := range []string{
		"nothing", "x", "?", "Router", "ROUTER", "routers", "rout", "router,", "router:", "\"router\"", "a", "l", "1", "-",
		"links", "lin", "Link", "ports", "por", "routes", "roots", "roo", "range", "ranges", "sources", "sourc", "members", "membe", "Member", "only", "but",
		"\u00e4", "\xff", "\x00", "router\x00", "router\v", "\u00a0router", "\ufeffrouter",
	} {
		for _, behind := range []string{"", " a", " a 1", " n 1", " n 10.0.0.0/8", " 224.0.0.0/4 1.1.1.1", " a l 10.0.0.1", " l 10.0.0.1 224.0.0.1", " l 224.0.0.1 but", " a 10.0.0.0/8 1.1.1.1 1", " l 224.0.0.1 but 1.1.1.1"} {
			s, no := around(w + behind)
			refused(t, s, no, api.ErrWord)
		}
	}
}

// P6.1: what a line names is ahead of it.
func TestParseNamedBehind(t *testing.T) {
	for _, x := range []struct{ line, behind string }{
		{"port z l 10.0.0.1", "router z 1"}, {"port a z 12.0.0.1", "link z 12.0.0.0/8"}, {"port z z 12.0.0.1", "router z 1\nlink z 12.0.0.0/8"},
		{"route z 0.0.0.0/0 1.1.1.1 1", "router z 1"}, {"source z 12.0.0.1 224.0.0.1", "link z 12.0.0.0/8"}, {"member z 224.0.0.1 but", "link z 12.0.0.0/8"},
		// A link is no router, a router no link.
		{"port m l 10.0.0.1", "router m 1"}, {"port a b 12.0.0.1", "link b 12.0.0.0/8"}, {"route l 0.0.0.0/0 1.1.1.1 1", "router l 1"}, {"source b 12.0.0.1 224.0.0.1", "link b 12.0.0.0/8"}, {"member a 224.0.0.1 but", "link a 12.0.0.0/8"},
	} {
		s, no := around(x.line + "\n" + x.behind)
		refused(t, s, no, api.ErrNone)
		s, no = around(x.behind + "\n" + x.line)
		refused(t, s, no+strings.Count(x.behind, "\n")+3, api.ErrWord)
	}
}

// P6.1: what Valid says of the line's item, behind the errors of its words.
func TestParseValid(t *testing.T) {
	for _, x := range []struct {
		line string
		err  error
	}{
		{"router a 1", api.ErrTwice}, {"router b 65535", api.ErrTwice}, {"router a x", api.ErrNumber}, {"router a 65536", api.ErrRange}, {"router a", api.ErrWord},
		{"link l 12.0.0.0/8", api.ErrTwice}, {"link m 224.0.0.0/4", api.ErrTwice}, {"link l 12.0.0.1/8", api.ErrAddr}, {"link l 12.0.0.0", api.ErrAddr},
		{"link n 224.0.0.0/4", api.ErrKind}, {"link n 224.0.0.0/5", api.ErrKind}, {"link n 239.255.255.255/32", api.ErrKind}, {"link n 224.0.0.0/3", api.ErrKind}, {"link n 0.0.0.0/0", api.ErrKind},
		{"port a l 11.0.0.1", api.ErrAway}, {"port a l 0.0.0.0", api.ErrAway}, {"port a l 9.255.255.255", api.ErrAway}, {"port a m 10.0.0.1", api.ErrAway}, {"port a l 224.0.0.1", api.ErrAway},
		{"link n 0.0.0.0/8\nport a n 0.0.0.0", api.ErrAway}, {"link n 0.0.0.0/8\nsource n 0.0.0.0 224.0.0.1", api.ErrAway},
		{"port a l 10.0.0.1\nport a l 10.0.0.2", api.ErrTwice}, {"port a l 10.0.0.1\nport b l 10.0.0.1", api.ErrTwice}, {"port a l 10.0.0.1\nport b m 10.0.0.1", api.ErrAway}, {"port a l 10.0.0.1\nport a l z", api.ErrAddr},
		{"link n 10.0.0.0/8\nport a l 10.0.0.1\nport a n 10.0.0.1", api.ErrTwice},
		{"route a 0.0.0.0/0 0.0.0.0 1", api.ErrKind}, {"route a 0.0.0.0/0 224.0.0.0 1", api.ErrKind}, {"route a 0.0.0.0/0 239.255.255.255 1", api.ErrKind}, {"route a 0.0.0.0/0 0.0.0.0 x", api.ErrNumber}, {"route a 0.0.0.0/0 0.0.0.0 65536", api.ErrRange},
		{"root 10.0.0.0/8 1.1.1.1", api.ErrKind}, {"root 224.0.0.0/3 1.1.1.1", api.ErrKind}, {"root 0.0.0.0/0 1.1.1.1", api.ErrKind}, {"root 240.0.0.0/4 1.1.1.1", api.ErrKind}, {"root 224.0.0.0/4 0.0.0.0", api.ErrKind}, {"root 224.0.0.0/4 224.0.0.0", api.ErrKind}, {"root 10.0.0.0/8 z", api.ErrAddr},
		{"root 224.0.0.0/8 1.1.1.1\nroot 224.0.0.0/8 2.2.2.2", api.ErrTwice}, {"root 224.0.0.0/8 1.1.1.1\nroot 224.0.0.0/8 0.0.0.0", api.ErrKind},
		{"source l 11.0.0.1 224.0.0.1", api.ErrAway}, {"source l 0.0.0.0 224.0.0.1", api.ErrAway}, {"source l 11.0.0.1 10.0.0.1", api.ErrAway}, {"source l 11.0.0.1 z", api.ErrAddr},
		{"source l 10.0.0.1 10.0.0.1", api.ErrKind}, {"source l 10.0.0.1 223.255.255.255", api.ErrKind}, {"source l 10.0.0.1 240.0.0.0", api.ErrKind}, {"source l 10.0.0.1 0.0.0.0", api.ErrKind},
		{"source l 10.0.0.1 224.0.0.1\nsource l 10.0.0.1 224.0.0.1", api.ErrTwice}, {"port a l 10.0.0.1\nsource l 10.0.0.1 224.0.0.1", api.ErrTwice}, {"link n 10.0.0.0/8\nsource l 10.0.0.1 224.0.0.1\nsource n 10.0.0.1 224.0.0.2", api.ErrTwice},
		{"member l 10.0.0.1 but", api.ErrKind}, {"member l 0.0.0.0 only", api.ErrKind}, {"member l 10.0.0.1 all", api.ErrWord}, {"member l 10.0.0.1 but z", api.ErrAddr}, {"member l 10.0.0.1 but 1.1.1.1 1.1.1.1", api.ErrKind},
		{"member l 224.0.0.1 but 1.1.1.1 1.1.1.1 1.1.1.1 1.1.1.1 1.1.1.1", api.ErrMany}, {"member l 224.0.0.1 but 1.1.1.1 2.2.2.2 3.3.3.3 4.4.4.4 0.0.0.0", api.ErrKind},
	} {
		s, no := around(x.line)
		refused(t, s, no+strings.Count(x.line, "\n"), x.err)
	}
}

// P6.1: Valid is asked for all that there is so far: a line may make an earlier one wrong, and is told.
func TestParseEarlierMadeWrong(t *testing.T) {
	for _, x := range []string{"port a l 10.0.0.9", "link n 10.0.0.0/16\nport b n 10.0.0.9"} {
		s, no := around("source l 10.0.0.9 224.0.0.1\nmember l 224.0.0.1 but\n" + x)
		refused(t, s, no+2+strings.Count(x, "\n"), api.ErrTwice)
	}
	// What is wrong with the port itself is told first.
	s, no := around("port a l 10.0.0.1\nsource l 10.0.0.9 224.0.0.1\nport a l 10.0.0.9")
	refused(t, s, no+2, api.ErrTwice)
	s, no = around("source l 10.0.0.9 224.0.0.1\nport a m 10.0.0.9")
	refused(t, s, no+1, api.ErrAway)
}

// line is one more line of most's kind of that list, right beside all of most's.
func (l list) line() string {
	return [...]string{
		"router more 0", "link more 9.0.0.0/8", "port name------aa name------ab 201.200.0.1", "route name------aa 0.0.0.0/0 0.0.0.1 0",
		"root 233.0.0.0/8 0.0.0.1", "source name------ac 202.200.0.2 233.0.0.0", "member name------aa 233.0.0.0 but",
	}[l]
}

// P6.1: as many lines of each kind as may be, and one more: of that line first its words, then that it is too many, then what else is wrong with it.
func TestParseTooMany(t *testing.T) {
	full := conf.Text(most())
	reads(t, full, most())
	no := strings.Count(full, "\n") + 1
	for _, l := range allLists() {
		refused(t, full+l.line(), no, api.ErrMany)
		refused(t, full+"\n#\n"+l.line()+"\nnothing", no+2, api.ErrMany)
		// One less of that kind, and nothing that may name it: the line fits.
		c := most()
		l.cut(&c, l.most()-1)
		for _, later := range allLists()[l+1:] {
			later.cut(&c, 0)
		}
		fits := conf.Text(c) + l.line() + "\n"
		l.longer(&c)
		reads(t, fits, c)
		refused(t, fits+l.line(), strings.Count(fits, "\n")+1, api.ErrMany)
	}
	for _, x := range []word{
		{"router 9 0", api.ErrName}, {"router more x", api.ErrNumber}, {"router more 65536", api.ErrRange}, {"router name------aa 0", api.ErrMany},
		{"link 9 9.0.0.0/8", api.ErrName}, {"link more z", api.ErrAddr}, {"link name------aa 9.0.0.0/8", api.ErrMany}, {"link more 224.0.0.0/4", api.ErrMany},
		{"port more name------ab 201.200.0.1", api.ErrNone}, {"port name------aa name------ab z", api.ErrAddr}, {"port name------aa name------ab 1.1.1.1", api.ErrMany},
		{"route name------aa 0.0.0.0/0 0.0.0.0 0", api.ErrMany}, {"route name------aa 0.0.0.0/0 0.0.0.0 65536", api.ErrRange},
		{"root 10.0.0.0/8 1.1.1.1", api.ErrMany}, {"root 10.0.0.0/8 z", api.ErrAddr},
		{"source name------ac 1.1.1.1 1.1.1.1", api.ErrMany}, {"source more 1.1.1.1 1.1.1.1", api.ErrNone},
		{"member name------aa 1.1.1.1 but", api.ErrMany}, {"member name------aa 1.1.1.1 all", api.ErrWord},
	} {
		refused(t, full+x.s, no, x.err)
	}
}

// P6.1: an error of lex.Lines is bare, and told ahead of all else.
func TestParseTooLong(t *testing.T) {
	for _, s := range []string{
		strings.Repeat(" ", api.MaxText+1), strings.Repeat("\n", api.MaxText+1), strings.Repeat("router a 1\n", api.MaxText/10), "nothing\n" + strings.Repeat("#", api.MaxText),
		smallText + strings.Repeat("#", api.MaxText+1-len(smallText)), strings.Repeat("x", 1<<20),
	} {
		if c, err := conf.Parse(s); err != api.ErrMany || lengths(c) != [7]int{} {
			t.Errorf("%d bytes: %v, %s", len(s), err, told(c))
		}
	}
	reads(t, smallText+strings.Repeat("#", api.MaxText-len(smallText)), small())
	reads(t, strings.Repeat("\n", api.MaxText-len(smallText))+smallText, small())
	refused(t, strings.Repeat("\n", api.MaxText-1)+"x", api.MaxText, api.ErrWord)
	refused(t, strings.Repeat("x ", api.MaxText/2), 1, api.ErrWord)
}

// P6.1: the number of the line with the error, whatever is ahead of it and behind it, and of several such lines the first.
func TestParseLineNumbers(t *testing.T) {
	for ahead := range 40 {
		for _, left := range []string{"\n", "\r\n", " \t\n", "# nothing\n", " # router a 1\n"} {
			for _, behind := range []string{"", "\n", "\nrouter b 1", "\nrouter x", "\nnothing\n"} {
				s := strings.Repeat(left, ahead)
				refused(t, s+"nothing"+behind, ahead+1, api.ErrWord)
				refused(t, "router a 1\n"+s+"router a 2"+behind, ahead+2, api.ErrTwice)
				refused(t, s+"router a 1\n"+s+"router b x#"+behind, 2*ahead+2, api.ErrNumber)
			}
		}
	}
	refused(t, "\r\r\rnothing", 1, api.ErrWord)
}

// P0.2, P0.4: errors are apart: what a caller writes into one, no other shows.
func TestParseErrorsApart(t *testing.T) {
	_, first := conf.Parse("\nnothing")
	_, second := conf.Parse("\nnothing")
	*first.(*api.At) = api.At{Pos: 9, Err: api.ErrEnd}
	_, third := conf.Parse("\nnothing")
	for _, err := range []error{second, third} {
		if at, ok := err.(*api.At); !ok || *at != (api.At{Pos: 2, Err: api.ErrWord}) {
			t.Errorf("%v", err)
		}
	}
}

// P0.4: the text stays as it was, what lies behind it is not read, and nothing of it is kept.
func TestParseTextNotKept(t *testing.T) {
	b := []byte(smallText + " 9.9.9.9\nnothing")
	before := bytes.Clone(b)
	c, err := conf.Parse(unsafe.String(unsafe.SliceData(b), len(smallText)-1))
	if err != nil || !bytes.Equal(b, before) {
		t.Fatalf("%v, %q", err, b)
	}
	for i := range b {
		b[i] ^= 255
	}
	if told(c) != told(small()) {
		t.Errorf("when the text is gone: %s", told(c))
	}
}

// P0.4: what Parse answers shares no memory with another answer, nor its lists with one another.
func TestParseNewMemory(t *testing.T) {
	first, _ := conf.Parse(smallText)
	second, _ := conf.Parse(smallText)
	spoil(first)
	reads(t, smallText, small())
	if told(second) != told(small()) {
		t.Errorf("another answer: %s", told(second))
	}
	apart(t, func() api.Config { c, _ := conf.Parse(smallText); return c })
}

// parts are the kinds of words that a line has: n a name, c a cost, r a router, l a link, p a prefix, a an address, h only or but.
func parts() map[string]string {
	return map[string]string{"router": "nc", "link": "np", "port": "rla", "route": "rpac", "root": "pa", "source": "laa", "member": "lah"}
}

// value reads a word of a kind: a text, a number, a prefix, or an address.
func value(c api.Config, kind byte, w string) (text string, n int, p api.Prefix, a api.Addr, err error) {
	place := -1
	switch kind {
	case 'n':
		return w, 0, p, 0, lex.Name(w)
	case 'c':
		n, err = lex.Number(w, 65535)
		return "", n, p, 0, err
	case 'p':
		p, err = addr.ParsePrefix(w)
		return "", 0, p, 0, err
	case 'a':
		a, err = addr.Parse(w)
		return "", 0, p, a, err
	case 'h':
		if w != "only" && w != "but" {
			err = api.ErrWord
		}
		return w, 0, p, 0, err
	case 'r':
		place = slices.IndexFunc(c.Routers, func(x api.Router) bool { return x.Name == w })
	case 'l':
		place = slices.IndexFunc(c.Links, func(x api.Link) bool { return x.Name == w })
	}
	if place < 0 {
		err = api.ErrNone
	}
	return "", place, p, 0, err
}

// expected is what a text is read as: each line's words are read by kinds, then put together; wrong tells what is wrong.
func expected(s string) (api.Config, error) {
	if len(s) > 16384 {
		return api.Config{}, api.ErrMany
	}
	var c api.Config
	for i, line := range strings.Split(s, "\n") {
		line, _, _ = strings.Cut(line, "#")
		found := strings.FieldsFunc(line, func(r rune) bool { return strings.ContainsRune(" \t\r", r) })
		if len(found) == 0 {
			continue
		}
		err := expectedLine(&c, found[0], found[1:])
		if err == nil {
			err = wrong(c)
		}
		if err != nil {
			return api.Config{}, &api.At{Pos: i + 1, Err: err}
		}
	}
	return c, nil
}

// expectedLine puts a line's item into the network.
func expectedLine(c *api.Config, kind string, words []string) error {
	kinds, ok := parts()[kind]
	if !ok || len(words) < len(kinds) || len(words) > len(kinds) && kind != "member" {
		return api.ErrWord
	}
	kinds += strings.Repeat("a", len(words)-len(kinds))
	texts, ns, ps, as := map[byte]string{}, map[byte]int{}, map[byte]api.Prefix{}, []api.Addr{}
	for i, w := range words {
		text, n, p, a, err := value(*c, kinds[i], w)
		if err != nil {
			return err
		}
		texts[kinds[i]], ns[kinds[i]], ps[kinds[i]] = text, n, p
		if kinds[i] == 'a' {
			as = append(as, a)
		}
	}
	switch kind {
	case "router":
		c.Routers = append(c.Routers, api.Router{Name: texts['n'], Rank: ns['c']})
	case "link":
		c.Links = append(c.Links, api.Link{Name: texts['n'], Prefix: ps['p']})
	case "port":
		c.Ports = append(c.Ports, api.Port{Router: ns['r'], Link: ns['l'], Addr: as[0]})
	case "route":
		c.Routes = append(c.Routes, api.Route{Router: ns['r'], To: ps['p'], Via: as[0], Cost: ns['c']})
	case "root":
		c.Ranges = append(c.Ranges, api.Range{Groups: ps['p'], Root: as[0]})
	case "source":
		c.Sources = append(c.Sources, api.Source{Link: ns['l'], Key: api.Key{Source: as[0], Group: as[1]}})
	case "member":
		c.Members = append(c.Members, api.Member{Link: ns['l'], Group: as[0], Only: texts['h'] == "only", Sources: as[1:]})
	}
	return nil
}

// asExpected fails where a text is read in another way than expected reads it.
func asExpected(t *testing.T, s string) {
	t.Helper()
	got, err := conf.Parse(s)
	want, wantErr := expected(s)
	at, _ := err.(*api.At)
	wantAt, _ := wantErr.(*api.At)
	same := err == wantErr
	if at != nil && wantAt != nil {
		same = *at == *wantAt
	}
	if !same || told(got) != told(want) {
		t.Errorf("Parse(%q) = %s, %v, not %s, %v", s, told(got), err, told(want), wantErr)
	}
}

// P6.1: small's text with each word replaced by each other one, and by wrong ones.
func TestParseEachWordReplaced(t *testing.T) {
	asExpected(t, smallText)
	all := strings.Fields(smallText)
	slices.Sort(all)
	all = append(slices.Compact(all), "", "#", "\n", "x", "9", "65536", "00", "224.0.0.9", "0.0.0.0", "10.0.0.0/8", "0.0.0.0/0", "a b", "but 1.1.1.1 2.2.2.2")
	lines := strings.Split(smallText, "\n")
	for i, line := range lines {
		words := strings.Fields(line)
		for j := range words {
			for _, w := range all {
				replaced := slices.Clone(words)
				replaced[j] = w
				changed := slices.Clone(lines)
				changed[i] = strings.Join(replaced, " ")
				asExpected(t, strings.Join(changed, "\n"))
			}
		}
	}
}

// P6.1: small's text with each line left out, told twice, and put elsewhere.
func TestParseEachLineMoved(t *testing.T) {
	lines := strings.Split(strings.TrimSuffix(smallText, "\n"), "\n")
	for i := range lines {
		without := slices.Delete(slices.Clone(lines), i, i+1)
		asExpected(t, strings.Join(without, "\n"))
		for j := range len(without) + 1 {
			asExpected(t, strings.Join(slices.Insert(slices.Clone(without), j, lines[i]), "\n"))
			asExpected(t, strings.Join(slices.Insert(slices.Clone(lines), j, lines[i]), "\n"))
		}
	}
}

// P6.1, P6.3: whatever the text.
func FuzzParse(f *testing.F) {
	f.Add("")
	f.Add(smallText)
	for _, line := range strings.Split(smallText, "\n") {
		s, _ := around(line)
		f.Add(s)
	}
	f.Add(conf.Text(most()))
	f.Add(strconv.Quote(smallText))
	f.Fuzz(func(t *testing.T, s string) {
		asExpected(t, s)
		if c, err := conf.Parse(s); err == nil {
			again(t, c)
		}
	})
}
