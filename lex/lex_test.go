package lex_test

import (
	"bytes"
	"math"
	"regexp"
	"slices"
	"strconv"
	"strings"
	"testing"
	"unsafe"

	"rivulet/api"
	"rivulet/lex"
)

// line is a line with its words.
func line(no int, words ...string) lex.Line {
	return lex.Line{No: no, Words: words}
}

// equal tells whether two lists of lines are the same.
func equal(a, b []lex.Line) bool {
	return slices.EqualFunc(a, b, func(x, y lex.Line) bool {
		return x.No == y.No && slices.Equal(x.Words, y.Words)
	})
}

// told is lines as text, for messages.
func told(lines []lex.Line) string {
	var b strings.Builder
	for _, l := range lines {
		b.WriteString(strconv.Itoa(l.No) + ":")
		for _, w := range l.Words {
			b.WriteString(" " + strconv.Quote(w))
		}
		b.WriteString("; ")
	}
	return b.String()
}

// expected are a text's lines, found byte by byte.
func expected(s string) []lex.Line {
	var lines []lex.Line
	now, word, left := line(1), "", false
	for _, b := range []byte(s + "\n") {
		if strings.IndexByte(" \t\r\n#", b) < 0 {
			if !left {
				word += string([]byte{b})
			}
			continue
		}
		if word != "" {
			now.Words, word = append(now.Words, word), ""
		}
		if b == '#' {
			left = true
		}
		if b == '\n' {
			if now.Words != nil {
				lines = append(lines, now)
			}
			now, left = line(now.No+1), false
		}
	}
	return lines
}

// has fails where the text's lines are others.
func has(t *testing.T, s string, want ...lex.Line) {
	t.Helper()
	if got, err := lex.Lines(s); !equal(got, want) || err != nil {
		t.Errorf("Lines(%.80q) = %.200s, %v, not %.200s", s, told(got), err, told(want))
	}
}

// example is a text with its lines.
type example struct {
	s     string
	lines []lex.Line
}

// written are texts with their lines, written out.
func written() []example {
	return []example{
		{"a b # c", []lex.Line{line(1, "a", "b")}},
		{"a", []lex.Line{line(1, "a")}},
		{"router r1 10\nlink l1 10.0.0.0/8\n", []lex.Line{line(1, "router", "r1", "10"), line(2, "link", "l1", "10.0.0.0/8")}},
		// A last line with and without a line feed behind it.
		{"a\nb", []lex.Line{line(1, "a"), line(2, "b")}},
		{"a\nb\n", []lex.Line{line(1, "a"), line(2, "b")}},
		{"a\nb\n\n", []lex.Line{line(1, "a"), line(2, "b")}},
		{"a\nb\n ", []lex.Line{line(1, "a"), line(2, "b")}},
		{"a\nb\n#", []lex.Line{line(1, "a"), line(2, "b")}},
		// Several that stand between words, ahead of the first and behind the last.
		{"  a  b  ", []lex.Line{line(1, "a", "b")}},
		{"\t\ta\t\tb\t\t", []lex.Line{line(1, "a", "b")}},
		{"\r\ra\r\rb\r\r", []lex.Line{line(1, "a", "b")}},
		{" \t\ra\r \tb\t\r ", []lex.Line{line(1, "a", "b")}},
		// A carriage return ahead of a line feed, behind one, and alone: it ends no line.
		{"a\r\nb\r\n", []lex.Line{line(1, "a"), line(2, "b")}},
		{"a\n\rb\n\r", []lex.Line{line(1, "a"), line(2, "b")}},
		{"a\rb\nc", []lex.Line{line(1, "a", "b"), line(2, "c")}},
		{"a#\rb\nc", []lex.Line{line(1, "a"), line(2, "c")}},
		{"\r\n\r\na\r\n", []lex.Line{line(3, "a")}},
		// A # at the head of a line, ahead of, in and behind a word, alone, and twice.
		{"#a b\nc", []lex.Line{line(2, "c")}},
		{" #a b\nc", []lex.Line{line(2, "c")}},
		{"a#b c\nd", []lex.Line{line(1, "a"), line(2, "d")}},
		{"a b#\nc", []lex.Line{line(1, "a", "b"), line(2, "c")}},
		{"a #b\nc", []lex.Line{line(1, "a"), line(2, "c")}},
		{"a # b # c\nd", []lex.Line{line(1, "a"), line(2, "d")}},
		{"a#b#c\nd", []lex.Line{line(1, "a"), line(2, "d")}},
		{"a##b\nc", []lex.Line{line(1, "a"), line(2, "c")}},
		{"##\n# #\na", []lex.Line{line(3, "a")}},
		{"#\na#\n#b\nc#d", []lex.Line{line(2, "a"), line(4, "c")}},
		// Lines that are left out count.
		{"\na", []lex.Line{line(2, "a")}},
		{"\n\n\na\n\n\nb", []lex.Line{line(4, "a"), line(7, "b")}},
		{"\n\n x\ty\r\n#z\n  \n p#q", []lex.Line{line(3, "x", "y"), line(6, "p")}},
		{"#\n \n\t\n\r\n\n \t\r#\na\n#\n \n\t\n\r\n\n \t\r#\nb", []lex.Line{line(7, "a"), line(14, "b")}},
		// What looks like something else is part of a word.
		{"\"a b\" 'c d' \\#e", []lex.Line{line(1, "\"a", "b\"", "'c", "d'", "\\")}},
		{"// a;b,c /* d */", []lex.Line{line(1, "//", "a;b,c", "/*", "d", "*/")}},
		{"a\vb\fc\x00d\x85e\xA0f", []lex.Line{line(1, "a\vb\fc\x00d\x85e\xA0f")}},
		{"a\u0085b\u00A0c\u2028d\u2029e\u3000f\uFEFFg", []lex.Line{line(1, "a\u0085b\u00A0c\u2028d\u2029e\u3000f\uFEFFg")}},
		{"\xFF \xC3\n\xE2\x82 \xF0\x9F\x98\x80", []lex.Line{line(1, "\xFF", "\xC3"), line(2, "\xE2\x82", "\xF0\x9F\x98\x80")}},
		{"a a\na a", []lex.Line{line(1, "a", "a"), line(2, "a", "a")}},
	}
}

// P5.1: texts written out; expected, which other tests ask, finds the same.
func TestLinesWritten(t *testing.T) {
	for _, c := range written() {
		has(t, c.s, c.lines...)
		if got := expected(c.s); !equal(got, c.lines) {
			t.Errorf("expected(%q) = %s", c.s, told(got))
		}
	}
}

// P5.1: a text without words has no lines.
func TestNoLines(t *testing.T) {
	for _, s := range []string{
		"", " ", "   ", "\t", "\r", "\n", "\n\n\n", "\r\n", "\r\n\r\n", " \t\r", " \t\r\n \t\r\n",
		"#", "##", "#a", "# a b", " #a", "\t#a", "\r#a", "#a\n#b", "#a\n#b\n", "\n#\n \n", "#\r\n", "#a\rb",
		strings.Repeat("\n", api.MaxText), strings.Repeat(" ", api.MaxText), strings.Repeat("#", api.MaxText),
	} {
		has(t, s)
	}
}

// P5.1: what each byte is, between words and in a word's place.
func TestEachByteInText(t *testing.T) {
	for n := range 256 {
		b := string([]byte{byte(n)})
		joined, alone := []lex.Line{line(1, "a"+b+"c", "d"), line(2, "e")}, []lex.Line{line(1, "a", b, "c"), line(2, "e")}
		switch n {
		case ' ', '\t', '\r':
			joined[0].Words = []string{"a", "c", "d"}
			alone[0].Words = []string{"a", "c"}
		case '#':
			joined[0].Words = []string{"a"}
			alone[0].Words = []string{"a"}
		case '\n':
			joined = []lex.Line{line(1, "a"), line(2, "c", "d"), line(3, "e")}
			alone = []lex.Line{line(1, "a"), line(2, "c"), line(3, "e")}
		}
		has(t, "a"+b+"c d\ne", joined...)
		has(t, "a "+b+" c\ne", alone...)
	}
}

// P5.1: each short text of those bytes that are told apart, and one that are not.
func TestEachShortText(t *testing.T) {
	texts := []string{""}
	for range 6 {
		var longer []string
		for _, s := range texts {
			has(t, s, expected(s)...)
			for _, b := range []byte(" \t\r\n#ab") {
				longer = append(longer, s+string([]byte{b}))
			}
		}
		texts = longer
	}
}

// long are texts of so many bytes.
func long(n int) []string {
	fill := func(s string) string { return strings.Repeat(s, n/len(s)+1)[:n] }
	return []string{
		fill("a"), fill("a "), fill("a\n"), fill("\na"), fill("a b\tc\rd\n"), fill("a#b\n"), fill("\n"), fill(" "), fill("#"), fill("#a\n"),
		fill("\u00E4"), fill("\xFF"), fill("\x00"), fill("\r\n"), fill("router r1 10 # first\r\n\n"),
		fill("\n")[1:] + "a", "a" + fill(" ")[1:], "a" + fill("\n")[1:], "a#" + fill("b")[2:],
	}
}

// P5.1: a text of MaxText bytes is read, of one more is not, whatever its bytes are.
func TestMaxText(t *testing.T) {
	for _, n := range []int{api.MaxText - 1, api.MaxText} {
		for _, s := range long(n) {
			has(t, s, expected(s)...)
		}
	}
	for _, n := range []int{api.MaxText + 1, api.MaxText + 2, 2 * api.MaxText, 4*api.MaxText + 1, 1 << 20} {
		for _, s := range long(n) {
			if got, err := lex.Lines(s); len(got) != 0 || err != api.ErrMany {
				t.Errorf("%d bytes %.20q: %d lines, %v", len(s), s, len(got), err)
			}
		}
	}
}

// P5.1: as many words and lines as a text can have, and the last line's number.
func TestMostLinesAndWords(t *testing.T) {
	const half = api.MaxText / 2
	words, err := lex.Lines(strings.Repeat("a ", half))
	if err != nil || len(words) != 1 || len(words[0].Words) != half {
		t.Errorf("words: %d lines, %v", len(words), err)
	}
	lines, err := lex.Lines(strings.Repeat("a\n", half))
	if err != nil || len(lines) != half {
		t.Errorf("lines: %d, %v", len(lines), err)
	}
	for i, l := range lines {
		if l.No != i+1 || !slices.Equal(l.Words, []string{"a"}) {
			t.Errorf("line %d: %v", i+1, l)
		}
	}
	has(t, strings.Repeat("\n", api.MaxText-1)+"a", line(api.MaxText, "a"))
	has(t, strings.Repeat("a", api.MaxText), line(1, strings.Repeat("a", api.MaxText)))
}

// spoilWords writes into a list of words, its spare room too.
func spoilWords(words []string) {
	words = words[:cap(words)]
	for i := range words {
		words[i] = "spoilt"
	}
}

// spoil writes into all lists of an answer, their spare room too.
func spoil(lines []lex.Line) {
	for _, l := range lines {
		spoilWords(l.Words)
	}
	lines = lines[:cap(lines)]
	for i := range lines {
		lines[i] = line(-1, "spoilt")
	}
}

// P0.4: what Lines answers shares no memory with another answer, its spare room too.
func TestLinesNewMemory(t *testing.T) {
	for _, c := range written() {
		first, _ := lex.Lines(c.s)
		second, _ := lex.Lines(c.s)
		spoil(first)
		third, _ := lex.Lines(c.s)
		if !equal(second, c.lines) || !equal(third, c.lines) {
			t.Errorf("Lines(%q) shares its memory: %s, %s", c.s, told(second), told(third))
		}
	}
}

// P0.4: the words of a line share no memory with those of another line of the same answer, their spare room too.
func TestLinesMemoryApart(t *testing.T) {
	for _, c := range written() {
		for i := range c.lines {
			got, _ := lex.Lines(c.s)
			spoilWords(got[i].Words)
			if !equal(got[:i], c.lines[:i]) || !equal(got[i+1:], c.lines[i+1:]) {
				t.Errorf("Lines(%q): line %d shares its memory: %s", c.s, i, told(got))
			}
		}
	}
}

// borrowed is a text that lies in these bytes, so that a test sees who keeps it.
func borrowed(b []byte) string {
	return unsafe.String(unsafe.SliceData(b), len(b))
}

// P0.4: the text stays as it was, what lies behind it is not read, and nothing of it is kept.
func TestLinesTextNotKept(t *testing.T) {
	for _, c := range written() {
		b := []byte(c.s + "behind x\ny")
		before := bytes.Clone(b)
		got, err := lex.Lines(borrowed(b[:len(c.s)]))
		if !bytes.Equal(b, before) {
			t.Errorf("%q became %q", before, b)
		}
		for i := range b {
			b[i] ^= 255
		}
		if !equal(got, c.lines) || err != nil {
			t.Errorf("Lines(%q) = %s, %v, when the text is gone", c.s, told(got), err)
		}
	}
}

// P0.4: Number and Name leave their text as it was, and read nothing behind it.
func TestNumberAndNameTextNotChanged(t *testing.T) {
	b := []byte("a1234567890b")
	before := bytes.Clone(b)
	n, err := lex.Number(borrowed(b[1:4]), 999)
	if n != 123 || err != nil {
		t.Errorf("Number = %d, %v", n, err)
	}
	if err := lex.Name(borrowed(b[:api.MaxName-1])); err != nil {
		t.Errorf("Name = %v", err)
	}
	if _, err := lex.Number(borrowed(b), 999); err != api.ErrNumber {
		t.Errorf("Number = %v", err)
	}
	if !bytes.Equal(b, before) {
		t.Errorf("%q became %q", before, b)
	}
}

// reads fails where the text is not read as n, or not cut off at just n.
func reads(t *testing.T, s string, n int) {
	t.Helper()
	for _, most := range []int{n, n + 1, 999999999, math.MaxInt32, math.MaxInt} {
		if got, err := lex.Number(s, most); got != n || err != nil {
			t.Errorf("Number(%q, %d) = %d, %v", s, most, got, err)
		}
	}
	for _, most := range []int{n - 1, -1, -n - 1, math.MinInt32, math.MinInt} {
		if got, err := lex.Number(s, most); got != 0 || err != api.ErrRange {
			t.Errorf("Number(%q, %d) = %d, %v", s, most, got, err)
		}
	}
}

// noNumber fails where the text is taken for a number, whatever the most.
func noNumber(t *testing.T, s string) {
	t.Helper()
	for _, most := range []int{0, 1, 9, 999999999, 9999999999, math.MaxInt, -1, -9, math.MinInt} {
		if got, err := lex.Number(s, most); got != 0 || err != api.ErrNumber {
			t.Errorf("Number(%.40q, %d) = %d, %v", s, most, got, err)
		}
	}
}

// P5.1: numbers of each count of digits, with a most that is just the number, below and above it.
func TestNumber(t *testing.T) {
	for n := range 70000 {
		reads(t, strconv.Itoa(n), n)
	}
	cases := []struct {
		s string
		n int
	}{
		{"0", 0}, {"1", 1}, {"9", 9}, {"10", 10}, {"99", 99}, {"100", 100}, {"65535", 65535}, {"65536", 65536},
		{"100000", 100000}, {"999999", 999999}, {"1000000", 1000000}, {"9999999", 9999999}, {"10000000", 10000000},
		{"12345678", 12345678}, {"99999999", 99999999}, {"100000000", 100000000}, {"123456789", 123456789},
		{"987654321", 987654321}, {"900000000", 900000000}, {"999999998", 999999998}, {"999999999", 999999999},
	}
	for _, c := range cases {
		reads(t, c.s, c.n)
	}
}

// P5.1: most of 0 takes 0 alone, and below 0 nothing.
func TestNumberMost(t *testing.T) {
	cases := []struct {
		s    string
		most int
		n    int
		err  error
	}{
		{"0", 0, 0, nil}, {"1", 0, 0, api.ErrRange}, {"9", 0, 0, api.ErrRange}, {"999999999", 0, 0, api.ErrRange},
		{"0", -1, 0, api.ErrRange}, {"1", -1, 0, api.ErrRange}, {"0", math.MinInt, 0, api.ErrRange}, {"999999999", math.MinInt, 0, api.ErrRange},
		{"65535", api.MaxCost, api.MaxCost, nil}, {"65536", api.MaxCost, 0, api.ErrRange}, {"9", 10, 9, nil}, {"10", 9, 0, api.ErrRange},
		{"999999999", 999999998, 0, api.ErrRange}, {"999999999", 999999999, 999999999, nil}, {"999999999", math.MaxInt, 999999999, nil},
	}
	for _, c := range cases {
		if n, err := lex.Number(c.s, c.most); n != c.n || err != c.err {
			t.Errorf("Number(%q, %d) = %d, %v", c.s, c.most, n, err)
		}
	}
}

// P5.1: what is no number is ErrNumber, also where it would be above most.
func TestNumberWrong(t *testing.T) {
	for _, s := range []string{
		"", "00", "01", "007", "000000000", "000000001", "0000000000", "0000000001", "00000000000000000001",
		"1000000000", "1234567890", "4294967295", "4294967296", "4294967297", "9999999999", "18446744073709551615", "18446744073709551617",
		"-1", "+1", "-0", "+0", "-", "+", "--1", "-01", "-999999999", "+99999999", "1-", "1+", "-9223372036854775808",
		"a", "1a", "a1", "1a1", "0x1", "0b1", "0o7", "1e1", "1E1", "f", "1.0", "1.", ".1", "1,000", "1_0", "_1", "1_", "0_1", "inf", "nan",
		" ", " 1", "1 ", "1 1", "\t1", "1\t", "1\n", "\n1", "1\r", "\v1", "1\x00", "\x001", "/", ":", "1/", "1:",
		"\u0661", "\u00b2", "\uff11", "1\u0661", "\xff", "1\xff", "\xb1",
		strings.Repeat("1", 10000), strings.Repeat("0", 10000), strings.Repeat("9", 1<<20),
	} {
		noNumber(t, s)
	}
}

// P5.1: each byte in each place of numbers of 1 to 9 digits.
func TestEachByteInNumber(t *testing.T) {
	for digits := 1; digits <= 9; digits++ {
		for place := range digits {
			for n := range 256 {
				b := []byte("987654321"[:digits])
				b[place] = byte(n)
				s := string(b)
				if n < '0' || n > '9' || n == '0' && place == 0 && digits > 1 {
					noNumber(t, s)
					continue
				}
				want := 0
				for _, digit := range b {
					want = 10*want + int(digit) - '0'
				}
				reads(t, s, want)
			}
		}
	}
}

// named fails where the text is no name.
func named(t *testing.T, s string) {
	t.Helper()
	if err := lex.Name(s); err != nil {
		t.Errorf("Name(%q) = %v", s, err)
	}
}

// unnamed fails where the text is taken for a name.
func unnamed(t *testing.T, s string) {
	t.Helper()
	if err := lex.Name(s); err != api.ErrName {
		t.Errorf("Name(%.40q) = %v", s, err)
	}
}

// P5.1: names of each length, and longer ones.
func TestNameLengths(t *testing.T) {
	const all = "abcdefghijklmnopqrstuvwxyz"
	for n := 1; n <= api.MaxName; n++ {
		for _, s := range []string{all[:n], all[len(all)-n:], strings.Repeat("z", n), "a" + strings.Repeat("0", n-1), "z" + strings.Repeat("-", n-1)} {
			named(t, s)
		}
	}
	for _, n := range []int{api.MaxName + 1, api.MaxName + 2, 2 * api.MaxName, 256, 256 + 1, 1 << 16, 1<<16 + 1} {
		for _, s := range []string{strings.Repeat("a", n), strings.Repeat("z", n), "a" + strings.Repeat("0", n-1), "a" + strings.Repeat("-", n-1)} {
			unnamed(t, s)
		}
	}
}

// P5.1: names written out, and what is none.
func TestNameWritten(t *testing.T) {
	for _, s := range []string{"a", "z", "r1", "a-b", "a-", "a--", "a0", "a9", "a-0", "lan-10", "abcdefghij-9", "n-0-1-2-3-4z"} {
		named(t, s)
	}
	for _, s := range []string{
		"", "-", "0", "9", "-a", "--a", "0a", "1a", "9a", "9-a", "1", "12", "A", "Z", "Aa", "aA", "aZ", "abcdefghijkL", "Abcdefghijkl",
		"a_", "a_b", "_a", "a.", "a.b", ".a", "a b", " a", "a ", "a\t", "a\n", "\na", "a\r", "a\x00", "\x00a", "a#", "a/8", "a:", "a`", "a{", "a@", "a[", "a+", "a,", "`", "{",
		"\u00E4", "a\u00E4", "\u00DF", "a\uFF41", "\uFF41", "a\u0661", "a\u2010", "a\u2212", "\xE1", "a\xE1", "a\x80", "a\xFF", "\xFFa", "a\xAD", "a\xB0",
		"abcdefghijk\u00E4", "abcdefghijkl\n", "abcdefghij-90",
	} {
		unnamed(t, s)
	}
}

// P5.1: each byte in each place of names of each length.
func TestEachByteInName(t *testing.T) {
	for length := 1; length <= api.MaxName+1; length++ {
		for place := range length {
			for n := range 256 {
				b := []byte("abcdefghijklm"[:length])
				b[place] = byte(n)
				letter, other := n >= 'a' && n <= 'z', n >= '0' && n <= '9' || n == '-'
				if length <= api.MaxName && (letter || other && place > 0) {
					named(t, string(b))
				} else {
					unnamed(t, string(b))
				}
			}
		}
	}
}

// P5.1: whatever the text.
func FuzzText(f *testing.F) {
	number, name := regexp.MustCompile(`\A(0|[1-9][0-9]{0,8})\z`), regexp.MustCompile(`\A[a-z][-a-z0-9]{0,11}\z`)
	for _, c := range written() {
		f.Add(c.s, 0)
	}
	for _, s := range []string{"", "0", "00", "65535", "999999999", "1000000000", "-1", "abcdefghij-9", "abcdefghij-90", "9a", strings.Repeat("a b\n", 5000)} {
		f.Add(s, 65535)
		f.Add(s, -1)
	}
	f.Fuzz(func(t *testing.T, s string, most int) {
		lines, err := lex.Lines(s)
		if len(s) > 16384 && (len(lines) != 0 || err != api.ErrMany) || len(s) <= 16384 && (err != nil || !equal(lines, expected(s))) {
			t.Errorf("Lines(%q) = %s, %v", s, told(lines), err)
		}
		if name.MatchString(s) {
			named(t, s)
		} else {
			unnamed(t, s)
		}
		if !number.MatchString(s) {
			noNumber(t, s)
			return
		}
		want, _ := strconv.ParseInt(s, 10, 64)
		reads(t, s, int(want))
		if n, err := lex.Number(s, most); want > int64(most) && (n != 0 || err != api.ErrRange) || want <= int64(most) && (n != int(want) || err != nil) {
			t.Errorf("Number(%q, %d) = %d, %v", s, most, n, err)
		}
	})
}
