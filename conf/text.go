package conf

import (
	"slices"
	"strconv"
	"strings"

	"rivulet/addr"
	"rivulet/api"
	"rivulet/lex"
)

// Text writes a valid network as Parse reads it; of another one it writes nothing.
func Text(c api.Config) string {
	if Valid(c) != nil {
		return ""
	}
	var b strings.Builder
	line := func(words ...string) {
		b.WriteString(strings.Join(words, " ") + "\n")
	}
	for _, r := range c.Routers {
		line("router", r.Name, strconv.Itoa(r.Rank))
	}
	for _, l := range c.Links {
		line("link", l.Name, addr.PrefixText(l.Prefix))
	}
	for _, p := range c.Ports {
		line("port", c.Routers[p.Router].Name, c.Links[p.Link].Name, addr.Text(p.Addr))
	}
	for _, r := range c.Routes {
		line("route", c.Routers[r.Router].Name, addr.PrefixText(r.To), addr.Text(r.Via), strconv.Itoa(r.Cost))
	}
	for _, r := range c.Ranges {
		line("root", addr.PrefixText(r.Groups), addr.Text(r.Root))
	}
	for _, s := range c.Sources {
		line("source", c.Links[s.Link].Name, addr.Text(s.Key.Source), addr.Text(s.Key.Group))
	}
	for _, m := range c.Members {
		line(memberWords(m, c.Links[m.Link].Name)...)
	}
	return b.String()
}

// memberWords are the words of a member's line.
func memberWords(m api.Member, link string) []string {
	how := "but"
	if m.Only {
		how = "only"
	}
	words := []string{"member", link, addr.Text(m.Group), how}
	for _, s := range m.Sources {
		words = append(words, addr.Text(s))
	}
	return words
}

// Parse reads a network, and tells by an *api.At in which line something is wrong first.
func Parse(s string) (api.Config, error) {
	lines, err := lex.Lines(s)
	if err != nil {
		return api.Config{}, err
	}
	var c api.Config
	for _, line := range lines {
		if err := readLine(&c, line.Words); err != nil {
			return api.Config{}, &api.At{Pos: line.No, Err: err}
		}
	}
	return c, nil
}

// readLine puts what a line tells behind what there is.
func readLine(c *api.Config, words []string) error {
	r := reader{c: c, words: words[1:]}
	r.item(words[0])
	if r.err != nil {
		return r.err
	}
	return Valid(*c)
}

// reader reads words in their order into a network; the first error stays, and nothing is read behind it.
type reader struct {
	c     *api.Config
	words []string
	err   error
}

// item reads the words behind the first, which tells what they are.
func (r *reader) item(kind string) {
	c, n := r.c, len(r.words)
	switch {
	case kind == "router" && n == 2:
		c.Routers = append(c.Routers, api.Router{Name: next(r, name), Rank: next(r, cost)})
	case kind == "link" && n == 2:
		c.Links = append(c.Links, api.Link{Name: next(r, name), Prefix: next(r, addr.ParsePrefix)})
	case kind == "port" && n == 3:
		c.Ports = append(c.Ports, api.Port{Router: next(r, r.router), Link: next(r, r.link), Addr: next(r, addr.Parse)})
	case kind == "route" && n == 4:
		c.Routes = append(c.Routes, api.Route{Router: next(r, r.router), To: next(r, addr.ParsePrefix), Via: next(r, addr.Parse), Cost: next(r, cost)})
	case kind == "root" && n == 2:
		c.Ranges = append(c.Ranges, api.Range{Groups: next(r, addr.ParsePrefix), Root: next(r, addr.Parse)})
	case kind == "source" && n == 3:
		c.Sources = append(c.Sources, api.Source{Link: next(r, r.link), Key: api.Key{Source: next(r, addr.Parse), Group: next(r, addr.Parse)}})
	case kind == "member" && n >= 3:
		c.Members = append(c.Members, r.member())
	default:
		r.err = api.ErrWord
	}
}

// member reads a member's words: behind the third all are sources.
func (r *reader) member() api.Member {
	m := api.Member{Link: next(r, r.link), Group: next(r, addr.Parse), Only: next(r, only)}
	for range r.words {
		m.Sources = append(m.Sources, next(r, addr.Parse))
	}
	return m
}

// next reads the next word, if nothing was wrong so far.
func next[T any](r *reader, read func(word string) (T, error)) T {
	var value T
	if r.err == nil {
		value, r.err = read(r.words[0])
		r.words = r.words[1:]
	}
	return value
}

// name reads a name.
func name(word string) (string, error) {
	return word, lex.Name(word)
}

// cost reads a cost, or a rank.
func cost(word string) (int, error) {
	return lex.Number(word, api.MaxCost)
}

// only reads whether a member listens to its sources alone.
func only(word string) (bool, error) {
	switch word {
	case "only":
		return true, nil
	case "but":
		return false, nil
	}
	return false, api.ErrWord
}

// router reads a router's name: it is its place.
func (r *reader) router(word string) (int, error) {
	return found(slices.IndexFunc(r.c.Routers, func(x api.Router) bool { return x.Name == word }))
}

// link reads a link's name: it is its place.
func (r *reader) link(word string) (int, error) {
	return found(slices.IndexFunc(r.c.Links, func(x api.Link) bool { return x.Name == word }))
}

// found is a place, if there is one.
func found(place int) (int, error) {
	if place < 0 {
		return 0, api.ErrNone
	}
	return place, nil
}
