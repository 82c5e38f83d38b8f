package conf

import (
	"slices"

	"rivulet/addr"
	"rivulet/api"
	"rivulet/lex"
)

// Valid tells what is wrong first with a network: list by list, item by item.
func Valid(c api.Config) error {
	for _, check := range []func(api.Config) error{routers, links, ports, routes, ranges, sources, members} {
		if err := check(c); err != nil {
			return err
		}
	}
	return nil
}

// firstError is the error of the first item that has one; an item is held against those ahead of it, and there is none behind the most.
func firstError[T any](list []T, most int, check func(item T, ahead []T) error) error {
	for i, item := range list {
		if i >= most {
			return api.ErrMany
		}
		if err := check(item, list[:i]); err != nil {
			return err
		}
	}
	return nil
}

// routers checks the routers.
func routers(c api.Config) error {
	return firstError(c.Routers, api.MaxRouters, func(r api.Router, ahead []api.Router) error {
		if err := lex.Name(r.Name); err != nil {
			return err
		}
		switch {
		case slices.ContainsFunc(ahead, func(x api.Router) bool { return x.Name == r.Name }):
			return api.ErrTwice
		case !costs(r.Rank):
			return api.ErrRange
		}
		return nil
	})
}

// links checks the links.
func links(c api.Config) error {
	return firstError(c.Links, api.MaxLinks, func(l api.Link, ahead []api.Link) error {
		if err := lex.Name(l.Name); err != nil {
			return err
		}
		switch {
		case slices.ContainsFunc(ahead, func(x api.Link) bool { return x.Name == l.Name }):
			return api.ErrTwice
		case !addr.Valid(l.Prefix):
			return api.ErrRange
		case addr.Within(l.Prefix, groups()) || addr.Within(groups(), l.Prefix):
			return api.ErrKind
		}
		return nil
	})
}

// ports checks the ports, behind the routers and the links.
func ports(c api.Config) error {
	return firstError(c.Ports, api.MaxPorts, func(p api.Port, ahead []api.Port) error {
		switch {
		case !placed(p.Router, c.Routers) || !placed(p.Link, c.Links):
			return api.ErrNone
		case !on(c.Links[p.Link], p.Addr):
			return api.ErrAway
		case slices.ContainsFunc(ahead, func(x api.Port) bool {
			return x.Addr == p.Addr || x.Router == p.Router && x.Link == p.Link
		}):
			return api.ErrTwice
		}
		return nil
	})
}

// routes checks the routes, behind the routers.
func routes(c api.Config) error {
	return firstError(c.Routes, api.MaxRoutes, func(r api.Route, _ []api.Route) error {
		switch {
		case !placed(r.Router, c.Routers):
			return api.ErrNone
		case !addr.Valid(r.To) || !costs(r.Cost):
			return api.ErrRange
		case !single(r.Via):
			return api.ErrKind
		}
		return nil
	})
}

// ranges checks the ranges.
func ranges(c api.Config) error {
	return firstError(c.Ranges, api.MaxRanges, func(r api.Range, ahead []api.Range) error {
		switch {
		case !addr.Valid(r.Groups):
			return api.ErrRange
		case !addr.Within(r.Groups, groups()) || !single(r.Root):
			return api.ErrKind
		case slices.ContainsFunc(ahead, func(x api.Range) bool { return x.Groups == r.Groups }):
			return api.ErrTwice
		}
		return nil
	})
}

// sources checks the sources, behind the links and the ports.
func sources(c api.Config) error {
	return firstError(c.Sources, api.MaxSources, func(s api.Source, ahead []api.Source) error {
		switch {
		case !placed(s.Link, c.Links):
			return api.ErrNone
		case !on(c.Links[s.Link], s.Key.Source):
			return api.ErrAway
		case !addr.Group(s.Key.Group):
			return api.ErrKind
		case taken(s, c.Ports, ahead):
			return api.ErrTwice
		}
		return nil
	})
}

// taken tells whether a source's key is another's already, or its address that of something else.
func taken(s api.Source, ports []api.Port, ahead []api.Source) bool {
	return slices.ContainsFunc(ports, func(x api.Port) bool { return x.Addr == s.Key.Source }) ||
		slices.ContainsFunc(ahead, func(x api.Source) bool {
			return x.Key == s.Key || x.Key.Source == s.Key.Source && x.Link != s.Link
		})
}

// members checks the members, behind the links.
func members(c api.Config) error {
	return firstError(c.Members, api.MaxMembers, func(m api.Member, _ []api.Member) error {
		switch {
		case !placed(m.Link, c.Links):
			return api.ErrNone
		case !addr.Group(m.Group) || slices.ContainsFunc(m.Sources, func(s api.Addr) bool { return !single(s) }):
			return api.ErrKind
		case len(m.Sources) > api.MaxListed:
			return api.ErrMany
		case repeats(m.Sources):
			return api.ErrTwice
		}
		return nil
	})
}

// repeats tells whether an address is there twice.
func repeats(list []api.Addr) bool {
	for i, a := range list {
		if slices.Contains(list[:i], a) {
			return true
		}
	}
	return false
}

// groups are all groups: 224.0.0.0/4.
func groups() api.Prefix {
	return api.Prefix{Addr: 224 << 24, Bits: 4}
}

// single tells whether an address can be that of one alone: no group, and not 0.
func single(a api.Addr) bool {
	return a != 0 && !addr.Group(a)
}

// on tells whether an address is one of a link's.
func on(l api.Link, a api.Addr) bool {
	return a != 0 && addr.In(l.Prefix, a)
}

// costs tells whether a number may be a cost, or a rank.
func costs(n int) bool {
	return n >= 0 && n <= api.MaxCost
}

// placed tells whether a list has that place.
func placed[T any](place int, list []T) bool {
	return place >= 0 && place < len(list)
}
