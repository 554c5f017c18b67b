package fault

import (
	"slices"
	"strconv"
	"strings"

	"espalier/api"
)

// The kinds are handed out as pointers: two of them held against each other
// by == would panic as structs, for a place has a list in it.

// coded has a number and nothing else.
type coded struct {
	code api.Errno
}

func (c *coded) Code() api.Errno { return c.code }

func (c *coded) Error() string { return "error " + strconv.Itoa(int(c.code)) }

// located has a place, too.
type located struct {
	coded
	place api.Place
}

func locate(c api.Errno, p api.Place) located {
	return located{coded{c}, copied(p)}
}

func (l *located) Where() api.Place { return copied(l.place) }

func (l *located) Error() string { return l.coded.Error() + " at " + spelt(l.place) }

// raised has what was said, too.
type raised struct {
	located
	said string
}

func (r *raised) Said() string { return r.said }

func (r *raised) Error() string { return r.located.Error() + ": " + r.said }

// lacking has a kind and the ability that it lacks, too.
type lacking struct {
	located
	kind, ability string
}

func (l *lacking) Lacks() (kind, ability string) { return l.kind, l.ability }

func (l *lacking) Error() string { return l.located.Error() + ": " + l.kind + " " + l.ability }

// noted is a note around an error. It embeds nothing, so that it has none of
// the abilities of what is within.
type noted struct {
	within error
	note   string
}

func (n *noted) Unwrap() error { return n.within }

func (n *noted) Error() string {
	text, _ := guarded(n.within.Error)
	return n.note + ": " + text
}

func copied(p api.Place) api.Place {
	return api.Place{Fun: p.Fun, Path: slices.Clone(p.Path)}
}

func spelt(p api.Place) string {
	path := "-"
	if len(p.Path) > 0 {
		path = digits(p.Path)
	}
	if p.Fun == "" {
		return path
	}
	return p.Fun + ":" + path
}

func digits(path []int) string {
	var b strings.Builder
	for i, n := range path {
		if i > 0 {
			b.WriteByte('.')
		}
		b.WriteString(strconv.Itoa(n))
	}
	return b.String()
}
