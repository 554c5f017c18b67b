package sign

import "espalier/api"

const (
	maxWord = 16
	maxName = 32
	// The longest path is that of a leaf of a tree as deep as may be.
	maxPath = api.MaxDepth - 1
	// The last kid of a root that has all the other nodes as kids.
	maxKid = api.MaxNodes - 2
	// The text of the path without numbers.
	root = "-"
)

func digit(r rune) bool { return r >= '0' && r <= '9' }

func ofWord(r rune) bool { return r >= 'a' && r <= 'z' || digit(r) }

func ofName(r rune) bool { return ofWord(r) || r >= 'A' && r <= 'Z' || r == '_' }

// spelt tells whether a text has 1 to most signs, each one such that may
// stand there, and no digit first. It may count bytes: no sign that may stand
// there has two of them.
func spelt(s string, most int, may func(rune) bool) bool {
	if s == "" || len(s) > most {
		return false
	}
	for i, r := range s {
		if !may(r) || i == 0 && digit(r) {
			return false
		}
	}
	return true
}

// numbers cuts out at least one and at most count numbers, a point between
// each two, none of them above most. It leaves off at the first sign that is
// amiss, so that a text of any length costs no more than one that may be.
func numbers(s string, count, most int) ([]int, bool) {
	var cut []int
number:
	for len(cut) < count {
		n := 0
		for i, r := range s {
			if r == '.' && i > 0 {
				cut = append(cut, n)
				s = s[i+1:]
				continue number
			}
			noughtAhead := i > 0 && n == 0
			if !digit(r) || noughtAhead {
				return nil, false
			}
			if n = n*10 + int(r-'0'); n > most {
				return nil, false
			}
		}
		if s == "" {
			return nil, false
		}
		return append(cut, n), true
	}
	return nil, false
}

// path tells whether a path may be.
func path(p []int) bool {
	if len(p) > maxPath {
		return false
	}
	for _, n := range p {
		if n < 0 || n > maxKid {
			return false
		}
	}
	return true
}
