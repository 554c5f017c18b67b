package kit

import (
	"slices"

	"espalier/api"
	"espalier/node"
	"espalier/sign"
)

// add lays a row behind the others of a kit that is being made.
func (k *Kit) add(r api.Row) api.Errno {
	if e := may(r); e != api.OK {
		return e
	}
	if kit, _, _ := sign.Kind(r.Kind); kit != k.name {
		return api.ErrName
	}
	if _, twice := k.at[r.Kind]; twice {
		return api.ErrTwice
	}
	k.at[r.Kind] = len(k.rows)
	k.rows = append(k.rows, copied(r))
	return api.OK
}

// made calls the maker; of one that panics the answer is nil, as it is of one
// that answers nothing.
func (k *Kit) made(t api.Tree, kids []*node.Handle) (h *node.Handle) {
	defer func() { _ = recover() }()
	// A list of its own: whatever the maker does to it, the caller's stays.
	return k.make(api.Tree{Kind: t.Kind, Num: t.Num, Text: t.Text}, slices.Clone(kids)...)
}

// matches tells whether a node is what was asked for, its abilities aside.
func matches(n api.Node, t api.Tree, kids []api.Node) bool {
	if n.Kind() != t.Kind || n.Num() != t.Num || n.Text() != t.Text || n.Len() != len(kids) {
		return false
	}
	for i, kid := range kids {
		if n.Kid(i) != kid {
			return false
		}
	}
	return true
}
