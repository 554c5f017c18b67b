package set

import (
	"slices"
	"strings"

	"espalier/api"
	"espalier/node"
	"espalier/plug"
)

// ability is one by its name, and how a node is asked for it.
type ability struct {
	name string
	of   func(api.Node) bool
}

// abilities tells what a node can do. Those that no node of a known kind has
// aren't asked.
func abilities(n api.Node) []string {
	var names []string
	for _, a := range []ability{
		{"Literal", func(n api.Node) bool { _, ok := n.(api.Literal); return ok }},
		{"Strict", func(n api.Node) bool { _, ok := n.(api.Strict); return ok }},
		{"Lazy", func(n api.Node) bool { _, ok := n.(api.Lazy); return ok }},
		{"Binder", func(n api.Node) bool { _, ok := n.(api.Binder); return ok }},
		{"User", func(n api.Node) bool { _, ok := n.(api.User); return ok }},
		{"Caller", func(n api.Node) bool { _, ok := n.(api.Caller); return ok }},
		{"Pure", func(n api.Node) bool { _, ok := n.(api.Pure); return ok }},
		{"Total", func(n api.Node) bool { _, ok := n.(api.Total); return ok }},
		{"Sorted", func(n api.Node) bool { _, ok := n.(api.Sorted); return ok }},
		{"Sugar", func(n api.Node) bool { _, ok := n.(api.Sugar); return ok }},
		{"Framed", func(n api.Node) bool { _, ok := n.(api.Framed); return ok }},
	} {
		if a.of(n) {
			names = append(names, a.name)
		}
	}
	return names
}

// sample gives a node of a known kind. Any one that fits will do: the nodes of
// a kind have the same abilities, whatever else they are.
func sample(shelf *plug.Shelf, kind string) api.Node {
	row, _ := shelf.Row(kind)
	unit, _ := node.Make(api.Tree{Kind: "base.unit"})
	h, _ := shelf.Make(api.Tree{Kind: kind, Text: text(row)}, slices.Repeat([]*node.Handle{unit}, row.Min)...)
	return h.Node()
}

// text gives one that a row asks of a node with as few kids as may be.
func text(r api.Row) string {
	const name = "x"
	switch r.Text {
	case api.TextName, api.TextUse:
		return name
	case api.TextNames:
		return strings.Join(slices.Repeat([]string{name}, r.Min-1), " ")
	}
	return ""
}
