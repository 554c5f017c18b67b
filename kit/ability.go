package kit

import (
	"slices"

	"espalier/api"
)

// ability is one by its name: told, if a row may name it; of asks a node.
type ability struct {
	name string
	told bool
	of   func(api.Node) bool
}

// abilities has doc/00's order.
func abilities() []ability {
	return []ability{
		{"Literal", true, func(n api.Node) bool { _, ok := n.(api.Literal); return ok }},
		{"Strict", true, func(n api.Node) bool { _, ok := n.(api.Strict); return ok }},
		{"Lazy", true, func(n api.Node) bool { _, ok := n.(api.Lazy); return ok }},
		{"Binder", true, func(n api.Node) bool { _, ok := n.(api.Binder); return ok }},
		{"User", true, func(n api.Node) bool { _, ok := n.(api.User); return ok }},
		{"Caller", true, func(n api.Node) bool { _, ok := n.(api.Caller); return ok }},
		{"Pure", true, func(n api.Node) bool { _, ok := n.(api.Pure); return ok }},
		{"Total", true, func(n api.Node) bool { _, ok := n.(api.Total); return ok }},
		{"Sorted", true, func(n api.Node) bool { _, ok := n.(api.Sorted); return ok }},
		{"Sugar", true, func(n api.Node) bool { _, ok := n.(api.Sugar); return ok }},
		{"Framed", true, func(n api.Node) bool { _, ok := n.(api.Framed); return ok }},
		{"Wrapped", false, func(n api.Node) bool { _, ok := n.(api.Wrapped); return ok }},
		{"Origin", false, func(n api.Node) bool { _, ok := n.(api.Origin); return ok }},
		{"Opaque", false, func(n api.Node) bool { _, ok := n.(api.Opaque); return ok }},
	}
}

// ordered tells whether a row may name these abilities.
func ordered(names []string) bool {
	left, pure := abilities(), false
	for _, name := range names {
		i := slices.IndexFunc(left, func(a ability) bool { return a.told && a.name == name })
		if i < 0 || name == "Total" && !pure {
			return false
		}
		pure = pure || name == "Pure"
		left = left[i+1:]
	}
	return true
}

// odd tells the first ability that a node has and is not named, or is named
// and the node has not.
func odd(n api.Node, names []string) (string, bool) {
	for _, a := range abilities() {
		if a.of(n) != slices.Contains(names, a.name) {
			return a.name, true
		}
	}
	return "", false
}
