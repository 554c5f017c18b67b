package stem

import (
	"slices"

	"espalier/api"
	"espalier/node"
)

// ability is one by its name: outer, if it is asked of a wrapper itself and not
// of its core.
type ability struct {
	name  string
	outer bool
	of    func(api.Node) bool
}

// abilities has doc/00's order.
func abilities() []ability {
	return []ability{
		{"Literal", false, func(n api.Node) bool { _, ok := n.(api.Literal); return ok }},
		{"Strict", false, func(n api.Node) bool { _, ok := n.(api.Strict); return ok }},
		{"Lazy", false, func(n api.Node) bool { _, ok := n.(api.Lazy); return ok }},
		{"Binder", false, func(n api.Node) bool { _, ok := n.(api.Binder); return ok }},
		{"User", false, func(n api.Node) bool { _, ok := n.(api.User); return ok }},
		{"Caller", false, func(n api.Node) bool { _, ok := n.(api.Caller); return ok }},
		{"Pure", false, func(n api.Node) bool { _, ok := n.(api.Pure); return ok }},
		{"Total", false, func(n api.Node) bool { _, ok := n.(api.Total); return ok }},
		{"Sorted", false, func(n api.Node) bool { _, ok := n.(api.Sorted); return ok }},
		{"Sugar", false, func(n api.Node) bool { _, ok := n.(api.Sugar); return ok }},
		{"Framed", false, func(n api.Node) bool { _, ok := n.(api.Framed); return ok }},
		{"Wrapped", true, func(n api.Node) bool { _, ok := n.(api.Wrapped); return ok }},
		{"Origin", true, func(n api.Node) bool { _, ok := n.(api.Origin); return ok }},
		{"Opaque", false, func(n api.Node) bool { _, ok := n.(api.Opaque); return ok }},
	}
}

func abilityOf(name string) (ability, bool) {
	for _, a := range abilities() {
		if a.name == name {
			return a, true
		}
	}
	return ability{}, false
}

// has tells whether a node has the ability.
func (a ability) has(n api.Node) bool {
	if !a.outer {
		n = core(n)
	}
	return a.of(n)
}

func core(n api.Node) api.Node {
	h, _ := node.Core(node.Hold(n))
	return h.Node()
}

// lost tells the paths of the Opaque ones among a node, which has that path,
// and all that is in it.
func lost(n api.Node, path []int) [][]int {
	var paths [][]int
	if _, ok := core(n).(api.Opaque); ok {
		paths = append(paths, slices.Clone(path))
	}
	for i := range n.Len() {
		paths = append(paths, lost(n.Kid(i), append(path, i))...)
	}
	return paths
}
