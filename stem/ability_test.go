// The nodes of a form have no wrappers: that their cores are asked is seen from
// within.
package stem

import (
	"testing"

	"espalier/api"
	"espalier/node"
)

func TestTheCoreIsAsked(t *testing.T) {
	five, _ := node.Make(api.Tree{Kind: "base.int", Num: 5})
	cover, _ := node.Cover(five)
	origin, _ := node.Wrap(cover, api.Place{})
	around, _ := node.Cover(origin)
	for _, c := range []struct {
		h               *node.Handle
		wrapped, origin bool
	}{{five, false, false}, {cover, true, false}, {origin, true, true}, {around, true, false}} {
		for _, a := range abilities() {
			want := a.name == "Literal" || a.name == "Pure" || a.name == "Total" || a.name == "Sorted"
			want = want || a.name == "Wrapped" && c.wrapped || a.name == "Origin" && c.origin
			if a.has(c.h.Node()) != want {
				t.Errorf("P18.2: %s of %v", a.name, node.Abilities(c.h))
			}
		}
	}
}
