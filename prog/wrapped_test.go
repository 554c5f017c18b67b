// A program that New made has no wrappers: what is told of those that stand in a
// program is seen from within.
package prog

import (
	"slices"
	"testing"

	"espalier/api"
	"espalier/node"
	"espalier/set"
)

// wrapped is a program with the function f, whose body came from g (5), around
// it a cover; and the main tree, an unknown node with three kids, the first in
// two wrappers that came from elsewhere, the second in covers alone, the third
// unknown and in wrappers.
func wrapped(t *testing.T) (*Prog, map[string]*node.Handle) {
	t.Helper()
	s, e := set.New([]string{"num"})
	if e != nil {
		t.Fatal(e)
	}
	of := func(kind string, kids ...*node.Handle) *node.Handle {
		h, e := s.Make(api.Tree{Kind: kind}, kids...)
		if e != nil {
			t.Fatal(e)
		}
		return h
	}
	wrap := func(h *node.Handle, fun string, path ...int) *node.Handle {
		w, _ := node.Wrap(h, api.Place{Fun: fun, Path: path})
		return w
	}
	cover := func(h *node.Handle) *node.Handle {
		c, _ := node.Cover(h)
		return c
	}
	hs := map[string]*node.Handle{}
	hs["body"] = cover(wrap(of("base.yes"), "g", 5))
	hs["0"] = wrap(cover(wrap(of("num.neg", wrap(of("base.unit"), "", 9)), "h", 1, 2)), "", 7, 8)
	hs["1"] = cover(cover(of("base.no")))
	hs["2"] = cover(wrap(of("geo.near"), ""))
	hs["main"] = cover(of("geo.far", hs["0"], hs["1"], hs["2"]))
	f := api.Fun{Name: "f", Result: api.Sort{Name: "truth"}}
	return &Prog{s, []fun{{f, hs["body"]}}, hs["main"]}, hs
}

func place(fun string, path ...int) api.Place { return api.Place{Fun: fun, Path: path} }

func samePlace(a, b api.Place) bool { return a.Fun == b.Fun && slices.Equal(a.Path, b.Path) }

func TestWrappersStandWhereTheyStand(t *testing.T) {
	p, hs := wrapped(t)
	for name, at := range map[string]api.Place{"body": place("f"), "main": place(""), "0": place("", 0), "1": place("", 1), "2": place("", 2)} {
		if n, ok := p.At(at); !ok || n != hs[name].Node() {
			t.Errorf("P19.3: At %v is not the wrapper there", at)
		}
	}
	if _, n, _ := p.Fun(0); n != hs["body"].Node() || p.Main() != hs["main"].Node() {
		t.Errorf("P19.2: a root is not the wrapper there")
	}
	want := []api.Place{place("f"), place(""), place("", 0), place("", 0, 0), place("", 1), place("", 2)}
	if got := p.Places(); !slices.EqualFunc(got, want, samePlace) {
		t.Errorf("P19.3: Places %v", got)
	}
	plain := p.Plain()
	if plain.Funs[0].Body.Kind != "base.yes" || plain.Main.Kind != "geo.far" || plain.Main.Kids[0].Kids[0].Kind != "base.unit" {
		t.Errorf("P19.2: Plain %v", plain)
	}
}

func TestFromOfWrappers(t *testing.T) {
	p, _ := wrapped(t)
	for _, c := range []struct{ at, from api.Place }{
		{place("f"), place("g", 5)}, {place(""), place("")}, {place("", 0), place("", 7, 8)}, {place("", 0, 0), place("", 9)}, {place("", 1), place("", 1)}, {place("", 2), place("")},
	} {
		for range 2 {
			from, ok := p.From(c.at)
			if !ok || !samePlace(from, c.from) {
				t.Errorf("P19.3: From %v is %v, not %v", c.at, from, c.from)
			}
			clear(from.Path)
		}
	}
}

func TestLostOfWrappers(t *testing.T) {
	p, _ := wrapped(t)
	if got := p.Lost(); !slices.EqualFunc(got, []api.Place{place(""), place("", 2)}, samePlace) {
		t.Errorf("P19.3: Lost %v", got)
	}
	other, _ := set.New(nil)
	u, e := p.Under(other)
	if e != nil || !Same(p, u) || len(u.Lost()) != 3 {
		t.Fatalf("P19.4: %v", e)
	}
	if from, _ := u.From(place("f")); !samePlace(from, place("f")) {
		t.Errorf("P19.4: From f () is %v: New's programs have no wrappers", from)
	}
}
