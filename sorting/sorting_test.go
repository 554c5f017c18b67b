package sorting_test

// The tests of doc/16's words 'To sort a tree': which sort each node comes to, and which findings there are, in order.

import (
	"slices"
	"strings"
	"testing"

	"espalier/api"
	"espalier/bind"
	"espalier/call"
	"espalier/flow"
	"espalier/guard"
	"espalier/kit"
	"espalier/list"
	"espalier/node"
	"espalier/num"
	"espalier/part"
	"espalier/shape"
	"espalier/sorting"
	"espalier/truth"
)

func leaf(kind string) api.Tree { return api.Tree{Kind: kind} }

func of(kind string, kids ...api.Tree) api.Tree { return api.Tree{Kind: kind, Kids: kids} }

func named(kind, name string, kids ...api.Tree) api.Tree {
	return api.Tree{Kind: kind, Text: name, Kids: kids}
}

func use(name string) api.Tree { return named("base.var", name) }

func kits() map[string]*kit.Kit {
	all := map[string]*kit.Kit{}
	for _, k := range []*kit.Kit{kit.Base(), num.Kit(), truth.Kit(), list.Kit(), bind.Kit(), call.Kit(), flow.Kit(), guard.Kit()} {
		all[k.Name()] = k
	}
	return all
}

// others are nodes that the program's kits don't make.
type (
	lost struct{ part.Base }
	bare struct{ part.Base }
	told struct {
		part.Base
		part.Sorted
	}
	does  struct{ part.Base }
	spelt struct {
		part.Base
		as api.Node
	}
	odd struct {
		part.Base
		signs api.Signature
	}
)

func (*lost) Lost() string          { return "no" }
func (*lost) Op() string            { return "no.body" }
func (*does) Op() string            { return "toy.does" }
func (s *spelt) Spelt() api.Node    { return s.as }
func (*odd) Op() string             { return "toy.odd" }
func (o *odd) Signs() api.Signature { return o.signs }
func (*odd) Binds() (string, int)   { return "x", 1 }

// made makes nodes; of the kit toy those that no kit makes.
func made(t *testing.T, ks map[string]*kit.Kit, x api.Tree) *node.Handle {
	t.Helper()
	var kids []*node.Handle
	for _, kid := range x.Kids {
		kids = append(kids, made(t, ks, kid))
	}
	nodes, _ := node.Nodes(kids)
	b := part.New(x, nodes...)
	int1 := api.Sort{Name: "int"}
	switch x.Kind {
	case "toy.lost":
		return node.Hold(&lost{b})
	case "toy.bare":
		return node.Hold(&bare{b})
	case "toy.told":
		return node.Hold(&told{b, "int > int"})
	case "toy.does":
		return node.Hold(&does{b})
	case "toy.spelt", "my.spelt":
		return node.Hold(&spelt{b, b.Kid(0)})
	case "toy.few":
		return node.Hold(&odd{b, api.Signature{Ins: []api.Sort{int1}, Out: int1}})
	case "toy.rest":
		return node.Hold(&odd{b, api.Signature{Rest: true, Out: int1}})
	case "toy.lists":
		return node.Hold(&odd{b, api.Signature{Ins: []api.Sort{{Name: "lists"}}, Out: api.Sort{Name: "lists"}}})
	case "toy.cover":
		h, _ := node.Cover(kids[0])
		return h
	case "toy.wrap":
		h, _ := node.Wrap(kids[0], api.Place{Fun: "f"})
		return h
	}
	for name, k := range ks {
		if len(x.Kind) > len(name) && x.Kind[:len(name)+1] == name+"." {
			h, e := k.Make(x, kids...)
			if e != nil {
				t.Fatal(x.Kind, e)
			}
			return h
		}
	}
	t.Fatal(x.Kind)
	return nil
}

func five() api.Tree { return api.Tree{Kind: "base.int", Num: 5} }

// shaped gives the shape of a sort's text.
func shaped(text string) shape.Shape {
	words := strings.Fields(text)
	return shape.Shape{Lists: len(words) - 1, Leaf: words[len(words)-1]}
}

func TestSort(t *testing.T) {
	ks := kits()
	lack, name, sort := api.ErrLack, api.ErrName, api.ErrSort
	yes := leaf("base.yes")
	bad := of("num.neg", yes) // one finding
	for what, c := range map[string]struct {
		tree api.Tree
		sort string // empty: a new variable
		want []api.Errno
	}{
		"literal": {five(), "int", nil}, "use": {use("v"), "V", nil}, "use of a number": {use("1"), "text", nil}, "the innermost of a name": {use("twice"), "int", nil}, "unbound use": {use("w"), "", []api.Errno{name}},
		"opaque": {of("toy.lost", bad), "", []api.Errno{lack}}, "of no ability": {of("toy.bare", bad), "", []api.Errno{lack}}, "Sorted alone": {of("toy.told", bad), "", []api.Errno{lack}}, "Strict alone": {of("toy.does", bad), "", []api.Errno{lack}},
		"a kid of another sort": {bad, "int", []api.Errno{sort}}, "two such": {of("num.add", bad, yes), "int", []api.Errno{sort, sort}}, "kids, then their node": {of("num.add", use("w"), yes), "int", []api.Errno{name, sort}},
		"nothing is found out by it": {of("truth.if", five(), five(), yes), "int", []api.Errno{sort, sort}}, "a finding fits all": {of("num.add", use("w"), leaf("toy.bare")), "int", []api.Errno{name, lack}},
		"frame": {of("base.frame", yes, use("v"), use("2")), "V", nil}, "frame lets nothing through": {of("base.frame", five(), use("v")), "", []api.Errno{name}}, "frame of the kids' findings": {of("base.frame", bad, use("w"), use("1")), "int", []api.Errno{sort, name}},
		"let": {named("bind.let", "x", five(), use("x")), "int", nil}, "let's first kid": {named("bind.let", "x", use("x"), use("x")), "", []api.Errno{name}}, "map": {named("list.map", "x", of("list.of", five()), of("truth.same", use("x"), yes)), "list truth", []api.Errno{sort}},
		"Binder and Caller": {named("call.by", "x", five(), use("x")), "int", nil}, "call": {named("call.to", "f", bad, use("w")), "", []api.Errno{name, sort, name}}, "call without kids": {named("call.to", "f"), "", []api.Errno{name}},
		"where": {named("bind.where", "x", use("x"), five()), "int", nil}, "where's second kid": {named("bind.where", "x", five(), use("x")), "int", []api.Errno{name}}, "star": {named("bind.star", "x y", five(), use("x"), use("y")), "int", nil}, "all": {of("flow.all", bad, use("w"), yes), "truth", []api.Errno{sort, name}},
		"sugar of a kit": {of("toy.spelt", of("toy.spelt", five())), "int", nil}, "sugar of a plugin": {of("my.spelt", bad), "", []api.Errno{lack}}, "in sugar of a kit": {of("toy.spelt", of("my.spelt", bad)), "", []api.Errno{lack}},
		"covered": {of("toy.cover", of("num.neg", of("toy.wrap", of("toy.cover", five())))), "int", nil}, "covered, of no ability": {of("toy.wrap", leaf("toy.bare")), "", []api.Errno{lack}}, "covered let": {of("toy.cover", named("bind.let", "x", of("toy.wrap", yes), of("toy.cover", use("x")))), "truth", nil},
		"fewer sorts than kids": {of("toy.few", five(), use("x"), bad), "int", []api.Errno{sort}}, "Rest of no sorts": {of("toy.rest", five(), yes), "int", nil}, "sorts that may not be": {of("toy.lists", five(), use("x")), "", nil},
	} {
		s := sorting.New(func(kind string) bool { return kind == "my.spelt" })
		var in *sorting.Scope
		in = in.With("v", shape.Shape{Leaf: "V"}).With("twice", shape.Shape{Leaf: "text"}).With("1", shape.Shape{Leaf: "text"}).With("twice", shape.Shape{Leaf: "int"})
		got := s.Found(s.Sort(made(t, ks, c.tree).Node(), in))
		if !slices.Equal(s.Findings(), c.want) {
			t.Errorf("%s: the findings %v, not %v", what, s.Findings(), c.want)
		}
		if c.sort != "" && got != shaped(c.sort) {
			t.Errorf("%s: the sort %v, not %s", what, got, c.sort)
		}
		if x := s.Fresh(); c.sort == "" && (got == x || !s.Meet(got, shape.Shape{Leaf: "text"})) {
			t.Errorf("%s: the sort %v is no new variable", what, got)
		}
	}
}

// TestFoundOut: what is found out holds for all trees that one sorter sorts.
func TestFoundOut(t *testing.T) {
	ks := kits()
	s := sorting.New(func(string) bool { return false })
	var in *sorting.Scope
	in = in.With("x", s.Fresh())
	s.Sort(made(t, ks, of("num.neg", use("x"))).Node(), in)
	s.Sort(made(t, ks, of("truth.not", use("x"))).Node(), in)
	if !slices.Equal(s.Findings(), []api.Errno{api.ErrSort}) {
		t.Errorf("the findings %v", s.Findings())
	}
}

// TestNoNode: what a broken kit's node stands for or has as a kid may be nothing.
func TestNoNode(t *testing.T) {
	s := sorting.New(func(string) bool { return false })
	s.Sort(nil, nil)
	s.Sort(&spelt{}, nil)
	if !slices.Equal(s.Findings(), []api.Errno{api.ErrLack, api.ErrLack}) {
		t.Errorf("the findings %v", s.Findings())
	}
}
