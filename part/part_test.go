package part_test

// The tests of what kinds' types are put together of.

import (
	"fmt"
	"slices"
	"testing"

	"espalier/api"
	"espalier/part"
)

// toy has two parts beside the base.
type toy struct {
	part.Base
	part.Total
	part.Sorted
}

func made(x api.Tree, kids ...api.Node) *toy { return &toy{Base: part.New(x, kids...)} }

func TestBase(t *testing.T) {
	a, b := made(api.Tree{Kind: "a.a"}), made(api.Tree{Kind: "b.b"})
	kids := append(make([]api.Node, 0, 4), a, b)
	n := made(api.Tree{Kind: "c.c", Num: -5, Text: "x", Kids: make([]api.Tree, 3)}, kids...)
	kids[0] = b
	_ = append(kids, b)
	if n.Kind() != "c.c" || n.Num() != -5 || n.Text() != "x" || n.Len() != 2 || n.Kid(0) != api.Node(a) || n.Kid(1) != api.Node(b) {
		t.Errorf("a base tells something else than it was told")
	}
	for _, i := range []int{-1, 2, 1 << 62} {
		if n.Kid(i) != nil {
			t.Errorf("there is a kid %d", i)
		}
	}
	if a.Len() != 0 || a.Kid(0) != nil {
		t.Errorf("there is a kid of none")
	}
}

func TestNamed(t *testing.T) {
	kid := made(api.Tree{Kind: "a.a"})
	calls := 0
	n := part.Make(part.New(api.Tree{Kind: "c.c", Num: -5, Text: "x"}, kid), func(b part.Base) api.Node {
		calls++
		return &toy{Base: b}
	}).(*toy)
	if calls != 1 || n.Kind() != "c.c" || n.Does() != "c.c" {
		t.Errorf("made %d times: %s, %s", calls, n.Kind(), n.Does())
	}
	for _, other := range []api.Node{n.Named("d.d"), n.Named("e.e").(*toy).Named("d.d")} {
		x, ok := other.(*toy)
		if !ok || x == n || x.Kind() != "d.d" || x.Does() != "c.c" || x.Num() != -5 || x.Text() != "x" || x.Len() != 1 || x.Kid(0) != api.Node(kid) {
			t.Errorf("a node that was named is another one in more than its kind")
		}
	}
	if n.Kind() != "c.c" || n.Does() != "c.c" || n.Named("c.c") == api.Node(n) {
		t.Errorf("a node changes, when it is named")
	}
	if kid.Named("b.b") != nil {
		t.Errorf("a node that was not made by Make is named")
	}
}

func TestParts(t *testing.T) {
	var n api.Node = made(api.Tree{})
	if x, ok := n.(api.Total); !ok || !x.Quiet() || !x.Sure() {
		t.Errorf("the part Total")
	}
	if _, ok := n.(api.Sorted); !ok {
		t.Errorf("the part Sorted")
	}
	n = &struct {
		part.Base
		part.Pure
	}{}
	if x, ok := n.(api.Pure); !ok || !x.Quiet() {
		t.Errorf("the part Pure")
	}
	if _, ok := n.(api.Total); ok {
		t.Errorf("the part Pure is Total")
	}
}

func TestSigns(t *testing.T) {
	of := func(name string) api.Sort { return api.Sort{Name: name} }
	list := func(name string) api.Sort { return api.Sort{Name: "list", Of: []api.Sort{of(name)}} }
	for text, want := range map[part.Sorted]api.Signature{
		"int > text":                           {Ins: []api.Sort{of("int")}, Out: of("text")},
		" > list a":                            {Out: list("a")},
		"list a, int > a":                      {Ins: []api.Sort{list("a"), of("int")}, Out: of("a")},
		"text, int, int > text":                {Ins: []api.Sort{of("text"), of("int"), of("int")}, Out: of("text")},
		"a .. > list a":                        {Ins: []api.Sort{of("a")}, Rest: true, Out: list("a")},
		"truth, list a .. > unit":              {Ins: []api.Sort{of("truth"), list("a")}, Rest: true, Out: of("unit")},
		"list a, b > list b; bound a":          {Ins: []api.Sort{list("a"), of("b")}, Out: list("b"), Bound: of("a")},
		"list a, truth > list a; bound list a": {Ins: []api.Sort{list("a"), of("truth")}, Out: list("a"), Bound: list("a")},
	} {
		got, other := text.Signs(), text.Signs()
		if fmt.Sprint(got) != fmt.Sprint(want) {
			t.Errorf("%s: %v", text, got)
		}
		for i := range got.Ins {
			for j := range got.Ins[i].Of {
				got.Ins[i].Of[j].Name = "spoilt"
			}
			got.Ins[i].Name = "spoilt"
		}
		if fmt.Sprint(other) != fmt.Sprint(want) {
			t.Errorf("%s: answers share memory", text)
		}
	}
}

func TestRight(t *testing.T) {
	unit, yes, five, text, list := api.Unit{}, api.Truth(true), api.Int(5), api.Text("a"), api.List{api.Int(5), api.Truth(true)}
	for _, c := range []struct {
		signs  part.Sorted
		values []api.Value
		want   bool
	}{
		{"int > text", []api.Value{five}, true}, {"int > text", []api.Value{text}, false}, {"int > text", []api.Value{five, five}, false},
		{"int, truth > text", []api.Value{five, yes}, true}, {"int, truth > text", []api.Value{yes, five}, false}, {"int, truth > text", []api.Value{five, five}, false}, {"int, truth > text", []api.Value{five, yes, yes}, false},
		{"a, a > truth", []api.Value{five, list}, true}, {"a, b > truth", []api.Value{unit, text}, true},
		{"list a, int, int > list a", []api.Value{list, five, five}, true}, {"list a, int, int > list a", []api.Value{list, five, text}, false}, {"list a, int, int > list a", []api.Value{five, five, five}, false}, {"list int > int", []api.Value{list}, true},
		{"a .. > list a", nil, true}, {"a .. > list a", []api.Value{five, yes, unit, list}, true}, {"text .. > text", slices.Repeat([]api.Value{text}, 9), true}, {"text .. > text", []api.Value{text, text, five}, false}, {"text .. > text", []api.Value{five}, false},
		{"int, text .. > text", []api.Value{five, text, text}, true}, {"int, text .. > text", []api.Value{five, text, five}, false}, {"int, text .. > text", []api.Value{five}, true},
		{"text > unit", []api.Value{unit}, false}, {"truth > unit", []api.Value{yes}, true}, {"unit > unit", []api.Value{unit}, true}, {"list a > a", []api.Value{text}, false},
	} {
		if got := part.Right(c.signs, c.values...); got != c.want {
			t.Errorf("%s: %v: %v", c.signs, c.values, got)
		}
	}
}
