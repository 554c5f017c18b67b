package guard_test

// The tests of P15.1 to P15.5, through the package's face alone.

import (
	"errors"
	"fmt"
	"math"
	"reflect"
	"strings"
	"testing"

	"espalier/api"
	"espalier/fault"
	"espalier/guard"
	"espalier/node"
)

// kind is a line of doc/15's table, by hand.
type kind struct {
	name  string
	kids  int
	text  int
	has   string
	ins   []string
	out   string
	bound string
}

func kinds() []kind {
	return []kind{
		{"guard.raise", 1, api.TextNone, "Strict Sorted", []string{"text"}, "a", ""},
		{"guard.check", 2, api.TextNone, "Strict Sorted", []string{"truth", "text"}, "unit", ""},
		{"guard.try", 2, api.TextNone, "Lazy Pure Total Sorted", []string{"a", "a"}, "a", ""},
		{"guard.catch", 2, api.TextName, "Lazy Binder Pure Total Sorted", []string{"a", "a"}, "a", "text"},
	}
}

func (k kind) row() api.Row {
	return api.Row{Kind: k.name, Min: k.kids, Max: k.kids, Text: k.text, Abilities: strings.Fields(k.has)}
}

// leaf is a tree with a Text that the kind's nodes may have.
func (k kind) leaf() api.Tree {
	if k.text == api.TextName {
		return api.Tree{Kind: k.name, Text: "e"}
	}
	return api.Tree{Kind: k.name}
}

func (k kind) signs() api.Signature {
	signs := api.Signature{Out: api.Sort{Name: k.out}, Bound: api.Sort{Name: k.bound}}
	for _, in := range k.ins {
		signs.Ins = append(signs.Ins, api.Sort{Name: in})
	}
	return signs
}

// like holds two signatures against each other; nil and empty lists are alike.
func like(a, b api.Signature) bool { return fmt.Sprint(a) == fmt.Sprint(b) }

func basic(x api.Tree) *node.Handle {
	h, _ := node.Make(x)
	return h
}

func numbers(n int) []*node.Handle {
	var hs []*node.Handle
	for i := range n {
		hs = append(hs, basic(api.Tree{Kind: "base.int", Num: int64(i)}))
	}
	return hs
}

func nodesOf(hs []*node.Handle) []api.Node {
	var l []api.Node
	for _, h := range hs {
		l = append(l, h.Node())
	}
	return l
}

func wrapped(h *node.Handle) *node.Handle {
	w, _ := node.Wrap(h, api.Place{Fun: "f", Path: []int{1}})
	return w
}

func made(t *testing.T, x api.Tree, kids ...*node.Handle) *node.Handle {
	t.Helper()
	h, e := guard.Kit().Make(x, kids...)
	if e != nil || h == nil || h.Node() == nil {
		t.Fatalf("P15.1: %s of %d kids: %v", x.Kind, len(kids), e)
	}
	return h
}

func TestRows(t *testing.T) {
	k := guard.Kit()
	if k.Name() != "guard" {
		t.Errorf("P15.1: the name %q", k.Name())
	}
	rows := k.Rows()
	if len(rows) != len(kinds()) {
		t.Fatalf("P15.1: %d rows", len(rows))
	}
	for i, want := range kinds() {
		if !reflect.DeepEqual(rows[i], want.row()) {
			t.Errorf("P15.1: row %d: %v, not %v", i, rows[i], want.row())
		}
		if got, ok := k.Row(want.name); !ok || !reflect.DeepEqual(got, want.row()) {
			t.Errorf("P15.1: %s: %v, %v", want.name, got, ok)
		}
	}
	for _, none := range []string{"", "guard", "try", "guard.", "guard.throw", "guard.Try", "guard.try ", "base.unit", "flow.seq"} {
		if got, ok := k.Row(none); ok {
			t.Errorf("P15.1: %q: %v", none, got)
		}
		if h, e := k.Make(api.Tree{Kind: none}, numbers(2)...); h != nil || fault.Code(e) != api.ErrNone {
			t.Errorf("P15.1: %q: %v", none, e)
		}
	}
}

func TestEachCallOne(t *testing.T) {
	a, b := guard.Kit(), guard.Kit()
	if a == nil || a == b {
		t.Errorf("P15.1: two calls give one kit")
	}
	rows := a.Rows()
	for i := range rows {
		rows[i].Abilities[0] = "Spoilt"
		_ = append(rows[i].Abilities, "More")
		rows[i].Kind = "spoilt.too"
	}
	for _, want := range kinds() {
		for _, k := range []interface {
			Row(string) (api.Row, bool)
		}{a, b} {
			if got, ok := k.Row(want.name); !ok || !reflect.DeepEqual(got, want.row()) {
				t.Errorf("P15.5: %s: rows share memory: %v", want.name, got)
			}
		}
	}
}

// abilities asks by two-valued assertions.
func abilities(n api.Node) string {
	var names []string
	for _, a := range []struct {
		name string
		ask  func() bool
	}{
		{"Literal", func() bool { _, ok := n.(api.Literal); return ok }}, {"Strict", func() bool { _, ok := n.(api.Strict); return ok }},
		{"Lazy", func() bool { _, ok := n.(api.Lazy); return ok }}, {"Binder", func() bool { _, ok := n.(api.Binder); return ok }},
		{"User", func() bool { _, ok := n.(api.User); return ok }}, {"Caller", func() bool { _, ok := n.(api.Caller); return ok }},
		{"Pure", func() bool { _, ok := n.(api.Pure); return ok }}, {"Total", func() bool { _, ok := n.(api.Total); return ok }},
		{"Sorted", func() bool { _, ok := n.(api.Sorted); return ok }}, {"Sugar", func() bool { _, ok := n.(api.Sugar); return ok }},
		{"Framed", func() bool { _, ok := n.(api.Framed); return ok }}, {"Wrapped", func() bool { _, ok := n.(api.Wrapped); return ok }},
		{"Origin", func() bool { _, ok := n.(api.Origin); return ok }}, {"Opaque", func() bool { _, ok := n.(api.Opaque); return ok }},
	} {
		if a.ask() {
			names = append(names, a.name)
		}
	}
	return strings.Join(names, " ")
}

// holds fails, unless a node is of a kind, with that Text and these kids, and
// all that it tells is as the table says.
func holds(t *testing.T, k kind, n api.Node, text string, kids ...api.Node) {
	t.Helper()
	if n.Kind() != k.name || n.Num() != 0 || n.Text() != text || n.Len() != len(kids) {
		t.Fatalf("P15.1: %s: %s, %d, %q, %d kids", k.name, n.Kind(), n.Num(), n.Text(), n.Len())
	}
	for i, kid := range kids {
		if n.Kid(i) != kid {
			t.Errorf("P15.5: %s: another node as kid %d", k.name, i)
		}
	}
	for _, i := range []int{-1, len(kids), len(kids) + 1, math.MinInt, math.MaxInt} {
		if n.Kid(i) != nil {
			t.Errorf("P15.5: %s: a kid %d", k.name, i)
		}
	}
	if got := abilities(n); got != k.has {
		t.Errorf("P15.1: %s: %s, not %s", k.name, got, k.has)
	}
	if x, ok := n.(api.Strict); ok && x.Op() != k.name {
		t.Errorf("P15.1: %s: the operation %s", k.name, x.Op())
	}
	if x, ok := n.(api.Lazy); ok && x.Way() != k.name {
		t.Errorf("P15.3: %s: the way %s", k.name, x.Way())
	}
	if x, ok := n.(api.Binder); ok {
		if name, kid := x.Binds(); name != text || kid != 1 {
			t.Errorf("P15.3: %s binds %s in %d", k.name, name, kid)
		}
	}
	if x, ok := n.(api.Total); ok && (!x.Quiet() || !x.Sure()) {
		t.Errorf("P15.1: %s is not quiet and sure", k.name)
	}
	if x, ok := n.(api.Sorted); ok && !like(x.Signs(), k.signs()) {
		t.Errorf("P15.1: %s: the sorts %v, not %v", k.name, x.Signs(), k.signs())
	}
}

func TestNodes(t *testing.T) {
	for _, k := range kinds() {
		hs := numbers(k.kids)
		hs[k.kids-1] = wrapped(hs[k.kids-1])
		kids := nodesOf(hs)
		h := made(t, k.leaf(), hs...)
		holds(t, k, h.Node(), k.leaf().Text, kids...)
		if got := strings.Join(node.Abilities(h), " "); got != k.has {
			t.Errorf("P15.1: %s: %s, not %s", k.name, got, k.has)
		}
		if h.Node() == made(t, k.leaf(), hs...).Node() || h.Node() != h.Node() {
			t.Errorf("P15.1: %s: a node is itself, and no other one", k.name)
		}
		clear(hs)
		holds(t, k, h.Node(), k.leaf().Text, kids...)
	}
}

func TestNamesOfCatch(t *testing.T) {
	catch, hs := kinds()[3], numbers(2)
	for _, name := range []string{"e", "E", "_", "e1", "_1", "kind", "aB_9", strings.Repeat("x", 32)} {
		holds(t, catch, made(t, api.Tree{Kind: catch.name, Text: name}, hs...).Node(), name, nodesOf(hs)...)
	}
	for _, none := range []string{"", "1", "12", "1e", "e f", " e", "e ", "e.f", "é", "e\x00", "-", strings.Repeat("x", 33), strings.Repeat("x", 16384)} {
		refusedNode(t, "no name", api.ErrFit, api.Tree{Kind: catch.name, Text: none}, hs...)
	}
}

func TestHandles(t *testing.T) {
	hs, catch := numbers(2), api.Tree{Kind: "guard.catch", Text: "e"}
	h := made(t, catch, hs[0], made(t, api.Tree{Kind: "guard.raise"}, hs[1]))
	w := wrapped(h)
	if core, e := node.Core(w); e != nil || core.Node() != h.Node() || w.Node().Kid(1) != h.Node().Kid(1) {
		t.Errorf("P15.1: a wrapper around guard.catch: %v", e)
	}
	for _, ability := range []string{"Lazy", "Binder", "Total"} {
		if e := node.Must(w, ability); e != nil {
			t.Errorf("P15.1: a wrapped guard.catch is %s: %v", ability, e)
		}
	}
	for _, c := range []struct {
		h       *node.Handle
		ability string
	}{{w, "Strict"}, {made(t, api.Tree{Kind: "guard.raise"}, hs[0]), "Pure"}, {made(t, api.Tree{Kind: "guard.check"}, hs...), "Total"}, {made(t, api.Tree{Kind: "guard.try"}, hs...), "Binder"}} {
		var lack api.Lacking
		if e := node.Must(c.h, c.ability); !errors.As(e, &lack) {
			t.Errorf("P15.1: %s is %s: %v", c.h.Node().Kind(), c.ability, e)
		} else if kind, ability := lack.Lacks(); kind != c.h.Node().Kind() || ability != c.ability {
			t.Errorf("P15.1: %s lacks %s", kind, ability)
		}
	}
	want := api.Tree{Kind: "guard.catch", Text: "e", Kids: []api.Tree{{Kind: "base.int"}, {Kind: "guard.raise", Kids: []api.Tree{{Kind: "base.int", Num: 1}}}}}
	if x, e := node.Plain(w); e != nil || !reflect.DeepEqual(x, want) {
		t.Errorf("P15.1: %v, %v", x, e)
	}
}

func TestSignsAreTheCallersOwn(t *testing.T) {
	for _, k := range kinds() {
		n := made(t, k.leaf(), numbers(k.kids)...).Node().(api.Sorted)
		a, b := n.Signs(), n.Signs()
		a.Out.Of = append(a.Out.Of, api.Sort{Name: "spoilt"})
		_ = append(a.Ins, api.Sort{Name: "more"})
		for i := range a.Ins {
			_ = append(a.Ins[i].Of, api.Sort{Name: "more"})
			a.Ins[i] = api.Sort{Name: "spoilt"}
		}
		if !like(b, k.signs()) || !like(n.Signs(), k.signs()) {
			t.Errorf("P15.5: %s: signatures share memory", k.name)
		}
	}
}

// refusedNode fails, unless the kit refuses a node by that number.
func refusedNode(t *testing.T, what string, want api.Errno, x api.Tree, kids ...*node.Handle) {
	t.Helper()
	if h, e := guard.Kit().Make(x, kids...); h != nil || fault.Code(e) != want {
		t.Errorf("P15.1: %s, %s: %v, not %d", x.Kind, what, e, want)
	}
}

func TestRefusedNodes(t *testing.T) {
	for _, k := range kinds() {
		x, kids := k.leaf(), numbers(k.kids)
		spoilt := func(num int64, text string) api.Tree { return api.Tree{Kind: k.name, Num: num, Text: text} }
		refusedNode(t, "no kids", api.ErrCount, x)
		refusedNode(t, "kids of the tree alone", api.ErrCount, api.Tree{Kind: k.name, Text: x.Text, Kids: make([]api.Tree, k.kids)})
		refusedNode(t, "a kid too few", api.ErrCount, spoilt(1, "1x"), kids[1:]...)
		refusedNode(t, "a kid too many", api.ErrCount, x, numbers(k.kids+1)...)
		refusedNode(t, "many kids", api.ErrCount, x, numbers(1000)...)
		for _, n := range []int64{1, -1, math.MinInt64, math.MaxInt64} {
			refusedNode(t, "a Num", api.ErrFit, spoilt(n, x.Text), kids...)
		}
		if k.text == api.TextNone {
			for _, s := range []string{"x", " ", "\x00", "1", strings.Repeat("x", 16384)} {
				refusedNode(t, "a Text", api.ErrFit, spoilt(0, s), kids...)
			}
		}
		refusedNode(t, "a long Text", api.ErrLong, spoilt(0, strings.Repeat("x", 16385)), kids...)
		kids[len(kids)-1] = nil
		refusedNode(t, "no handle", api.ErrArg, x, kids...)
		kids[len(kids)-1] = new(node.Handle)
		refusedNode(t, "the zero handle", api.ErrArg, spoilt(1, x.Text), kids...)
	}
}
