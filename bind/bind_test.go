package bind_test

// The tests of P12.1 to P12.5, through the package's face alone.

import (
	"errors"
	"fmt"
	"maps"
	"math"
	"reflect"
	"slices"
	"strings"
	"sync"
	"testing"

	"espalier/api"
	"espalier/bind"
	"espalier/fault"
	"espalier/list"
	"espalier/node"
)

// kind is a line of doc/12's table, by hand.
type kind struct {
	name     string
	min, max int
	text     int
	has      string
}

func kinds() []kind {
	return []kind{
		{"bind.let", 2, 2, api.TextName, "Binder Pure Total Sorted"},
		{"bind.where", 2, 2, api.TextName, "Pure Total Sugar"},
		{"bind.star", 1, -1, api.TextNames, "Pure Total Sugar"},
	}
}

// letSigns is the signature of bind.let.
func letSigns() api.Signature {
	a, b := api.Sort{Name: "a"}, api.Sort{Name: "b"}
	return api.Signature{Ins: []api.Sort{a, b}, Out: b, Bound: a}
}

// like holds two signatures against each other; nil and empty lists are alike.
func like(a, b api.Signature) bool { return fmt.Sprint(a) == fmt.Sprint(b) }

func numbers(t *testing.T, n int) []*node.Handle {
	t.Helper()
	var hs []*node.Handle
	for i := range n {
		h, e := node.Make(api.Tree{Kind: "base.int", Num: int64(i)})
		if e != nil {
			t.Fatal(e)
		}
		hs = append(hs, h)
	}
	return hs
}

func nodesOf(hs []*node.Handle) []api.Node {
	var l []api.Node
	for _, h := range hs {
		l = append(l, h.Node())
	}
	return l
}

func wrapped(t *testing.T, h *node.Handle) *node.Handle {
	t.Helper()
	w, e := node.Wrap(h, api.Place{Fun: "f", Path: []int{1}})
	if e != nil {
		t.Fatal(e)
	}
	return w
}

func made(t *testing.T, kind, text string, kids ...*node.Handle) *node.Handle {
	t.Helper()
	h, e := bind.Kit().Make(api.Tree{Kind: kind, Text: text}, kids...)
	if e != nil || h == nil || h.Node() == nil {
		t.Fatalf("P12.1: %s %.40q of %d kids: %v", kind, text, len(kids), e)
	}
	return h
}

// written writes a node and what is below it: the words of kinds, but
// literals and variables as what they stand for.
func written(n api.Node) string {
	_, s, _ := strings.Cut(n.Kind(), ".")
	switch s {
	case "int":
		return fmt.Sprint(n.Num())
	case "var":
		return n.Text()
	case "star":
		s += fmt.Sprintf(" %q", n.Text())
	case "let", "where":
		s += " " + n.Text()
	}
	var kids []string
	for i := range n.Len() {
		kids = append(kids, written(n.Kid(i)))
	}
	return s + "(" + strings.Join(kids, ", ") + ")"
}

func spelt(t *testing.T, n api.Node) api.Node {
	t.Helper()
	s, ok := n.(api.Sugar)
	if !ok || s.Spelt() == nil {
		t.Fatalf("P12.3: %s is not spelt", n.Kind())
	}
	return s.Spelt()
}

func TestRows(t *testing.T) {
	k := bind.Kit()
	if k.Name() != "bind" {
		t.Errorf("P12.1: the name %q", k.Name())
	}
	rows := k.Rows()
	if len(rows) != len(kinds()) {
		t.Fatalf("P12.1: %d rows", len(rows))
	}
	for i, want := range kinds() {
		row := api.Row{Kind: want.name, Min: want.min, Max: want.max, Text: want.text, Abilities: strings.Fields(want.has)}
		if !reflect.DeepEqual(rows[i], row) {
			t.Errorf("P12.1: row %d: %v, not %v", i, rows[i], row)
		}
		if got, ok := k.Row(want.name); !ok || !reflect.DeepEqual(got, row) {
			t.Errorf("P12.1: %s: %v, %v", want.name, got, ok)
		}
	}
	for _, none := range []string{"", "bind", "let", "bind.", "bind.var", "bind.Let", "bind.let ", "base.var", "call.by"} {
		if got, ok := k.Row(none); ok {
			t.Errorf("P12.1: %q: %v", none, got)
		}
		if h, e := k.Make(api.Tree{Kind: none, Text: "x"}, numbers(t, 2)...); h != nil || fault.Code(e) != api.ErrNone {
			t.Errorf("P12.1: %q: %v", none, e)
		}
	}
}

func TestEachCallOne(t *testing.T) {
	a, b := bind.Kit(), bind.Kit()
	if a == nil || a == b {
		t.Errorf("P12.1: two calls give one kit")
	}
	rows := a.Rows()
	for i := range rows {
		rows[i].Abilities[0] = "Spoilt"
		_ = append(rows[i].Abilities, "More")
		rows[i].Kind = "spoilt.too"
	}
	for _, k := range kinds() {
		if got, ok := b.Row(k.name); !ok || !slices.Equal(got.Abilities, strings.Fields(k.has)) {
			t.Errorf("P12.5: %s of the other kit: %v", k.name, got)
		}
		if got, ok := a.Row(k.name); !ok || !slices.Equal(got.Abilities, strings.Fields(k.has)) {
			t.Errorf("P12.5: %s of the kit: %v", k.name, got)
		}
	}
}

// abilities asks by two-valued assertions.
func abilities(n api.Node) string {
	var names []string
	ask := func(name string, ok bool) {
		if ok {
			names = append(names, name)
		}
	}
	_, ok := n.(api.Literal)
	ask("Literal", ok)
	_, ok = n.(api.Strict)
	ask("Strict", ok)
	_, ok = n.(api.Lazy)
	ask("Lazy", ok)
	_, ok = n.(api.Binder)
	ask("Binder", ok)
	_, ok = n.(api.User)
	ask("User", ok)
	_, ok = n.(api.Caller)
	ask("Caller", ok)
	_, ok = n.(api.Pure)
	ask("Pure", ok)
	_, ok = n.(api.Total)
	ask("Total", ok)
	_, ok = n.(api.Sorted)
	ask("Sorted", ok)
	_, ok = n.(api.Sugar)
	ask("Sugar", ok)
	_, ok = n.(api.Framed)
	ask("Framed", ok)
	_, ok = n.(api.Wrapped)
	ask("Wrapped", ok)
	_, ok = n.(api.Origin)
	ask("Origin", ok)
	_, ok = n.(api.Opaque)
	ask("Opaque", ok)
	return strings.Join(names, " ")
}

// holds fails, unless a node is of a kind, with that text and these kids, and
// all that it tells is as the table says.
func holds(t *testing.T, k kind, text string, n api.Node, kids ...api.Node) {
	t.Helper()
	if n.Kind() != k.name || n.Num() != 0 || n.Text() != text || n.Len() != len(kids) {
		t.Fatalf("P12.1: %s %.40q: %s, %d, %.40q, %d kids", k.name, text, n.Kind(), n.Num(), n.Text(), n.Len())
	}
	for i, kid := range kids {
		if n.Kid(i) != kid {
			t.Errorf("P12.5: %s: another node as kid %d", k.name, i)
		}
	}
	for _, i := range []int{-1, len(kids), len(kids) + 1, math.MinInt, math.MaxInt} {
		if n.Kid(i) != nil {
			t.Errorf("P12.5: %s: a kid %d", k.name, i)
		}
	}
	if got := abilities(n); got != k.has {
		t.Errorf("P12.1: %s: %s, not %s", k.name, got, k.has)
	}
	if x, ok := n.(api.Total); !ok || !x.Quiet() || !x.Sure() {
		t.Errorf("P12.1: %s is not quiet and sure", k.name)
	}
	if x, ok := n.(api.Sorted); ok && !like(x.Signs(), letSigns()) {
		t.Errorf("P12.1: %s: the sorts %v", k.name, x.Signs())
	}
	if x, ok := n.(api.Binder); ok {
		if name, in := x.Binds(); name != text || in != 1 {
			t.Errorf("P12.2: %s binds %q in %d", k.name, name, in)
		}
	}
}

func TestNodes(t *testing.T) {
	for _, k := range kinds() {
		for _, text := range []string{"x", "X", "_", "x1", "let", "a_B9", strings.Repeat("x", 32)} {
			hs := numbers(t, 2)
			hs[0] = wrapped(t, hs[0])
			kids := nodesOf(hs)
			h := made(t, k.name, text, hs...)
			holds(t, k, text, h.Node(), kids...)
			if got := strings.Join(node.Abilities(h), " "); got != k.has {
				t.Errorf("P12.1: %s: %s, not %s", k.name, got, k.has)
			}
			if h.Node() == made(t, k.name, text, hs...).Node() || h.Node() != h.Node() {
				t.Errorf("P12.1: %s: a node is itself, and no other one", k.name)
			}
			clear(hs)
			holds(t, k, text, h.Node(), kids...)
		}
	}
	for text, n := range map[string]int{"": 1, "x y": 3, "x x": 3, "a _ B9 let": 5, strings.TrimSuffix(strings.Repeat("x ", 1022), " "): 1023} {
		hs := numbers(t, n)
		holds(t, kinds()[2], text, made(t, "bind.star", text, hs...).Node(), nodesOf(hs)...)
	}
}

func TestHandles(t *testing.T) {
	l := numbers(t, 2)
	h := made(t, "bind.let", "x", l[0], made(t, "bind.star", "", l[1]))
	w := wrapped(t, h)
	if core, e := node.Core(w); e != nil || core.Node() != h.Node() || w.Node().Kid(1) != h.Node().Kid(1) {
		t.Errorf("P12.1: a wrapper around bind.let: %v", e)
	}
	if e := node.Must(w, "Binder"); e != nil {
		t.Errorf("P12.1: a wrapped bind.let is a Binder: %v", e)
	}
	var lack api.Lacking
	if e := node.Must(made(t, "bind.where", "x", l...), "Binder"); !errors.As(e, &lack) {
		t.Errorf("P12.1: bind.where is no Binder: %v", e)
	} else if kind, ability := lack.Lacks(); kind != "bind.where" || ability != "Binder" {
		t.Errorf("P12.1: %s lacks %s", kind, ability)
	}
	want := api.Tree{Kind: "bind.let", Text: "x", Kids: []api.Tree{{Kind: "base.int"}, {Kind: "bind.star", Kids: []api.Tree{{Kind: "base.int", Num: 1}}}}}
	if x, e := node.Plain(w); e != nil || !reflect.DeepEqual(x, want) {
		t.Errorf("P12.1: %v, %v", x, e)
	}
}

func TestSignsAreTheCallersOwn(t *testing.T) {
	l := numbers(t, 2)
	for _, x := range []api.Node{made(t, "bind.let", "x", l...).Node(), spelt(t, made(t, "bind.where", "x", l...).Node())} {
		n, ok := x.(api.Sorted)
		if !ok {
			t.Fatalf("P12.1: %s has no sorts", x.Kind())
		}
		a, b := n.Signs(), n.Signs()
		a.Out.Of = append(a.Out.Of, api.Sort{Name: "spoilt"})
		a.Bound.Of = append(a.Bound.Of, api.Sort{Name: "spoilt"})
		_ = append(a.Ins, api.Sort{Name: "more"})
		for i := range a.Ins {
			_ = append(a.Ins[i].Of, api.Sort{Name: "more"})
			a.Ins[i] = api.Sort{Name: "spoilt"}
		}
		if !like(b, letSigns()) || !like(n.Signs(), letSigns()) {
			t.Errorf("P12.5: signatures share memory: %v", b)
		}
	}
}

// refused fails, unless the kit refuses a node by that number.
func refused(t *testing.T, what string, want api.Errno, x api.Tree, kids ...*node.Handle) {
	t.Helper()
	if h, e := bind.Kit().Make(x, kids...); h != nil || fault.Code(e) != want {
		t.Errorf("P12.1: %s, %s: %v, not %d", x.Kind, what, e, want)
	}
}

func TestRefusedNodes(t *testing.T) {
	for _, k := range kinds() {
		leaf := api.Tree{Kind: k.name, Text: "x"}
		kids := numbers(t, 2)
		refused(t, "no kids", api.ErrCount, leaf)
		refused(t, "no kids, no Text", api.ErrCount, api.Tree{Kind: k.name})
		refused(t, "kids of the tree alone", api.ErrCount, api.Tree{Kind: k.name, Text: "x", Kids: make([]api.Tree, 2)})
		if k.max >= 0 {
			refused(t, "a kid too few", api.ErrCount, leaf, kids[:1]...)
			refused(t, "a kid too many", api.ErrCount, leaf, numbers(t, 3)...)
			refused(t, "many kids", api.ErrCount, leaf, numbers(t, 1000)...)
		}
		for _, n := range []int64{1, -1, math.MinInt64, math.MaxInt64} {
			refused(t, "a Num", api.ErrFit, api.Tree{Kind: k.name, Num: n, Text: "x"}, kids...)
		}
		for _, s := range []string{"", " ", "\x00", "1", "64", "1x", "x y", "x ", " x", "x\n", "x.y", "x-", "\u00e9", strings.Repeat("x", 33)} {
			refused(t, "a Text", api.ErrFit, api.Tree{Kind: k.name, Text: s}, kids...)
		}
		refused(t, "a long Text", api.ErrLong, api.Tree{Kind: k.name, Text: strings.Repeat("x", 16385)}, kids...)
		refused(t, "a Text as long as may be", api.ErrFit, api.Tree{Kind: k.name, Text: strings.Repeat("x", 16384)}, kids...)
		kids[1] = nil
		refused(t, "no handle", api.ErrArg, leaf, kids...)
		kids[1] = new(node.Handle)
		refused(t, "the zero handle", api.ErrArg, api.Tree{Kind: k.name, Num: 1}, kids...)
	}
}

func TestRefusedStars(t *testing.T) {
	for _, c := range []struct {
		text string
		kids int
		code api.Errno
	}{
		{"x", 3, api.ErrFit}, {"x y z", 3, api.ErrFit}, {"", 3, api.ErrFit}, {"x", 1, api.ErrFit}, {" ", 1, api.ErrFit}, {"x y", 1, api.ErrFit},
		{"x  y", 3, api.ErrFit}, {"x y ", 3, api.ErrFit}, {" x y", 3, api.ErrFit}, {"x\ty", 3, api.ErrFit}, {"x\ny", 3, api.ErrFit}, {"x,y", 3, api.ErrFit}, {"x  ", 3, api.ErrFit},
		{"x 1", 3, api.ErrFit}, {"1 x", 3, api.ErrFit}, {"x y-", 3, api.ErrFit}, {"x " + strings.Repeat("y", 33), 3, api.ErrFit},
		{"x y", 0, api.ErrCount}, {"", 0, api.ErrCount}, {strings.Repeat("x ", 8192) + "x", 8194, api.ErrLong},
	} {
		refused(t, fmt.Sprintf("%.40q of %d kids", c.text, c.kids), c.code, api.Tree{Kind: "bind.star", Text: c.text}, numbers(t, c.kids)...)
	}
	refused(t, "one kid and a Num", api.ErrFit, api.Tree{Kind: "bind.star", Num: 1}, numbers(t, 1)...)
}

func TestSpeltWhere(t *testing.T) {
	l := numbers(t, 2)
	for _, hs := range [][]*node.Handle{l, {wrapped(t, l[0]), l[1]}, {l[1], wrapped(t, l[0])}, {l[0], l[0]}, {made(t, "bind.where", "y", l...), made(t, "bind.star", "z", l...)}} {
		for _, name := range []string{"x", "_", strings.Repeat("Z", 32)} {
			n := made(t, "bind.where", name, hs...).Node()
			holds(t, kinds()[0], name, spelt(t, n), hs[1].Node(), hs[0].Node())
			holds(t, kinds()[0], name, spelt(t, n), hs[1].Node(), hs[0].Node())
		}
	}
}

func TestSpeltStar(t *testing.T) {
	for _, n := range []int{1, 2, 3, 4, 5, 17, 64, 1023, 1024, 8193} {
		hs := numbers(t, n)
		hs[n/2] = wrapped(t, hs[n/2])
		var names []string
		for i := range n - 1 {
			names = append(names, string(rune('a'+i%26)))
		}
		got := spelt(t, made(t, "bind.star", strings.Join(names, " "), hs...).Node())
		for i, name := range names {
			holds(t, kinds()[0], name, got, hs[i].Node(), got.Kid(1))
			got = got.Kid(1)
		}
		if got != hs[n-1].Node() {
			t.Errorf("P12.3: the star of %d kids: another node as the innermost one", n)
		}
	}
}

// TestLongestStar has a text of just as many bytes as there may be.
func TestLongestStar(t *testing.T) {
	text := strings.Repeat("x ", 8191) + "yz"
	got := spelt(t, made(t, "bind.star", text, numbers(t, 8193)...).Node())
	for range 8191 {
		got = got.Kid(1)
	}
	if len(text) != 16384 || got.Text() != "yz" || got.Kid(0).Num() != 8191 || got.Kid(1).Num() != 8192 {
		t.Errorf("P12.3: the innermost let is %.60s", written(got))
	}
}

func TestSpeltText(t *testing.T) {
	l := numbers(t, 4)
	where := func(text string, kids ...*node.Handle) *node.Handle { return made(t, "bind.where", text, kids...) }
	star := func(text string, kids ...*node.Handle) *node.Handle { return made(t, "bind.star", text, kids...) }
	for _, c := range []struct {
		sugar *node.Handle
		want  string
	}{
		{where("x", l[0], l[1]), "let x(1, 0)"},
		{where("x", where("y", l[0], l[1]), l[2]), "let x(2, where y(0, 1))"},
		{star("", l[3]), "3"},
		{star("x", l[0], l[1]), "let x(0, 1)"},
		{star("x y", l[0], l[1], l[2]), "let x(0, let y(1, 2))"},
		{star("x x", l[0], l[1], l[2]), "let x(0, let x(1, 2))"},
		{star("x y z", l[0], l[1], l[2], l[3]), "let x(0, let y(1, let z(2, 3)))"},
		{star("", star("", l[1])), `star ""(1)`},
		{star("", where("x", l[0], l[1])), "where x(0, 1)"},
		{star("x", star("y", l[0], l[1]), star("z", l[2], l[3])), `let x(star "y"(0, 1), star "z"(2, 3))`},
	} {
		n := c.sugar.Node()
		if got, again := written(spelt(t, n)), written(spelt(t, n)); got != c.want || again != c.want {
			t.Errorf("P12.3: %s: %s, not %s", written(n), got, c.want)
		}
	}
}

// worth is what a node comes to, by doc/00 alone, of the abilities that this
// kit and its examples lean on; or a fault's number, and the path to its node.
func worth(n api.Node, scene map[string]api.Plain, path ...int) (api.Plain, api.Errno, []int) {
	kid := func(i int, scene map[string]api.Plain) (api.Plain, api.Errno, []int) {
		return worth(n.Kid(i), scene, append(slices.Clone(path), i)...)
	}
	switch x := n.(type) {
	case api.Literal:
		return api.Plain{Kind: api.PInt, Num: x.Num()}, api.OK, nil
	case api.Strict:
		l := api.Plain{Kind: api.PList}
		for i := range x.Len() {
			p, e, at := kid(i, scene)
			if e != api.OK {
				return api.Plain{}, e, at
			}
			l.List = append(l.List, p)
		}
		return l, api.OK, nil
	case api.Binder:
		p, e, at := kid(0, scene)
		if e != api.OK {
			return api.Plain{}, e, at
		}
		name, in := x.Binds()
		inner := maps.Clone(scene)
		inner[name] = p
		return kid(in, inner)
	case api.User:
		if p, ok := scene[x.Uses()]; ok {
			return p, api.OK, nil
		}
	case api.Sugar:
		return worth(x.Spelt(), scene, path...)
	}
	return api.Plain{}, api.ErrName, path
}

// shown writes what worth answers.
func shown(n api.Node) string {
	p, e, at := worth(n, map[string]api.Plain{})
	if e != api.OK {
		return fmt.Sprint(e, " at ", at)
	}
	return text(p)
}

func text(p api.Plain) string {
	if p.Kind != api.PList {
		return fmt.Sprint(p.Num)
	}
	var items []string
	for _, item := range p.List {
		items = append(items, text(item))
	}
	return "[" + strings.Join(items, ", ") + "]"
}

func TestExamples(t *testing.T) {
	number := func(n int64) *node.Handle {
		h, _ := node.Make(api.Tree{Kind: "base.int", Num: n})
		return h
	}
	use := func(name string) *node.Handle {
		h, _ := node.Make(api.Tree{Kind: "base.var", Text: name})
		return h
	}
	of := func(kids ...*node.Handle) *node.Handle {
		h, _ := list.Kit().Make(api.Tree{Kind: "list.of"}, kids...)
		return h
	}
	let := func(text string, kids ...*node.Handle) *node.Handle { return made(t, "bind.let", text, kids...) }
	where := func(text string, kids ...*node.Handle) *node.Handle { return made(t, "bind.where", text, kids...) }
	star := func(text string, kids ...*node.Handle) *node.Handle { return made(t, "bind.star", text, kids...) }
	one, five, six, seven, x, y := number(1), number(5), number(6), number(7), use("x"), use("y")
	for _, c := range []struct {
		h     *node.Handle
		spelt string
		want  string
	}{
		{let("x", five, x), "", "5"}, {let("x", five, let("x", six, x)), "", "6"}, {let("x", x, one), "", "10 at [0]"},
		{let("x", five, of(let("x", six, x), x)), "", "[6, 5]"}, {let("x", five, let("x", of(x), x)), "", "[5]"}, {let("x", five, y), "", "10 at [1]"}, {of(let("x", five, x), x), "", "10 at [1]"},
		{where("x", x, five), "let x(5, x)", "5"}, {where("x", of(x, x), five), "let x(5, of(x, x))", "[5, 5]"}, {where("x", one, x), "let x(x, 1)", "10 at [0]"},
		{star("x y", five, x, of(x, y)), "let x(5, let y(x, of(x, y)))", "[5, 5]"}, {star("", seven), "7", "7"},
		{star("x y", five, six, of(x, y)), "let x(5, let y(6, of(x, y)))", "[5, 6]"}, {star("x x", five, of(x), of(x)), "let x(5, let x(of(x), of(x)))", "[[5]]"}, {star("x y", y, six, x), "let x(y, let y(6, x))", "10 at [0]"},
	} {
		if got := shown(c.h.Node()); got != c.want {
			t.Errorf("P12.2: %s: %s, not %s", written(c.h.Node()), got, c.want)
		}
		if c.spelt == "" {
			continue
		}
		if got := written(spelt(t, c.h.Node())); got != c.spelt {
			t.Errorf("P12.3: %s: %s, not %s", written(c.h.Node()), got, c.spelt)
		}
	}
}

func TestWork(t *testing.T) {
	five := api.Plain{Kind: api.PInt, Num: 5}
	for _, op := range []string{"", "let", "bind", "bind.", "bind.let", "bind.where", "bind.star", "bind.none", "base.var", "num.add", "list.of", strings.Repeat("bind.let", 1<<17)} {
		for _, args := range [][]api.Plain{nil, {five}, {five, five}, {five, five, five}, {{}}, make([]api.Plain, 1<<16)} {
			if v, e, said := bind.Work(op, args...); v != nil || e != api.ErrArg || said != "" {
				t.Errorf("P12.4: %.40q of %d values: %v, %d, %q", op, len(args), v, e, said)
			}
		}
	}
}

func TestNothingIsChanged(t *testing.T) {
	args := []api.Plain{{Kind: api.PList, List: []api.Plain{{Kind: api.PInt, Num: 5}}}, {Kind: api.PText, Text: "spare"}}
	_, _, _ = bind.Work("bind.let", args[:1]...)
	if !reflect.DeepEqual(args, []api.Plain{{Kind: api.PList, List: []api.Plain{{Kind: api.PInt, Num: 5}}}, {Kind: api.PText, Text: "spare"}}) {
		t.Errorf("P12.5: arguments are changed: %v", args)
	}
	for _, k := range kinds() {
		hs := append(numbers(t, 2), nil)[:2]
		before := slices.Clone(hs)
		n := made(t, k.name, "x", hs...).Node()
		if x, ok := n.(api.Sugar); ok {
			_ = x.Spelt()
		}
		if !slices.Equal(hs, before) || hs[:3][2] != nil {
			t.Errorf("P12.5: kids of %s are changed", k.name)
		}
		holds(t, k, "x", n, nodesOf(before)...)
	}
}

func TestSeveralGoroutines(t *testing.T) {
	k := bind.Kit()
	l := numbers(t, 3)
	n := made(t, "bind.star", "x y", l...).Node()
	var all sync.WaitGroup
	for range 8 {
		all.Go(func() {
			for range 100 {
				h, e := k.Make(api.Tree{Kind: "bind.where", Text: "x"}, l[0], l[1])
				if e != nil || written(h.Node().(api.Sugar).Spelt()) != "let x(1, 0)" {
					t.Errorf("P12.3: at the same time: %v", e)
				}
				s := n.(api.Sugar).Spelt()
				if written(s) != "let x(0, let y(1, 2))" || !like(s.(api.Sorted).Signs(), letSigns()) {
					t.Errorf("P12.5: at the same time: a node tells something else")
				}
			}
		})
	}
	all.Wait()
}
