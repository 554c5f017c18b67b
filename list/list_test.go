package list_test

// The tests of P11.1 to P11.5, through the package's face alone.

import (
	"errors"
	"fmt"
	"math"
	"reflect"
	"runtime"
	"slices"
	"strings"
	"sync"
	"testing"

	"espalier/api"
	"espalier/fault"
	"espalier/list"
	"espalier/node"
)

const lowest, highest = math.MinInt64, math.MaxInt64

// kind is a line of doc/11's table, by hand; sorts of kids stand between bars.
type kind struct {
	name     string
	min, max int
	text     int
	has      string
	ins      string
	rest     bool
	out      string
	bound    string
}

func kinds() []kind {
	const quiet, sure = "Strict Pure Sorted", "Strict Pure Total Sorted"
	return []kind{
		{"list.of", 0, -1, api.TextNone, quiet, "a", true, "list a", ""},
		{"list.size", 1, 1, api.TextNone, sure, "list a", false, "int", ""},
		{"list.at", 2, 2, api.TextNone, quiet, "list a|int", false, "a", ""},
		{"list.join", 2, 2, api.TextNone, quiet, "list a|list a", false, "list a", ""},
		{"list.add", 2, 2, api.TextNone, quiet, "list a|a", false, "list a", ""},
		{"list.cut", 3, 3, api.TextNone, quiet, "list a|int|int", false, "list a", ""},
		{"list.turn", 1, 1, api.TextNone, sure, "list a", false, "list a", ""},
		{"list.count", 1, 1, api.TextNone, quiet, "int", false, "list int", ""},
		{"list.map", 2, 2, api.TextName, "Lazy Binder Pure Sorted", "list a|b", false, "list b", "a"},
		{"list.keep", 2, 2, api.TextName, "Lazy Binder Pure Total Sorted", "list a|truth", false, "list a", "a"},
	}
}

func (k kind) strict() bool { return strings.HasPrefix(k.has, "Strict") }

// named is a text that the kind's nodes may have.
func (k kind) named() string {
	if k.text == api.TextName {
		return "x"
	}
	return ""
}

func (k kind) leaf() api.Tree { return api.Tree{Kind: k.name, Text: k.named()} }

func sortOf(s string) api.Sort {
	if of, ok := strings.CutPrefix(s, "list "); ok {
		return api.Sort{Name: "list", Of: []api.Sort{sortOf(of)}}
	}
	return api.Sort{Name: s}
}

func (k kind) signs() api.Signature {
	signs := api.Signature{Rest: k.rest, Out: sortOf(k.out), Bound: sortOf(k.bound)}
	for _, in := range strings.Split(k.ins, "|") {
		signs.Ins = append(signs.Ins, sortOf(in))
	}
	return signs
}

// right are plain values of the sorts that the kind's kids have.
func (k kind) right() []api.Plain {
	var l []api.Plain
	for _, in := range strings.Split(k.ins, "|") {
		if in == "list a" {
			l = append(l, of(whole(5)))
		} else {
			l = append(l, whole(0))
		}
	}
	return l
}

// like holds two signatures against each other; nil and empty lists are alike.
func like(a, b api.Signature) bool { return fmt.Sprint(a) == fmt.Sprint(b) }

func numbers(t *testing.T, n int) []*node.Handle {
	t.Helper()
	var hs []*node.Handle
	for i := range n {
		h, e := node.Make(api.Tree{Kind: "base.int", Num: int64(i)})
		if e != nil {
			t.Fatal(e)
		}
		hs = append(hs, h)
	}
	return hs
}

func wrapped(t *testing.T, h *node.Handle) *node.Handle {
	t.Helper()
	w, e := node.Wrap(h, api.Place{Fun: "f", Path: []int{1}})
	if e != nil {
		t.Fatal(e)
	}
	return w
}

func made(t *testing.T, x api.Tree, kids ...*node.Handle) *node.Handle {
	t.Helper()
	h, e := list.Kit().Make(x, kids...)
	if e != nil || h == nil || h.Node() == nil {
		t.Fatalf("P11.1: %s of %d kids: %v", x.Kind, len(kids), e)
	}
	return h
}

func TestRows(t *testing.T) {
	k := list.Kit()
	if k.Name() != "list" {
		t.Errorf("P11.1: the name %q", k.Name())
	}
	rows := k.Rows()
	if len(rows) != len(kinds()) {
		t.Fatalf("P11.1: %d rows", len(rows))
	}
	for i, want := range kinds() {
		row := api.Row{Kind: want.name, Min: want.min, Max: want.max, Text: want.text, Abilities: strings.Fields(want.has)}
		if !reflect.DeepEqual(rows[i], row) {
			t.Errorf("P11.1: row %d: %v, not %v", i, rows[i], row)
		}
		if got, ok := k.Row(want.name); !ok || !reflect.DeepEqual(got, row) {
			t.Errorf("P11.1: %s: %v, %v", want.name, got, ok)
		}
	}
	for _, none := range []string{"", "list", "of", "list.", "list.list", "list.Of", "list.of ", "words.join", "base.int"} {
		if got, ok := k.Row(none); ok {
			t.Errorf("P11.1: %q: %v", none, got)
		}
		if h, e := k.Make(api.Tree{Kind: none}, numbers(t, 2)...); h != nil || fault.Code(e) != api.ErrNone {
			t.Errorf("P11.1: %q: %v", none, e)
		}
	}
}

func TestEachCallOne(t *testing.T) {
	a, b := list.Kit(), list.Kit()
	if a == nil || a == b {
		t.Errorf("P11.1: two calls give one kit")
	}
	rows := a.Rows()
	for i := range rows {
		rows[i].Abilities[0] = "Spoilt"
		_ = append(rows[i].Abilities, "More")
		rows[i].Kind = "spoilt.too"
	}
	for _, k := range kinds() {
		if got, ok := b.Row(k.name); !ok || !slices.Equal(got.Abilities, strings.Fields(k.has)) {
			t.Errorf("P11.5: %s of the other kit: %v", k.name, got)
		}
		if got, ok := a.Row(k.name); !ok || !slices.Equal(got.Abilities, strings.Fields(k.has)) {
			t.Errorf("P11.5: %s of the kit: %v", k.name, got)
		}
	}
}

// abilities asks by two-valued assertions.
func abilities(n api.Node) string {
	var names []string
	ask := func(name string, ok bool) {
		if ok {
			names = append(names, name)
		}
	}
	_, ok := n.(api.Literal)
	ask("Literal", ok)
	_, ok = n.(api.Strict)
	ask("Strict", ok)
	_, ok = n.(api.Lazy)
	ask("Lazy", ok)
	_, ok = n.(api.Binder)
	ask("Binder", ok)
	_, ok = n.(api.User)
	ask("User", ok)
	_, ok = n.(api.Caller)
	ask("Caller", ok)
	_, ok = n.(api.Pure)
	ask("Pure", ok)
	_, ok = n.(api.Total)
	ask("Total", ok)
	_, ok = n.(api.Sorted)
	ask("Sorted", ok)
	_, ok = n.(api.Sugar)
	ask("Sugar", ok)
	_, ok = n.(api.Framed)
	ask("Framed", ok)
	_, ok = n.(api.Wrapped)
	ask("Wrapped", ok)
	_, ok = n.(api.Origin)
	ask("Origin", ok)
	_, ok = n.(api.Opaque)
	ask("Opaque", ok)
	return strings.Join(names, " ")
}

// holds fails, unless a node is of a kind, and all that it tells is as the table says.
func holds(t *testing.T, k kind, n api.Node, kids ...api.Node) {
	t.Helper()
	if n.Kind() != k.name || n.Num() != 0 || n.Text() != k.named() || n.Len() != len(kids) {
		t.Fatalf("P11.1: %s: %s, %d, %q, %d kids", k.name, n.Kind(), n.Num(), n.Text(), n.Len())
	}
	for i, kid := range kids {
		if n.Kid(i) != kid {
			t.Errorf("P11.5: %s: another node as kid %d", k.name, i)
		}
	}
	for _, i := range []int{-1, len(kids), len(kids) + 1, math.MinInt, math.MaxInt} {
		if n.Kid(i) != nil {
			t.Errorf("P11.5: %s: a kid %d", k.name, i)
		}
	}
	if got := abilities(n); got != k.has {
		t.Errorf("P11.1: %s: %s, not %s", k.name, got, k.has)
	}
	if x, ok := n.(api.Strict); ok && x.Op() != k.name {
		t.Errorf("P11.1: %s: the operation %s", k.name, x.Op())
	}
	if x, ok := n.(api.Pure); !ok || !x.Quiet() {
		t.Errorf("P11.1: %s is not quiet", k.name)
	}
	if x, ok := n.(api.Total); ok && !x.Sure() {
		t.Errorf("P11.1: %s is not sure", k.name)
	}
	if x, ok := n.(api.Sorted); !ok || !like(x.Signs(), k.signs()) {
		t.Errorf("P11.1: %s: other sorts than %v", k.name, k.signs())
	}
}

func TestNodes(t *testing.T) {
	for _, k := range kinds() {
		for _, n := range []int{k.min, max(k.max, 1), max(k.max, 1023)} {
			hs := numbers(t, n)
			if k.max >= 0 && n > k.max {
				continue
			}
			if n > 0 {
				hs[0] = wrapped(t, hs[0])
			}
			var kids []api.Node
			for _, h := range hs {
				kids = append(kids, h.Node())
			}
			h := made(t, k.leaf(), hs...)
			holds(t, k, h.Node(), kids...)
			if got := strings.Join(node.Abilities(h), " "); got != k.has {
				t.Errorf("P11.1: %s: %s, not %s", k.name, got, k.has)
			}
			if h.Node() == made(t, k.leaf(), hs...).Node() || h.Node() != h.Node() {
				t.Errorf("P11.1: %s: a node is itself, and no other one", k.name)
			}
			clear(hs)
			holds(t, k, h.Node(), kids...)
		}
	}
}

func TestHandles(t *testing.T) {
	l := numbers(t, 2)
	h := made(t, api.Tree{Kind: "list.map", Text: "x"}, made(t, api.Tree{Kind: "list.of"}, l...), l[1])
	w := wrapped(t, h)
	if core, e := node.Core(w); e != nil || core.Node() != h.Node() || w.Node().Kid(0) != h.Node().Kid(0) {
		t.Errorf("P11.1: a wrapper around list.map: %v", e)
	}
	for _, ability := range []string{"Lazy", "Binder"} {
		if e := node.Must(w, ability); e != nil {
			t.Errorf("P11.1: a wrapped list.map is %s: %v", ability, e)
		}
	}
	var lack api.Lacking
	if e := node.Must(h, "Total"); !errors.As(e, &lack) {
		t.Errorf("P11.1: list.map is not Total: %v", e)
	} else if kind, ability := lack.Lacks(); kind != "list.map" || ability != "Total" {
		t.Errorf("P11.1: %s lacks %s", kind, ability)
	}
	no, one := api.Tree{Kind: "base.int"}, api.Tree{Kind: "base.int", Num: 1}
	want := api.Tree{Kind: "list.map", Text: "x", Kids: []api.Tree{{Kind: "list.of", Kids: []api.Tree{no, one}}, one}}
	if x, e := node.Plain(w); e != nil || !reflect.DeepEqual(x, want) {
		t.Errorf("P11.1: %v, %v", x, e)
	}
}

func TestSignsAreTheCallersOwn(t *testing.T) {
	for _, k := range kinds() {
		n := made(t, k.leaf(), numbers(t, k.min)...).Node().(api.Sorted)
		a, b := n.Signs(), n.Signs()
		_ = append(a.Ins, api.Sort{Name: "more"})
		for _, s := range append(slices.Clone(a.Ins), a.Out, a.Bound) {
			_ = append(s.Of, api.Sort{Name: "more"})
			for i := range s.Of {
				s.Of[i] = api.Sort{Name: "spoilt"}
			}
		}
		for i := range a.Ins {
			a.Ins[i] = api.Sort{Name: "spoilt"}
		}
		if !like(b, k.signs()) || !like(n.Signs(), k.signs()) {
			t.Errorf("P11.5: %s: signatures share memory", k.name)
		}
		for i := range b.Ins {
			if of := b.Ins[i].Of; len(of) > 0 {
				of[0].Name = "spoilt"
			}
		}
		if b.Out.Name == "list" && b.Out.Of[0].Name == "spoilt" {
			t.Errorf("P11.5: %s: two lists of one signature share memory", k.name)
		}
	}
}

func TestRefusedNodes(t *testing.T) {
	refused := func(what string, want api.Errno, x api.Tree, kids ...*node.Handle) {
		t.Helper()
		if h, e := list.Kit().Make(x, kids...); h != nil || fault.Code(e) != want {
			t.Errorf("P11.1: %s, %s: %v, not %d", x.Kind, what, e, want)
		}
	}
	for _, k := range kinds() {
		kids := numbers(t, max(k.min, 1))
		if k.max >= 0 {
			refused("no kids", api.ErrCount, k.leaf())
			refused("kids of the tree alone", api.ErrCount, api.Tree{Kind: k.name, Text: k.named(), Kids: make([]api.Tree, k.min)})
			refused("a kid too few", api.ErrCount, k.leaf(), kids[1:]...)
			refused("a kid too many", api.ErrCount, k.leaf(), numbers(t, k.max+1)...)
			refused("many kids", api.ErrCount, k.leaf(), numbers(t, 1000)...)
		}
		for _, n := range []int64{1, -1, lowest, highest} {
			refused("a Num", api.ErrFit, api.Tree{Kind: k.name, Num: n, Text: k.named()}, kids...)
		}
		for _, s := range []string{" ", "\x00", "1", "1x", "x y", "x ", "x.y", "x-", "\u00e9", strings.Repeat("x", 33)} {
			refused("a Text", api.ErrFit, api.Tree{Kind: k.name, Text: s}, kids...)
		}
		refused("the other Text", api.ErrFit, api.Tree{Kind: k.name, Text: "x"[len(k.named()):]}, kids...)
		refused("a long Text", api.ErrLong, api.Tree{Kind: k.name, Text: strings.Repeat("x", 16385)}, kids...)
		kids[len(kids)-1] = nil
		refused("no handle", api.ErrArg, k.leaf(), kids...)
		kids[len(kids)-1] = new(node.Handle)
		refused("the zero handle", api.ErrArg, api.Tree{Kind: k.name, Num: 1}, kids...)
	}
}

// TestWays tells of the ways what can be told without who goes them: which
// nodes have one, by which name, with which kids, what they bind where, and
// that none is an operation, which would have all kids evaluated at once.
func TestWays(t *testing.T) {
	for _, k := range kinds() {
		if k.strict() {
			continue
		}
		for _, name := range []string{"x", "X", "_", "x1", "list", "a_B9", strings.Repeat("x", 32)} {
			hs := numbers(t, 2)
			n := made(t, api.Tree{Kind: k.name, Text: name}, hs...).Node()
			if x, ok := n.(api.Lazy); !ok || x.Way() != k.name {
				t.Errorf("P11.3: %s has not its way", k.name)
			}
			if x, ok := n.(api.Binder); !ok {
				t.Errorf("P11.3: %s binds nothing", k.name)
			} else if bound, in := x.Binds(); bound != name || in != 1 || n.Kid(in) != hs[1].Node() || n.Text() != name {
				t.Errorf("P11.3: %s binds %q in %d", k.name, bound, in)
			}
			if _, ok := n.(api.Strict); ok {
				t.Errorf("P11.3: %s is Strict", k.name)
			}
		}
		wanted(t, "P11.3", k.name, api.ErrArg, of(), truth(true))
	}
}

func whole(n int64) api.Plain { return api.Plain{Kind: api.PInt, Num: n} }

func text(s string) api.Plain { return api.Plain{Kind: api.PText, Text: s} }

func unit() api.Plain { return api.Plain{Kind: api.PUnit} }

func truth(yes bool) api.Plain {
	if yes {
		return api.Plain{Kind: api.PTruth, Num: 1}
	}
	return api.Plain{Kind: api.PTruth}
}

func of(ps ...api.Plain) api.Plain { return api.Plain{Kind: api.PList, List: ps} }

// within puts a value within n lists.
func within(p api.Plain, n int) api.Plain {
	for range n {
		p = of(p)
	}
	return p
}

// wholes are the numbers from 0 up.
func wholes(n int) []api.Plain {
	l := make([]api.Plain, n)
	for i := range l {
		l[i] = whole(int64(i))
	}
	return l
}

// same holds a value against a plain one, by hand.
func same(v api.Value, p api.Plain) bool {
	switch x := v.(type) {
	case api.Unit:
		return p.Kind == api.PUnit
	case api.Truth:
		return p.Kind == api.PTruth && bool(x) == (p.Num == 1)
	case api.Int:
		return p.Kind == api.PInt && int64(x) == p.Num
	case api.Text:
		return p.Kind == api.PText && string(x) == p.Text
	case api.List:
		return p.Kind == api.PList && slices.EqualFunc(x, p.List, same)
	}
	return false
}

// wanted is what is wanted of an operation: a plain value, or a fault's number.
func wanted(t *testing.T, promise, op string, want any, args ...api.Plain) {
	t.Helper()
	v, e, said := list.Work(op, args...)
	if code, ok := want.(api.Errno); ok {
		if v != nil || e != code || said != "" {
			t.Errorf("%s: %.20s of %d values: %.60q, %d, %q, not error %d", promise, op, len(args), fmt.Sprint(v), e, said, code)
		}
	} else if !same(v, want.(api.Plain)) || e != api.OK || said != "" {
		t.Errorf("%s: %s of %d values: %.60q, %d, %q, not %.60q", promise, op, len(args), fmt.Sprint(v), e, said, fmt.Sprint(want))
	}
}

// values are some of all sorts, lists last.
func values() []api.Plain {
	return []api.Plain{unit(), truth(true), truth(false), whole(0), whole(-5), whole(lowest), text(""), text("a\x00\xff"), of(), of(unit()), of(whole(1), text("x"), of(of())), of(wholes(9)...)}
}

func lists() []api.Plain { return values()[8:] }

func TestOf(t *testing.T) {
	wanted(t, "P11.2", "list.of", of())
	wanted(t, "P11.2", "list.of", of(), []api.Plain{}...)
	for _, a := range values() {
		wanted(t, "P11.2", "list.of", of(a), a)
		for _, b := range values() {
			wanted(t, "P11.2", "list.of", of(a, b), a, b)
			wanted(t, "P11.2", "list.of", of(a, b, a), a, b, a)
		}
	}
	wanted(t, "P11.2", "list.of", of(values()...), values()...)
}

func TestOfTooGreat(t *testing.T) {
	many := wholes(65536)
	wanted(t, "P11.2", "list.of", of(many[:65535]...), many[:65535]...)
	wanted(t, "P11.2", "list.of", api.ErrLong, many...)
	wanted(t, "P11.2", "list.of", api.ErrLong, wholes(1<<20)...)
	wanted(t, "P11.2", "list.of", of(text(strings.Repeat("x", 65534))), text(strings.Repeat("x", 65534)))
	wanted(t, "P11.2", "list.of", api.ErrLong, text(strings.Repeat("x", 65535)))
	wanted(t, "P11.2", "list.of", api.ErrLong, text(strings.Repeat("x", 65534)), unit())
	wanted(t, "P11.2", "list.of", of(of(many[:65534]...)), of(many[:65534]...))
	wanted(t, "P11.2", "list.of", api.ErrLong, of(many[:65535]...))
	wanted(t, "P11.2", "list.of", within(whole(5), 64), within(whole(5), 63))
	wanted(t, "P11.2", "list.of", api.ErrLong, within(whole(5), 64))
	wanted(t, "P11.2", "list.of", api.ErrLong, unit(), within(of(), 63), unit())
	wanted(t, "P11.2", "list.of", within(of(), 63), within(of(), 62))
}

// TestOfShared has values that are far more than what they share, if each is made.
func TestOfShared(t *testing.T) {
	args := slices.Repeat([]api.Plain{of(wholes(65535)...)}, 200)
	var before, behind runtime.MemStats
	runtime.ReadMemStats(&before)
	wanted(t, "P11.2", "list.of", api.ErrLong, args...)
	runtime.ReadMemStats(&behind)
	if made := behind.TotalAlloc - before.TotalAlloc; made > 1<<24 {
		t.Errorf("P11.2: a list that may not be is told by making %d bytes", made)
	}
	wanted(t, "P11.4", "list.of", api.ErrArg, append(args, api.Plain{})...)
}

func TestSize(t *testing.T) {
	for _, l := range lists() {
		wanted(t, "P11.2", "list.size", whole(int64(len(l.List))), l)
	}
	wanted(t, "P11.2", "list.size", whole(65535), of(wholes(65535)...))
	wanted(t, "P11.2", "list.size", whole(1), within(unit(), 64))
}

func places() []int64 {
	return []int64{lowest, lowest + 1, -1 << 32, -2, -1, 0, 1, 2, 3, 4, 8, 9, 10, 1 << 32, 1<<32 + 1, highest - 1, highest}
}

func TestAt(t *testing.T) {
	for _, l := range lists() {
		for _, i := range places() {
			if i < 0 || i >= int64(len(l.List)) {
				wanted(t, "P11.2", "list.at", api.ErrBounds, l, whole(i))
			} else {
				wanted(t, "P11.2", "list.at", l.List[i], l, whole(i))
			}
		}
	}
	many := of(wholes(65535)...)
	wanted(t, "P11.2", "list.at", whole(65534), many, whole(65534))
	wanted(t, "P11.2", "list.at", api.ErrBounds, many, whole(65535))
	wanted(t, "P11.2", "list.at", within(unit(), 63), within(unit(), 64), whole(0))
}

func TestJoin(t *testing.T) {
	for _, a := range lists() {
		for _, b := range lists() {
			wanted(t, "P11.2", "list.join", of(append(slices.Clone(a.List), b.List...)...), a, b)
		}
	}
	many := wholes(65535)
	for _, n := range []int{0, 1, 2, 32767, 32768, 65534, 65535} {
		wanted(t, "P11.2", "list.join", of(many...), of(many[:n]...), of(many[n:]...))
		if n > 0 {
			wanted(t, "P11.2", "list.join", api.ErrLong, of(many[:n]...), of(many[n-1:]...))
		}
	}
	wanted(t, "P11.2", "list.join", api.ErrLong, of(many...), of(many...))
	long := of(text(strings.Repeat("x", 32767)), of(whole(1), whole(2)))
	wanted(t, "P11.2", "list.join", api.ErrLong, long, long)
	wanted(t, "P11.2", "list.join", of(long.List[0], long.List[1], text(strings.Repeat("x", 32763))), long, of(text(strings.Repeat("x", 32763))))
	wanted(t, "P11.2", "list.join", api.ErrLong, long, of(text(strings.Repeat("x", 32764))))
	deep := within(unit(), 64)
	wanted(t, "P11.2", "list.join", of(deep.List[0], deep.List[0]), deep, deep)
}

func TestAdd(t *testing.T) {
	for _, l := range lists() {
		for _, v := range values() {
			wanted(t, "P11.2", "list.add", of(append(slices.Clone(l.List), v)...), l, v)
		}
	}
	many := wholes(65535)
	wanted(t, "P11.2", "list.add", of(many...), of(many[:65534]...), many[65534])
	wanted(t, "P11.2", "list.add", api.ErrLong, of(many...), unit())
	wanted(t, "P11.2", "list.add", api.ErrLong, of(many[:65534]...), text("x"))
	wanted(t, "P11.2", "list.add", of(append(slices.Clone(many[:65533]), text("x"))...), of(many[:65533]...), text("x"))
	wanted(t, "P11.2", "list.add", api.ErrLong, of(), of(many...))
	wanted(t, "P11.2", "list.add", of(of(many[:65534]...)), of(), of(many[:65534]...))
	wanted(t, "P11.2", "list.add", within(unit(), 64), of(), within(unit(), 63))
	wanted(t, "P11.2", "list.add", api.ErrLong, of(), within(unit(), 64))
	wanted(t, "P11.2", "list.add", api.ErrLong, of(whole(1)), within(of(), 63))
	deep := within(unit(), 64)
	wanted(t, "P11.2", "list.add", of(deep.List[0], deep.List[0]), deep, deep.List[0])
}

func TestCut(t *testing.T) {
	for _, l := range lists() {
		for _, from := range places() {
			for _, to := range places() {
				if from < 0 || to < from || to > int64(len(l.List)) {
					wanted(t, "P11.2", "list.cut", api.ErrBounds, l, whole(from), whole(to))
				} else {
					wanted(t, "P11.2", "list.cut", of(l.List[from:to]...), l, whole(from), whole(to))
				}
			}
		}
	}
	many := wholes(65535)
	wanted(t, "P11.2", "list.cut", of(many...), of(many...), whole(0), whole(65535))
	wanted(t, "P11.2", "list.cut", of(many[5:60000]...), of(many...), whole(5), whole(60000))
	wanted(t, "P11.2", "list.cut", of(), of(many...), whole(65535), whole(65535))
	wanted(t, "P11.2", "list.cut", api.ErrBounds, of(many...), whole(0), whole(65536))
}

func TestTurn(t *testing.T) {
	for _, l := range append(lists(), of(wholes(65535)...), within(unit(), 64), of(whole(1), whole(2))) {
		var want []api.Plain
		for i := len(l.List) - 1; i >= 0; i-- {
			want = append(want, l.List[i])
		}
		wanted(t, "P11.2", "list.turn", of(want...), l)
	}
}

func TestCount(t *testing.T) {
	for _, n := range []int{0, 1, 2, 3, 255, 256, 257, 65534, 65535} {
		wanted(t, "P11.2", "list.count", of(wholes(n)...), whole(int64(n)))
	}
	for _, n := range []int64{65536, 65537, 1 << 31, 1 << 32, 1<<32 + 1, 1 << 62, highest - 1, highest} {
		wanted(t, "P11.2", "list.count", api.ErrLong, whole(n))
		wanted(t, "P11.2", "list.count", api.ErrBounds, whole(-n))
	}
	for _, n := range []int64{-1, -2, lowest + 1, lowest} {
		wanted(t, "P11.2", "list.count", api.ErrBounds, whole(n))
	}
}

func TestExamples(t *testing.T) {
	one, two := whole(1), whole(2)
	for _, c := range []struct {
		op   string
		args []api.Plain
		want any
	}{
		{"of", nil, of()}, {"of", []api.Plain{one, truth(true)}, of(one, truth(true))},
		{"size", []api.Plain{of(one, two)}, two}, {"at", []api.Plain{of(one, two), one}, two}, {"at", []api.Plain{of(), whole(0)}, api.ErrBounds},
		{"cut", []api.Plain{of(one, two, whole(3)), one, two}, of(two)}, {"cut", []api.Plain{of(one), one, one}, of()}, {"cut", []api.Plain{of(one), one, whole(0)}, api.ErrBounds},
		{"count", []api.Plain{whole(3)}, of(whole(0), one, two)}, {"count", []api.Plain{whole(-1)}, api.ErrBounds}, {"count", []api.Plain{whole(65536)}, api.ErrLong},
		{"add", []api.Plain{of(), of(one)}, of(of(one))}, {"turn", []api.Plain{of(one, two)}, of(two, one)},
	} {
		wanted(t, "P11.2", "list."+c.op, c.want, c.args...)
	}
}

// mayNot are plain values that may not be.
func mayNot() []api.Plain {
	ring := []api.Plain{{Kind: api.PList}, {Kind: api.PList}}
	ring[0].List, ring[1].List = ring, ring
	return []api.Plain{{}, {Kind: -1}, {Kind: 6}, {Kind: api.PTruth, Num: 2}, {Kind: api.PInt, Num: 1, Text: "x"}, {Kind: api.PInt, List: make([]api.Plain, 1)}, {Kind: api.PList, Num: 1}, {Kind: api.PList, Text: "x"}, text(strings.Repeat("x", 65536)), of(wholes(65536)...), within(of(), 64), within(unit(), 65), of(ring...), of(whole(1), api.Plain{}), of(of(of(api.Plain{Kind: 9})))}
}

// others are values of other sorts than the one that is named.
func others(sort string) []api.Plain {
	l := []api.Plain{unit(), truth(true), truth(false), text(""), text("5")}
	switch sort {
	case "int":
		return append(l, of(), of(whole(5)))
	case "list a":
		return append(l, whole(0), whole(5), whole(lowest))
	}
	return nil
}

func TestWorkRefused(t *testing.T) {
	for _, op := range []string{"", "of", "list", "list.", ".of", "list.Of", "list.of ", " list.of", "list.map", "list.keep", "list.list", "words.join", "num.add", "base.int", strings.Repeat("list.of", 1<<17)} {
		for _, args := range [][]api.Plain{nil, {of()}, {of(), of()}, {of(), truth(true)}, {of(), whole(0), whole(0)}, mayNot(), values()} {
			wanted(t, "P11.4", op, api.ErrArg, args...)
		}
	}
	for _, k := range kinds() {
		if !k.strict() || k.max < 0 {
			continue
		}
		for n := range 6 {
			if n == k.min {
				continue
			}
			wanted(t, "P11.4", k.name, api.ErrCount, slices.Repeat([]api.Plain{of()}, n)...)
			wanted(t, "P11.4", k.name, api.ErrCount, slices.Repeat([]api.Plain{{}}, n)...)
			wanted(t, "P11.4", k.name, api.ErrCount, slices.Repeat([]api.Plain{unit()}, n)...)
		}
		wanted(t, "P11.4", k.name, api.ErrCount, make([]api.Plain, 1<<20)...)
	}
}

func TestWorkOfOtherValues(t *testing.T) {
	for _, k := range kinds() {
		if !k.strict() {
			continue
		}
		for at, in := range strings.Split(k.ins, "|") {
			for _, p := range mayNot() {
				args := k.right()
				args[(at+1)%len(args)] = unit()
				args[at] = p
				wanted(t, "P11.4", k.name, api.ErrArg, args...)
				args = k.right()
				args[at] = p
				wanted(t, "P11.4", k.name, api.ErrArg, args...)
			}
			for _, p := range others(in) {
				args := k.right()
				args[at] = p
				wanted(t, "P11.5", k.name, api.ErrKind, args...)
			}
		}
	}
	wanted(t, "P11.4", "list.of", api.ErrArg, append(wholes(65536), api.Plain{})...)
	wanted(t, "P11.4", "list.of", api.ErrArg, append([]api.Plain{{}}, wholes(65536)...)...)
}

// TestOtherSortsFirst has operations with something else amiss, too.
func TestOtherSortsFirst(t *testing.T) {
	many := of(wholes(65535)...)
	for _, c := range []struct {
		op   string
		args []api.Plain
	}{
		{"at", []api.Plain{unit(), whole(-1)}}, {"at", []api.Plain{of(), of()}}, {"at", []api.Plain{whole(0), of(whole(1))}},
		{"join", []api.Plain{many, text("x")}}, {"join", []api.Plain{text("x"), many}}, {"join", []api.Plain{whole(1), whole(2)}},
		{"add", []api.Plain{whole(1), many}}, {"add", []api.Plain{whole(1), of()}}, {"add", []api.Plain{unit(), within(of(), 63)}},
		{"cut", []api.Plain{of(), whole(5), unit()}}, {"cut", []api.Plain{of(), unit(), whole(5)}}, {"cut", []api.Plain{text("abc"), whole(0), whole(1)}}, {"cut", []api.Plain{unit(), whole(-1), whole(-2)}},
		{"size", []api.Plain{text("abc")}}, {"turn", []api.Plain{text("abc")}}, {"count", []api.Plain{of()}}, {"count", []api.Plain{text("3")}},
	} {
		wanted(t, "P11.5", "list."+c.op, api.ErrKind, c.args...)
	}
}

func TestNothingIsChanged(t *testing.T) {
	fresh := func() []api.Plain { return []api.Plain{whole(1), of(whole(2), text("x")), truth(true), unit()} }
	shared := fresh()
	args := []api.Plain{of(shared[:3]...), of(shared[:2]...), whole(9)}
	calls := func() {
		_, _, _ = list.Work("list.turn", args[0])
		_, _, _ = list.Work("list.join", args[1], args[0])
		_, _, _ = list.Work("list.join", args[:2]...)
		_, _, _ = list.Work("list.add", args[1], args[2])
		_, _, _ = list.Work("list.of", args[:2]...)
		_, _, _ = list.Work("list.cut", args[0], whole(0), whole(1))
	}
	calls()
	if !reflect.DeepEqual(shared, fresh()) || !reflect.DeepEqual(args, []api.Plain{of(fresh()[:3]...), of(fresh()[:2]...), whole(9)}) {
		t.Errorf("P11.5: arguments are changed: %v", args)
	}
	for _, k := range kinds() {
		hs := append(numbers(t, k.min), nil)[:k.min]
		before := slices.Clone(hs)
		n := made(t, k.leaf(), hs...).Node()
		_ = n.(api.Sorted).Signs()
		if !slices.Equal(hs, before) || hs[:k.min+1][k.min] != nil {
			t.Errorf("P11.5: %s: kids are changed", k.name)
		}
	}
}

// spoil overwrites all that a value's list has, spare room too.
func spoil(v api.Value) {
	if l, ok := v.(api.List); ok {
		for _, item := range l {
			spoil(item)
		}
		l = l[:cap(l)]
		for i := range l {
			l[i] = api.Text("spoilt")
		}
	}
}

func TestAnswersAreTheCallersOwn(t *testing.T) {
	inner := of(whole(1), whole(2))
	a := of(inner, inner, whole(3))
	for _, c := range []struct {
		op   string
		args []api.Plain
		want api.Plain
	}{
		{"list.of", []api.Plain{inner, inner}, of(inner, inner)},
		{"list.at", []api.Plain{a, whole(0)}, inner},
		{"list.join", []api.Plain{a, a}, of(inner, inner, whole(3), inner, inner, whole(3))},
		{"list.add", []api.Plain{a, inner}, of(inner, inner, whole(3), inner)},
		{"list.cut", []api.Plain{a, whole(0), whole(2)}, of(inner, inner)},
		{"list.turn", []api.Plain{a}, of(whole(3), inner, inner)},
		{"list.count", []api.Plain{whole(2)}, of(whole(0), whole(1))},
	} {
		v, _, _ := list.Work(c.op, c.args...)
		other, _, _ := list.Work(c.op, c.args...)
		if first, ok := v.(api.List)[0].(api.List); ok {
			spoil(first)
			second, _ := v.(api.List)[len(c.want.List)-1].(api.List)
			if second != nil && !same(second, inner) {
				t.Errorf("P11.5: %s: two lists of one answer share memory", c.op)
			}
		}
		spoil(v)
		if !same(other, c.want) {
			t.Errorf("P11.5: %s: two answers share memory", c.op)
		}
		wanted(t, "P11.5", c.op, c.want, c.args...)
	}
}

func TestSeveralGoroutines(t *testing.T) {
	k := list.Kit()
	kids := numbers(t, 2)
	n := made(t, api.Tree{Kind: "list.keep", Text: "x"}, kids...).Node()
	l := of(wholes(9)...)
	var all sync.WaitGroup
	for i := range 8 {
		all.Go(func() {
			for range 200 {
				wanted(t, "P11.2", "list.cut", of(l.List[:i]...), l, whole(0), whole(int64(i)))
				if h, e := k.Make(api.Tree{Kind: "list.map", Text: "y"}, kids...); e != nil || h.Node().(api.Lazy).Way() != "list.map" {
					t.Errorf("P11.3: at the same time: %v", e)
				}
				if name, _ := n.(api.Binder).Binds(); name != "x" || !like(n.(api.Sorted).Signs(), kinds()[9].signs()) {
					t.Errorf("P11.5: at the same time: a node tells something else")
				}
			}
		})
	}
	all.Wait()
}
