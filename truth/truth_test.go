package truth_test

// The tests of P9.1 to P9.5, through the package's face alone.

import (
	"errors"
	"fmt"
	"math"
	"reflect"
	"slices"
	"strings"
	"sync"
	"testing"

	"espalier/api"
	"espalier/fault"
	"espalier/node"
	"espalier/truth"
	"espalier/worth"
)

// kind is a line of doc/09's table, by hand.
type kind struct {
	name string
	kids int
	has  string
	ins  []string
	out  string
}

func kinds() []kind {
	const strict, lazy = "Strict Pure Total Sorted", "Lazy Pure Total Sorted"
	return []kind{
		{"truth.not", 1, strict, []string{"truth"}, "truth"},
		{"truth.same", 2, strict, []string{"a", "a"}, "truth"},
		{"truth.if", 3, lazy, []string{"truth", "a", "a"}, "a"},
		{"truth.and", 2, lazy, []string{"truth", "truth"}, "truth"},
		{"truth.or", 2, lazy, []string{"truth", "truth"}, "truth"},
	}
}

func (k kind) strict() bool { return strings.HasPrefix(k.has, "Strict") }

func (k kind) signs() api.Signature {
	signs := api.Signature{Out: api.Sort{Name: k.out}}
	for _, in := range k.ins {
		signs.Ins = append(signs.Ins, api.Sort{Name: in})
	}
	return signs
}

// like holds two signatures against each other; nil and empty lists are alike.
func like(a, b api.Signature) bool { return fmt.Sprint(a) == fmt.Sprint(b) }

func leaf(kind string) api.Tree { return api.Tree{Kind: kind} }

func made(t *testing.T, kind string, kids ...*node.Handle) *node.Handle {
	t.Helper()
	h, e := truth.Kit().Make(leaf(kind), kids...)
	if e != nil || h == nil || h.Node() == nil {
		t.Fatalf("P9.1: %s of %d kids: %v", kind, len(kids), e)
	}
	return h
}

func basic(t *testing.T, x api.Tree) *node.Handle {
	t.Helper()
	h, e := node.Make(x)
	if e != nil {
		t.Fatal(e)
	}
	return h
}

func numbers(t *testing.T, n int) []*node.Handle {
	t.Helper()
	var hs []*node.Handle
	for i := range n {
		hs = append(hs, basic(t, api.Tree{Kind: "base.int", Num: int64(i)}))
	}
	return hs
}

func wrapped(t *testing.T, h *node.Handle) *node.Handle {
	t.Helper()
	w, e := node.Wrap(h, api.Place{Fun: "f", Path: []int{1}})
	if e != nil {
		t.Fatal(e)
	}
	return w
}

func TestRows(t *testing.T) {
	k := truth.Kit()
	if k.Name() != "truth" {
		t.Errorf("P9.1: the name %q", k.Name())
	}
	rows := k.Rows()
	if len(rows) != len(kinds()) {
		t.Fatalf("P9.1: %d rows", len(rows))
	}
	for i, want := range kinds() {
		row := api.Row{Kind: want.name, Min: want.kids, Max: want.kids, Abilities: strings.Fields(want.has)}
		if !reflect.DeepEqual(rows[i], row) {
			t.Errorf("P9.1: row %d: %v, not %v", i, rows[i], row)
		}
		if got, ok := k.Row(want.name); !ok || !reflect.DeepEqual(got, row) {
			t.Errorf("P9.1: %s: %v, %v", want.name, got, ok)
		}
	}
	for _, none := range []string{"", "truth", "not", "truth.", "truth.yes", "truth.Not", "truth.not ", "truth.xor", "base.yes", "num.not"} {
		if got, ok := k.Row(none); ok {
			t.Errorf("P9.1: %q: %v", none, got)
		}
		if h, e := k.Make(leaf(none), numbers(t, 2)...); h != nil || fault.Code(e) != api.ErrNone {
			t.Errorf("P9.1: %q: %v", none, e)
		}
	}
}

func TestEachCallOne(t *testing.T) {
	a, b := truth.Kit(), truth.Kit()
	if a == nil || a == b {
		t.Errorf("P9.1: two calls give one kit")
	}
	rows := a.Rows()
	for i := range rows {
		rows[i].Abilities[0] = "Spoilt"
		_ = append(rows[i].Abilities, "More")
		rows[i].Kind = "spoilt.too"
	}
	for _, k := range kinds() {
		if got, ok := b.Row(k.name); !ok || !slices.Equal(got.Abilities, strings.Fields(k.has)) {
			t.Errorf("P9.5: %s of the other kit: %v", k.name, got)
		}
		if got, ok := a.Row(k.name); !ok || !slices.Equal(got.Abilities, strings.Fields(k.has)) {
			t.Errorf("P9.5: %s of the kit: %v", k.name, got)
		}
	}
}

// abilities asks by two-valued assertions.
func abilities(n api.Node) string {
	var names []string
	ask := func(name string, ok bool) {
		if ok {
			names = append(names, name)
		}
	}
	_, ok := n.(api.Literal)
	ask("Literal", ok)
	_, ok = n.(api.Strict)
	ask("Strict", ok)
	_, ok = n.(api.Lazy)
	ask("Lazy", ok)
	_, ok = n.(api.Binder)
	ask("Binder", ok)
	_, ok = n.(api.User)
	ask("User", ok)
	_, ok = n.(api.Caller)
	ask("Caller", ok)
	_, ok = n.(api.Pure)
	ask("Pure", ok)
	_, ok = n.(api.Total)
	ask("Total", ok)
	_, ok = n.(api.Sorted)
	ask("Sorted", ok)
	_, ok = n.(api.Sugar)
	ask("Sugar", ok)
	_, ok = n.(api.Framed)
	ask("Framed", ok)
	_, ok = n.(api.Wrapped)
	ask("Wrapped", ok)
	_, ok = n.(api.Origin)
	ask("Origin", ok)
	_, ok = n.(api.Opaque)
	ask("Opaque", ok)
	return strings.Join(names, " ")
}

// holds fails, unless a node is of a kind, and all that it tells is as the table says.
func holds(t *testing.T, k kind, n api.Node, kids ...api.Node) {
	t.Helper()
	if n.Kind() != k.name || n.Num() != 0 || n.Text() != "" || n.Len() != len(kids) {
		t.Fatalf("P9.1: %s: %s, %d, %q, %d kids", k.name, n.Kind(), n.Num(), n.Text(), n.Len())
	}
	for i, kid := range kids {
		if n.Kid(i) != kid {
			t.Errorf("P9.5: %s: another node as kid %d", k.name, i)
		}
	}
	for _, i := range []int{-1, len(kids), len(kids) + 1, math.MinInt, math.MaxInt} {
		if n.Kid(i) != nil {
			t.Errorf("P9.5: %s: a kid %d", k.name, i)
		}
	}
	if got := abilities(n); got != k.has {
		t.Errorf("P9.1: %s: %s, not %s", k.name, got, k.has)
	}
	if x, ok := n.(api.Strict); ok && x.Op() != k.name {
		t.Errorf("P9.1: %s: the operation %s", k.name, x.Op())
	}
	if x, ok := n.(api.Lazy); ok && x.Way() != k.name {
		t.Errorf("P9.3: %s: the way %s", k.name, x.Way())
	}
	if x, ok := n.(api.Total); !ok || !x.Quiet() || !x.Sure() {
		t.Errorf("P9.1: %s is not quiet and sure", k.name)
	}
	if x, ok := n.(api.Sorted); !ok || !like(x.Signs(), k.signs()) {
		t.Errorf("P9.1: %s: other sorts than %v", k.name, k.signs())
	}
}

func TestNodes(t *testing.T) {
	for _, k := range kinds() {
		hs := numbers(t, k.kids)
		hs[0] = wrapped(t, hs[0])
		var kids []api.Node
		for _, h := range hs {
			kids = append(kids, h.Node())
		}
		h := made(t, k.name, hs...)
		holds(t, k, h.Node(), kids...)
		if got := strings.Join(node.Abilities(h), " "); got != k.has {
			t.Errorf("P9.1: %s: %s, not %s", k.name, got, k.has)
		}
		if h.Node() == made(t, k.name, hs...).Node() || h.Node() != h.Node() {
			t.Errorf("P9.1: %s: a node is itself, and no other one", k.name)
		}
		for i := range hs {
			hs[i] = nil
		}
		holds(t, k, h.Node(), kids...)
	}
}

func TestHandles(t *testing.T) {
	l := numbers(t, 2)
	h := made(t, "truth.if", made(t, "truth.not", l[0]), l[1], made(t, "truth.or", l...))
	w := wrapped(t, h)
	if core, e := node.Core(w); e != nil || core.Node() != h.Node() || w.Node().Kid(2) != h.Node().Kid(2) {
		t.Errorf("P9.1: a wrapper around truth.if: %v", e)
	}
	if e := node.Must(w, "Lazy"); e != nil {
		t.Errorf("P9.1: a wrapped truth.if is Lazy: %v", e)
	}
	var lack api.Lacking
	if e := node.Must(h, "Strict"); !errors.As(e, &lack) {
		t.Errorf("P9.3: truth.if is not Strict: %v", e)
	} else if kind, ability := lack.Lacks(); kind != "truth.if" || ability != "Strict" {
		t.Errorf("P9.3: %s lacks %s", kind, ability)
	}
	one, no := api.Tree{Kind: "base.int", Num: 1}, api.Tree{Kind: "base.int"}
	want := api.Tree{Kind: "truth.if", Kids: []api.Tree{{Kind: "truth.not", Kids: []api.Tree{no}}, one, {Kind: "truth.or", Kids: []api.Tree{no, one}}}}
	if x, e := node.Plain(w); e != nil || !reflect.DeepEqual(x, want) {
		t.Errorf("P9.1: %v, %v", x, e)
	}
}

func TestSignsAreTheCallersOwn(t *testing.T) {
	for _, k := range kinds() {
		n := made(t, k.name, numbers(t, k.kids)...).Node().(api.Sorted)
		a, b := n.Signs(), n.Signs()
		a.Out.Of = append(a.Out.Of, api.Sort{Name: "spoilt"})
		_ = append(a.Ins, api.Sort{Name: "more"})
		for i := range a.Ins {
			_ = append(a.Ins[i].Of, api.Sort{Name: "more"})
			a.Ins[i] = api.Sort{Name: "spoilt"}
		}
		if !like(b, k.signs()) || !like(n.Signs(), k.signs()) {
			t.Errorf("P9.5: %s: signatures share memory", k.name)
		}
	}
}

func TestRefusedNodes(t *testing.T) {
	refused := func(what string, want api.Errno, x api.Tree, kids ...*node.Handle) {
		t.Helper()
		if h, e := truth.Kit().Make(x, kids...); h != nil || fault.Code(e) != want {
			t.Errorf("P9.1: %s, %s: %v, not %d", x.Kind, what, e, want)
		}
	}
	for _, k := range kinds() {
		kids := numbers(t, k.kids)
		refused("no kids", api.ErrCount, leaf(k.name))
		refused("kids of the tree alone", api.ErrCount, api.Tree{Kind: k.name, Kids: make([]api.Tree, k.kids)})
		refused("a kid too few", api.ErrCount, leaf(k.name), kids[1:]...)
		refused("a kid too many", api.ErrCount, leaf(k.name), numbers(t, k.kids+1)...)
		refused("many kids", api.ErrCount, leaf(k.name), numbers(t, 1000)...)
		for _, n := range []int64{1, -1, math.MinInt64, math.MaxInt64} {
			refused("a Num", api.ErrFit, api.Tree{Kind: k.name, Num: n}, kids...)
		}
		for _, s := range []string{"x", " ", "\x00", "1"} {
			refused("a Text", api.ErrFit, api.Tree{Kind: k.name, Text: s}, kids...)
		}
		refused("a long Text", api.ErrLong, api.Tree{Kind: k.name, Text: strings.Repeat("x", 16385)}, kids...)
		kids[len(kids)-1] = nil
		refused("no handle", api.ErrArg, leaf(k.name), kids...)
		kids[len(kids)-1] = new(node.Handle)
		refused("the zero handle", api.ErrArg, api.Tree{Kind: k.name, Num: 1}, kids...)
	}
}

// TestWays tells of the ways what can be told without who goes them: which
// nodes have one, by which name, with which kids, and that none is an
// operation, which would have all kids evaluated and its value laid.
func TestWays(t *testing.T) {
	ways := 0
	for _, row := range truth.Kit().Rows() {
		hs := numbers(t, row.Min)
		h := made(t, row.Kind, hs...)
		x, lazy := h.Node().(api.Lazy)
		if _, strict := h.Node().(api.Strict); strict == lazy {
			t.Errorf("P9.3: %s: Strict %v, Lazy %v", row.Kind, strict, lazy)
		}
		if !lazy {
			continue
		}
		ways++
		if !slices.Contains([]string{"truth.if", "truth.and", "truth.or"}, x.Way()) || x.Way() != row.Kind {
			t.Errorf("P9.3: %s: the way %s", row.Kind, x.Way())
		}
		for i, kid := range hs {
			if x.Kid(i) != kid.Node() {
				t.Errorf("P9.3: %s: another node as kid %d", row.Kind, i)
			}
		}
		wanted(t, "P9.3", row.Kind, api.ErrArg, slices.Repeat([]api.Plain{yes()}, row.Min)...)
	}
	if ways != 3 {
		t.Errorf("P9.3: %d ways", ways)
	}
}

func yes() api.Plain { return api.Plain{Kind: api.PTruth, Num: 1} }

func no() api.Plain { return api.Plain{Kind: api.PTruth} }

func whole(n int64) api.Plain { return api.Plain{Kind: api.PInt, Num: n} }

func text(s string) api.Plain { return api.Plain{Kind: api.PText, Text: s} }

func list(ps ...api.Plain) api.Plain { return api.Plain{Kind: api.PList, List: ps} }

// within puts a value within n lists.
func within(p api.Plain, n int) api.Plain {
	for range n {
		p = list(p)
	}
	return p
}

// wanted is what is wanted of an operation: a truth, or a fault's number.
func wanted(t *testing.T, promise, op string, want any, args ...api.Plain) {
	t.Helper()
	v, e, said := truth.Work(op, args...)
	if code, ok := want.(api.Errno); ok {
		if v != nil || e != code || said != "" {
			t.Errorf("%s: %.20s of %d values: %v, %d, %q, not error %d", promise, op, len(args), v, e, said, code)
		}
	} else if got, ok := v.(api.Truth); !ok || bool(got) != want || e != api.OK || said != "" {
		t.Errorf("%s: %s %.60q: %v, %d, %q, not %v", promise, op, fmt.Sprint(args), v, e, said, want)
	}
}

// unlike are values no two of which are the same; each call makes them anew.
func unlike() []api.Plain {
	many := slices.Repeat([]api.Plain{whole(1)}, 65535)
	last := slices.Clone(many)
	last[65534] = whole(2)
	return []api.Plain{
		{Kind: api.PUnit}, no(), yes(),
		whole(0), whole(1), whole(-1), whole(1 << 32), whole(1 << 53), whole(1<<53 + 1), whole(math.MinInt64), whole(math.MinInt64 + 1), whole(math.MaxInt64),
		text(""), text("0"), text("1"), text("yes"), text("a"), text("A"), text("aa"), text("a\x00"), text("\x00"), text("\xff"), text("\xfe"), text("\u00e9"), text("e\u0301"), text("\ufffd"), text(strings.Repeat("x", 65535)), text(strings.Repeat("x", 65534) + "y"), text(strings.Repeat("x", 65534)),
		list(), list(list()), list(list(), list()), list(list(list())), list(no()), list(yes()), list(whole(0)), list(whole(1)), list(text("")), list(text("1")), list(api.Plain{Kind: api.PUnit}), list(api.Plain{Kind: api.PUnit}, api.Plain{Kind: api.PUnit}),
		list(whole(1), whole(2)), list(whole(2), whole(1)), list(whole(1), whole(2), whole(3)), list(whole(1), yes()), list(whole(1), list(whole(2))), list(list(whole(1)), whole(2)), list(list(whole(1), whole(2))), list(list(whole(1)), list(whole(2))),
		list(many...), list(last...), list(many[:65534]...), within(list(), 63), within(whole(5), 64), within(whole(6), 64), within(text(""), 64), within(whole(5), 63),
	}
}

func TestNot(t *testing.T) {
	wanted(t, "P9.2", "truth.not", false, yes())
	wanted(t, "P9.2", "truth.not", true, no())
	for _, p := range unlike() {
		if p.Kind != api.PTruth {
			wanted(t, "P9.5", "truth.not", api.ErrKind, p)
		}
	}
}

func TestSame(t *testing.T) {
	others := unlike()
	for i, a := range unlike() {
		for j, b := range others {
			wanted(t, "P9.2", "truth.same", i == j, a, b)
			if worth.Same(a, b) != (i == j) {
				t.Errorf("P9.2: the values %d and %d are not as the test tells", i, j)
			}
		}
		wanted(t, "P9.2", "truth.same", true, a, a)
	}
}

func TestSameSpareRoom(t *testing.T) {
	spare := append(make([]api.Plain, 0, 8), whole(1), whole(2))
	wanted(t, "P9.2", "truth.same", true, list(spare...), list(whole(1), whole(2)))
	wanted(t, "P9.2", "truth.same", true, list(spare[:1]...), list(whole(1)))
	wanted(t, "P9.2", "truth.same", true, list(spare[:0]...), api.Plain{Kind: api.PList})
	wanted(t, "P9.2", "truth.same", true, api.Plain{Kind: api.PInt, Num: 1, List: spare[:0]}, whole(1))
	shared := list(spare...)
	for range 13 {
		shared = list(shared, shared)
	}
	wanted(t, "P9.2", "truth.same", true, shared, shared)
	wanted(t, "P9.2", "truth.same", false, shared, shared.List[0])
}

func TestExamples(t *testing.T) {
	for _, c := range []struct {
		op   string
		args []api.Plain
		want any
	}{
		{"not", []api.Plain{yes()}, false}, {"not", []api.Plain{whole(1)}, api.ErrKind},
		{"same", []api.Plain{whole(1), whole(1)}, true}, {"same", []api.Plain{whole(1), yes()}, false}, {"same", []api.Plain{yes(), yes()}, true},
	} {
		wanted(t, "P9.2", "truth."+c.op, c.want, c.args...)
	}
}

// mayNot are plain values that may not be.
func mayNot() []api.Plain {
	ring := []api.Plain{{Kind: api.PList}, {Kind: api.PList}}
	ring[0].List, ring[1].List = ring, ring
	return []api.Plain{{}, {Kind: -1}, {Kind: 6}, {Kind: api.PTruth, Num: 2}, {Kind: api.PTruth, Num: -1}, {Kind: api.PTruth, Num: 1, Text: "x"}, {Kind: api.PTruth, List: make([]api.Plain, 1)}, {Kind: api.PUnit, Num: 1}, {Kind: api.PInt, Num: 1, Text: "x"}, text(strings.Repeat("x", 65536)), list(slices.Repeat([]api.Plain{no()}, 65536)...), within(list(), 64), within(yes(), 65), list(ring...), list(yes(), api.Plain{})}
}

func TestWorkRefused(t *testing.T) {
	for _, op := range []string{"", "not", "truth", "truth.", ".not", "truth.Not", "truth.not ", " truth.not", "truth.if", "truth.and", "truth.or", "truth.yes", "base.yes", "num.less", strings.Repeat("truth.not", 1<<17)} {
		for _, args := range [][]api.Plain{nil, {yes()}, {yes(), no()}, {yes(), whole(1), whole(2)}, mayNot(), unlike()} {
			wanted(t, "P9.4", op, api.ErrArg, args...)
		}
	}
	for _, k := range kinds() {
		if !k.strict() {
			continue
		}
		for n := range 5 {
			if n == k.kids {
				continue
			}
			wanted(t, "P9.4", k.name, api.ErrCount, slices.Repeat([]api.Plain{yes()}, n)...)
			wanted(t, "P9.4", k.name, api.ErrCount, slices.Repeat([]api.Plain{{}}, n)...)
			wanted(t, "P9.4", k.name, api.ErrCount, slices.Repeat([]api.Plain{whole(1)}, n)...)
		}
		wanted(t, "P9.4", k.name, api.ErrCount, make([]api.Plain, 1<<20)...)
	}
}

func TestWorkOfWhatMayNotBe(t *testing.T) {
	for _, p := range mayNot() {
		wanted(t, "P9.4", "truth.not", api.ErrArg, p)
		wanted(t, "P9.4", "truth.same", api.ErrArg, p, p)
		for _, other := range []api.Plain{yes(), whole(1), list(), text("x")} {
			wanted(t, "P9.4", "truth.same", api.ErrArg, p, other)
			wanted(t, "P9.4", "truth.same", api.ErrArg, other, p)
		}
	}
}

func TestNothingIsChanged(t *testing.T) {
	inner := append(make([]api.Plain, 0, 4), whole(1), yes())
	args := append(make([]api.Plain, 0, 4), list(inner...), list(inner...))
	_, _, _ = truth.Work("truth.same", args...)
	_, _, _ = truth.Work("truth.not", args[:1]...)
	want := []api.Plain{whole(1), yes(), {}, {}}
	if !reflect.DeepEqual(inner[:4], want) || !reflect.DeepEqual(args[:4], []api.Plain{list(inner...), list(inner...), {}, {}}) {
		t.Errorf("P9.5: arguments are changed: %v", args[:4])
	}
	for _, k := range kinds() {
		hs := append(numbers(t, k.kids), nil)[:k.kids]
		before := slices.Clone(hs)
		n := made(t, k.name, hs...).Node()
		_ = n.(api.Sorted).Signs()
		if !slices.Equal(hs, before) || hs[:k.kids+1][k.kids] != nil {
			t.Errorf("P9.5: %s: kids are changed", k.name)
		}
	}
}

func TestSeveralGoroutines(t *testing.T) {
	k := truth.Kit()
	kids := numbers(t, 3)
	n := made(t, "truth.if", kids...).Node()
	var all sync.WaitGroup
	for i := range 8 {
		all.Go(func() {
			for j := range 200 {
				wanted(t, "P9.2", "truth.same", i == j, list(whole(int64(i))), list(whole(int64(j))))
				if h, e := k.Make(leaf("truth.and"), kids[:2]...); e != nil || h.Node().(api.Lazy).Way() != "truth.and" {
					t.Errorf("P9.3: at the same time: %v", e)
				}
				if !like(n.(api.Sorted).Signs(), kinds()[2].signs()) {
					t.Errorf("P9.5: at the same time: a node tells something else")
				}
			}
		})
	}
	all.Wait()
}
