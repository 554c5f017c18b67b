package flow_test

// The tests of P14.1 to P14.6, through the package's face alone.

import (
	"errors"
	"fmt"
	"math"
	"reflect"
	"slices"
	"strings"
	"sync"
	"testing"

	"espalier/api"
	"espalier/fault"
	"espalier/flow"
	"espalier/node"
)

// kind is a line of doc/14's table, by hand; out is empty where there are no sorts.
type kind struct {
	name     string
	min, max int
	has      string
	ins      []string
	out      string
}

func kinds() []kind {
	return []kind{
		{"flow.seq", 2, 2, "Lazy Pure Total Sorted", []string{"a", "b"}, "b"},
		{"flow.emit", 1, 1, "Strict Sorted", []string{"a"}, "a"},
		{"flow.times", 2, 2, "Lazy Pure Total Sorted", []string{"int", "a"}, "unit"},
		{"flow.all", 1, -1, "Pure Total Sugar", nil, ""},
		{"flow.twice", 1, 1, "Pure Total Sorted Sugar", []string{"a"}, "a"},
	}
}

func (k kind) signs() api.Signature {
	signs := api.Signature{Out: api.Sort{Name: k.out}}
	for _, in := range k.ins {
		signs.Ins = append(signs.Ins, api.Sort{Name: in})
	}
	return signs
}

// like holds two signatures against each other; nil and empty lists are alike.
func like(a, b api.Signature) bool { return fmt.Sprint(a) == fmt.Sprint(b) }

func leaf(kind string) api.Tree { return api.Tree{Kind: kind} }

func basic(x api.Tree) *node.Handle {
	h, _ := node.Make(x)
	return h
}

func number(n int64) *node.Handle { return basic(api.Tree{Kind: "base.int", Num: n}) }

func numbers(n int) []*node.Handle {
	var hs []*node.Handle
	for i := range n {
		hs = append(hs, number(int64(i)))
	}
	return hs
}

func nodesOf(hs []*node.Handle) []api.Node {
	var l []api.Node
	for _, h := range hs {
		l = append(l, h.Node())
	}
	return l
}

func wrapped(h *node.Handle) *node.Handle {
	w, _ := node.Wrap(h, api.Place{Fun: "f", Path: []int{1}})
	return w
}

func made(t *testing.T, kind string, kids ...*node.Handle) *node.Handle {
	t.Helper()
	h, e := flow.Kit().Make(leaf(kind), kids...)
	if e != nil || h == nil || h.Node() == nil {
		t.Fatalf("P14.1: %s of %d kids: %v", kind, len(kids), e)
	}
	return h
}

func spelt(t *testing.T, n api.Node) api.Node {
	t.Helper()
	s, ok := n.(api.Sugar)
	if !ok || s.Spelt() == nil {
		t.Fatalf("P14.4: %s is not spelt", n.Kind())
	}
	return s.Spelt()
}

func TestRows(t *testing.T) {
	k := flow.Kit()
	if k.Name() != "flow" {
		t.Errorf("P14.1: the name %q", k.Name())
	}
	rows := k.Rows()
	if len(rows) != len(kinds()) {
		t.Fatalf("P14.1: %d rows", len(rows))
	}
	for i, want := range kinds() {
		row := api.Row{Kind: want.name, Min: want.min, Max: want.max, Abilities: strings.Fields(want.has)}
		if !reflect.DeepEqual(rows[i], row) {
			t.Errorf("P14.1: row %d: %v, not %v", i, rows[i], row)
		}
		if got, ok := k.Row(want.name); !ok || !reflect.DeepEqual(got, row) {
			t.Errorf("P14.1: %s: %v, %v", want.name, got, ok)
		}
	}
	for _, none := range []string{"", "flow", "seq", "flow.", "flow.if", "flow.Seq", "flow.seq ", "base.unit", "guard.try"} {
		if got, ok := k.Row(none); ok {
			t.Errorf("P14.1: %q: %v", none, got)
		}
		if h, e := k.Make(leaf(none), numbers(2)...); h != nil || fault.Code(e) != api.ErrNone {
			t.Errorf("P14.1: %q: %v", none, e)
		}
	}
}

func TestEachCallOne(t *testing.T) {
	a, b := flow.Kit(), flow.Kit()
	if a == nil || a == b {
		t.Errorf("P14.1: two calls give one kit")
	}
	rows := a.Rows()
	for i := range rows {
		rows[i].Abilities[0] = "Spoilt"
		_ = append(rows[i].Abilities, "More")
		rows[i].Kind = "spoilt.too"
	}
	for _, want := range kinds() {
		for _, k := range []interface {
			Row(string) (api.Row, bool)
		}{a, b} {
			if got, ok := k.Row(want.name); !ok || !slices.Equal(got.Abilities, strings.Fields(want.has)) {
				t.Errorf("P14.6: %s: rows share memory: %v", want.name, got)
			}
		}
	}
}

// abilities asks by two-valued assertions.
func abilities(n api.Node) string {
	var names []string
	for _, a := range []struct {
		name string
		ask  func() bool
	}{
		{"Literal", func() bool { _, ok := n.(api.Literal); return ok }}, {"Strict", func() bool { _, ok := n.(api.Strict); return ok }},
		{"Lazy", func() bool { _, ok := n.(api.Lazy); return ok }}, {"Binder", func() bool { _, ok := n.(api.Binder); return ok }},
		{"User", func() bool { _, ok := n.(api.User); return ok }}, {"Caller", func() bool { _, ok := n.(api.Caller); return ok }},
		{"Pure", func() bool { _, ok := n.(api.Pure); return ok }}, {"Total", func() bool { _, ok := n.(api.Total); return ok }},
		{"Sorted", func() bool { _, ok := n.(api.Sorted); return ok }}, {"Sugar", func() bool { _, ok := n.(api.Sugar); return ok }},
		{"Framed", func() bool { _, ok := n.(api.Framed); return ok }}, {"Wrapped", func() bool { _, ok := n.(api.Wrapped); return ok }},
		{"Origin", func() bool { _, ok := n.(api.Origin); return ok }}, {"Opaque", func() bool { _, ok := n.(api.Opaque); return ok }},
	} {
		if a.ask() {
			names = append(names, a.name)
		}
	}
	return strings.Join(names, " ")
}

// holds fails, unless a node is of a kind, with these kids, and all that it
// tells is as the table says.
func holds(t *testing.T, k kind, n api.Node, kids ...api.Node) {
	t.Helper()
	if n.Kind() != k.name || n.Num() != 0 || n.Text() != "" || n.Len() != len(kids) {
		t.Fatalf("P14.1: %s: %s, %d, %q, %d kids", k.name, n.Kind(), n.Num(), n.Text(), n.Len())
	}
	for i, kid := range kids {
		if n.Kid(i) != kid {
			t.Errorf("P14.6: %s: another node as kid %d", k.name, i)
		}
	}
	for _, i := range []int{-1, len(kids), len(kids) + 1, math.MinInt, math.MaxInt} {
		if n.Kid(i) != nil {
			t.Errorf("P14.6: %s: a kid %d", k.name, i)
		}
	}
	if got := abilities(n); got != k.has {
		t.Errorf("P14.1: %s: %s, not %s", k.name, got, k.has)
	}
	if x, ok := n.(api.Strict); ok && x.Op() != k.name {
		t.Errorf("P14.1: %s: the operation %s", k.name, x.Op())
	}
	if x, ok := n.(api.Lazy); ok && x.Way() != k.name {
		t.Errorf("P14.3: %s: the way %s", k.name, x.Way())
	}
	if x, ok := n.(api.Total); ok && (!x.Quiet() || !x.Sure()) {
		t.Errorf("P14.1: %s is not quiet and sure", k.name)
	}
	if x, ok := n.(api.Sorted); ok && !like(x.Signs(), k.signs()) {
		t.Errorf("P14.1: %s: the sorts %v, not %v", k.name, x.Signs(), k.signs())
	}
}

func TestNodes(t *testing.T) {
	for _, k := range kinds() {
		for _, n := range []int{k.min, 2, 3, 17, 1023, 5000} {
			if k.max >= 0 && n != k.min {
				continue
			}
			hs := numbers(n)
			hs[n/2] = wrapped(hs[n/2])
			kids := nodesOf(hs)
			h := made(t, k.name, hs...)
			holds(t, k, h.Node(), kids...)
			if got := strings.Join(node.Abilities(h), " "); got != k.has {
				t.Errorf("P14.1: %s: %s, not %s", k.name, got, k.has)
			}
			if h.Node() == made(t, k.name, hs...).Node() || h.Node() != h.Node() {
				t.Errorf("P14.1: %s: a node is itself, and no other one", k.name)
			}
			clear(hs)
			holds(t, k, h.Node(), kids...)
		}
	}
}

func TestHandles(t *testing.T) {
	l := numbers(2)
	h := made(t, "flow.times", l[0], made(t, "flow.emit", l[1]))
	w := wrapped(h)
	if core, e := node.Core(w); e != nil || core.Node() != h.Node() || w.Node().Kid(1) != h.Node().Kid(1) {
		t.Errorf("P14.1: a wrapper around flow.times: %v", e)
	}
	if e := node.Must(w, "Lazy"); e != nil {
		t.Errorf("P14.1: a wrapped flow.times is Lazy: %v", e)
	}
	for _, c := range []struct {
		h             *node.Handle
		kind, ability string
	}{{w, "flow.times", "Strict"}, {made(t, "flow.emit", l[0]), "flow.emit", "Pure"}, {made(t, "flow.emit", l[0]), "flow.emit", "Total"}, {made(t, "flow.all", l...), "flow.all", "Sorted"}, {made(t, "flow.twice", l[0]), "flow.twice", "Lazy"}} {
		var lack api.Lacking
		if e := node.Must(c.h, c.ability); !errors.As(e, &lack) {
			t.Errorf("P14.1: %s is %s: %v", c.kind, c.ability, e)
		} else if kind, ability := lack.Lacks(); kind != c.kind || ability != c.ability {
			t.Errorf("P14.1: %s lacks %s", kind, ability)
		}
	}
	want := api.Tree{Kind: "flow.times", Kids: []api.Tree{{Kind: "base.int"}, {Kind: "flow.emit", Kids: []api.Tree{{Kind: "base.int", Num: 1}}}}}
	if x, e := node.Plain(w); e != nil || !reflect.DeepEqual(x, want) {
		t.Errorf("P14.1: %v, %v", x, e)
	}
}

func TestSignsAreTheCallersOwn(t *testing.T) {
	for _, k := range kinds() {
		n, ok := made(t, k.name, numbers(k.min)...).Node().(api.Sorted)
		if !ok {
			continue
		}
		a, b := n.Signs(), n.Signs()
		a.Out.Of = append(a.Out.Of, api.Sort{Name: "spoilt"})
		_ = append(a.Ins, api.Sort{Name: "more"})
		for i := range a.Ins {
			_ = append(a.Ins[i].Of, api.Sort{Name: "more"})
			a.Ins[i] = api.Sort{Name: "spoilt"}
		}
		if !like(b, k.signs()) || !like(n.Signs(), k.signs()) {
			t.Errorf("P14.6: %s: signatures share memory", k.name)
		}
	}
}

func TestRefusedNodes(t *testing.T) {
	refused := func(what string, want api.Errno, x api.Tree, kids ...*node.Handle) {
		t.Helper()
		if h, e := flow.Kit().Make(x, kids...); h != nil || fault.Code(e) != want {
			t.Errorf("P14.1: %s, %s: %v, not %d", x.Kind, what, e, want)
		}
	}
	for _, k := range kinds() {
		kids := numbers(k.min)
		refused("no kids", api.ErrCount, leaf(k.name))
		refused("kids of the tree alone", api.ErrCount, api.Tree{Kind: k.name, Kids: make([]api.Tree, k.min)})
		refused("a kid too few", api.ErrCount, api.Tree{Kind: k.name, Num: 1, Text: "x"}, kids[1:]...)
		if k.max >= 0 {
			refused("a kid too many", api.ErrCount, leaf(k.name), numbers(k.min+1)...)
			refused("many kids", api.ErrCount, leaf(k.name), numbers(1000)...)
		}
		for _, n := range []int64{1, -1, math.MinInt64, math.MaxInt64} {
			refused("a Num", api.ErrFit, api.Tree{Kind: k.name, Num: n}, kids...)
		}
		for _, s := range []string{"x", " ", "\x00", "1", strings.Repeat("x", 16384)} {
			refused("a Text", api.ErrFit, api.Tree{Kind: k.name, Text: s}, kids...)
		}
		refused("a long Text", api.ErrLong, api.Tree{Kind: k.name, Text: strings.Repeat("x", 16385)}, kids...)
		kids[len(kids)-1] = nil
		refused("no handle", api.ErrArg, leaf(k.name), kids...)
		kids[len(kids)-1] = new(node.Handle)
		refused("the zero handle", api.ErrArg, api.Tree{Kind: k.name, Num: 1}, kids...)
	}
}

func TestSpeltAll(t *testing.T) {
	for _, n := range []int{1, 2, 3, 4, 5, 17, 64, 1023, 1024, 8193} {
		hs := numbers(n)
		hs[n/2] = wrapped(hs[n/2])
		got := spelt(t, made(t, "flow.all", hs...).Node())
		for i := range n - 1 {
			holds(t, kinds()[0], got, hs[i].Node(), got.Kid(1))
			got = got.Kid(1)
		}
		if got != hs[n-1].Node() {
			t.Errorf("P14.4: all of %d kids: another node as the innermost one", n)
		}
	}
}

func TestSpeltTwice(t *testing.T) {
	l := numbers(2)
	for _, h := range []*node.Handle{l[0], wrapped(l[1]), made(t, "flow.twice", l[0]), made(t, "flow.all", l...), made(t, "flow.emit", l[1])} {
		n := made(t, "flow.twice", h).Node()
		holds(t, kinds()[0], spelt(t, n), h.Node(), h.Node())
		holds(t, kinds()[0], spelt(t, n), h.Node(), h.Node())
	}
}

// written writes a node and what is below it: the words of kinds, but numbers
// as what they stand for.
func written(n api.Node) string {
	_, s, _ := strings.Cut(n.Kind(), ".")
	if s == "int" {
		return fmt.Sprint(n.Num())
	}
	var kids []string
	for i := range n.Len() {
		kids = append(kids, written(n.Kid(i)))
	}
	if kids == nil {
		return s
	}
	return s + "(" + strings.Join(kids, ", ") + ")"
}

func TestSpeltText(t *testing.T) {
	l := numbers(4)
	all := func(kids ...*node.Handle) *node.Handle { return made(t, "flow.all", kids...) }
	twice := func(kid *node.Handle) *node.Handle { return made(t, "flow.twice", kid) }
	for _, c := range []struct {
		sugar *node.Handle
		want  string
	}{
		{all(l[3]), "3"}, {all(l[0], l[1]), "seq(0, 1)"}, {all(l...), "seq(0, seq(1, seq(2, 3)))"}, {all(l[1], l[1], l[1]), "seq(1, seq(1, 1))"},
		{all(all(l[1])), "all(1)"}, {all(all(l[0], l[1]), all(l[2], l[3])), "seq(all(0, 1), all(2, 3))"}, {all(twice(l[1])), "twice(1)"},
		{twice(l[2]), "seq(2, 2)"}, {twice(twice(l[2])), "seq(twice(2), twice(2))"}, {twice(all(l[0], l[1])), "seq(all(0, 1), all(0, 1))"},
	} {
		n := c.sugar.Node()
		if got, again := written(spelt(t, n)), written(spelt(t, n)); got != c.want || again != c.want {
			t.Errorf("P14.4: %s: %s, not %s", written(n), got, c.want)
		}
	}
}

// run is what doc/00 and doc/14 say of whoever runs a program, of the
// abilities that this kit and its examples lean on.
type run struct {
	emits, laid []string
	places      map[api.Node][]int // of a Sugar node's kids, wherever they are spelt
}

// failure is a fault's number, and the path to its node.
type failure struct {
	code api.Errno
	path []int
}

// lay gives a value, and keeps at which node it was laid.
func (r *run) lay(v api.Value, n api.Node, path []int) (api.Value, *failure) {
	_, word, _ := strings.Cut(n.Kind(), ".")
	r.laid = append(r.laid, fmt.Sprint(word, path))
	return v, nil
}

func (r *run) worth(n api.Node, path ...int) (api.Value, *failure) {
	if place, ok := r.places[n]; ok {
		path = place
	}
	core, _ := node.Core(node.Hold(n))
	kid := func(i int) (api.Value, *failure) { return r.worth(n.Kid(i), append(slices.Clone(path), i)...) }
	switch x := core.Node().(type) {
	case api.Literal:
		return r.lay(x.Worth(), x, path)
	case api.Strict:
		v, f := kid(0)
		if f != nil {
			return nil, f
		}
		if len(r.emits) == api.MaxEmits {
			return nil, &failure{api.ErrFull, path}
		}
		r.emits = append(r.emits, fmt.Sprint(v))
		v, e, _ := flow.Work(x.Op(), plain(v))
		if e != api.OK {
			return nil, &failure{e, path}
		}
		return r.lay(v, x, path)
	case api.Lazy:
		v, f := kid(0)
		if f != nil {
			return nil, f
		}
		if x.Way() == "flow.seq" {
			return kid(1)
		}
		times, ok := v.(api.Int)
		if !ok {
			return nil, &failure{api.ErrKind, path}
		}
		for range times {
			if _, f := kid(1); f != nil {
				return nil, f
			}
		}
		return r.lay(api.Unit{}, x, path)
	case api.Sugar:
		for i := range x.Len() {
			r.places[x.Kid(i)] = append(slices.Clone(path), i)
		}
		return r.worth(x.Spelt(), path...)
	}
	return nil, &failure{api.ErrLack, path}
}

// plain is the way back from the values of these tests.
func plain(v api.Value) api.Plain {
	switch x := v.(type) {
	case api.Truth:
		p := api.Plain{Kind: api.PTruth}
		if x {
			p.Num = 1
		}
		return p
	case api.Int:
		return api.Plain{Kind: api.PInt, Num: int64(x)}
	}
	return api.Plain{Kind: api.PUnit}
}

// shown writes what a node is worth and, behind it, what was emitted.
func shown(r *run, n api.Node) string {
	r.places = map[api.Node][]int{}
	v, f := r.worth(n)
	s := fmt.Sprint(v)
	if v != nil && v.Sort() == "unit" {
		s = "unit"
	}
	if f != nil {
		s = fmt.Sprint(f.code, " at ", f.path)
	}
	return strings.Join(append([]string{s}, r.emits...), "; ")
}

func TestExamples(t *testing.T) {
	seq := func(kids ...*node.Handle) *node.Handle { return made(t, "flow.seq", kids...) }
	emit := func(kid *node.Handle) *node.Handle { return made(t, "flow.emit", kid) }
	times := func(kids ...*node.Handle) *node.Handle { return made(t, "flow.times", kids...) }
	all := func(kids ...*node.Handle) *node.Handle { return made(t, "flow.all", kids...) }
	twice := func(kid *node.Handle) *node.Handle { return made(t, "flow.twice", kid) }
	one, two, three, five, seven, yes, unknown := number(1), number(2), number(3), number(5), number(7), basic(leaf("base.yes")), basic(api.Tree{Kind: "base.var", Text: "x"})
	for _, c := range []struct {
		h    *node.Handle
		want string
	}{
		{seq(emit(one), two), "2; 1"}, {seq(emit(one), emit(two)), "2; 1; 2"}, {seq(unknown, emit(two)), "13 at [0]"}, {seq(emit(two), unknown), "13 at [1]; 2"}, {wrapped(seq(wrapped(emit(one)), wrapped(two))), "2; 1"},
		{emit(emit(yes)), "true; true; true"}, {emit(unknown), "13 at [0]"},
		{times(three, emit(seven)), "unit; 7; 7; 7"}, {times(number(-1), emit(seven)), "unit"}, {times(number(math.MinInt64), emit(seven)), "unit"}, {times(number(0), unknown), "unit"}, {times(one, unknown), "13 at [1]"},
		{times(yes, emit(seven)), "20 at []"}, {times(emit(yes), emit(seven)), "20 at []; true"}, {times(unknown, emit(seven)), "13 at [0]"}, {times(emit(two), emit(emit(five))), "unit; 2; 5; 5; 5; 5"},
		{all(emit(one), emit(two), three), "3; 1; 2"}, {all(three), "3"}, {all(emit(three), two), "2; 3"}, {all(emit(one), unknown, emit(two)), "13 at [1]; 1"},
		{twice(emit(one)), "1; 1; 1"}, {twice(twice(emit(one))), "1; 1; 1; 1; 1"}, {twice(three), "3"},
	} {
		if got := shown(new(run), c.h.Node()); got != c.want {
			t.Errorf("P14.2, P14.3, P14.4: %s: %s, not %s", written(c.h.Node()), got, c.want)
		}
	}
}

// TestLaid tells that a seq lays nothing of its own, and a times its unit once.
func TestLaid(t *testing.T) {
	two := number(2)
	for _, c := range []struct {
		h    *node.Handle
		want string
	}{
		{made(t, "flow.seq", two, two), "int[0] int[1]"}, {made(t, "flow.times", two, two), "int[0] int[1] int[1] times[]"}, {made(t, "flow.emit", two), "int[0] emit[]"},
		{made(t, "flow.times", number(0), two), "int[0] times[]"}, {made(t, "flow.all", two), "int[0]"}, {made(t, "flow.twice", two), "int[0] int[0]"},
	} {
		r := new(run)
		if shown(r, c.h.Node()); strings.Join(r.laid, " ") != c.want {
			t.Errorf("P14.3: %s: laid are %v, not %s", written(c.h.Node()), r.laid, c.want)
		}
	}
}

func TestMostEmits(t *testing.T) {
	for n, want := range map[int64]string{1024: "unit", 1025: "33 at [1]"} {
		r := new(run)
		got := shown(r, made(t, "flow.times", number(n), made(t, "flow.emit", number(7))).Node())
		if worth, _, _ := strings.Cut(got, "; "); worth != want || len(r.emits) != 1024 {
			t.Errorf("P14.2: %d times: %s, %d emitted", n, worth, len(r.emits))
		}
		if at := "emit[1]"; len(slices.DeleteFunc(r.laid, func(s string) bool { return s != at })) != 1024 {
			t.Errorf("P14.2: %d times: what is not emitted is laid", n)
		}
	}
}

func list(ps ...api.Plain) api.Plain { return api.Plain{Kind: api.PList, List: ps} }

func text(s string) api.Plain { return api.Plain{Kind: api.PText, Text: s} }

// within puts a value into so many lists.
func within(p api.Plain, n int) api.Plain {
	for range n {
		p = list(p)
	}
	return p
}

func TestEmit(t *testing.T) {
	five, yes := plain(api.Int(5)), plain(api.Truth(true))
	deep := api.List{}
	for range 63 {
		deep = api.List{deep}
	}
	for _, c := range []struct {
		arg  api.Plain
		want api.Value
	}{
		{five, api.Int(5)}, {yes, api.Truth(true)}, {plain(api.Truth(false)), api.Truth(false)}, {plain(api.Unit{}), api.Unit{}}, {text(""), api.Text("")}, {text("\x00\xff"), api.Text("\x00\xff")},
		{plain(api.Int(math.MinInt64)), api.Int(math.MinInt64)}, {plain(api.Int(math.MaxInt64)), api.Int(math.MaxInt64)},
		{list(), api.List{}}, {list(five, list(yes), text("x")), api.List{api.Int(5), api.List{api.Truth(true)}, api.Text("x")}},
		{text(strings.Repeat("x", 65535)), api.Text(strings.Repeat("x", 65535))}, {within(list(), 63), deep},
	} {
		v, e, said := flow.Work("flow.emit", c.arg)
		if e != api.OK || said != "" || v == nil || v.Sort() != c.want.Sort() || fmt.Sprint(v) != fmt.Sprint(c.want) {
			t.Errorf("P14.2: %.60v: %.60v, %d, %q", c.want, v, e, said)
		}
	}
	if v, e, _ := flow.Work("flow.emit", list(slices.Repeat([]api.Plain{five}, 65535)...)); e != api.OK || len(v.(api.List)) != 65535 {
		t.Errorf("P14.2: the longest list: %d", e)
	}
}

// mayNot are plain values that may not be.
func mayNot() []api.Plain {
	five := plain(api.Int(5))
	ring := []api.Plain{{Kind: api.PList}, {Kind: api.PList}}
	ring[0].List, ring[1].List = ring, ring
	return []api.Plain{{}, {Kind: -1}, {Kind: 6}, {Kind: api.PTruth, Num: 2}, {Kind: api.PTruth, Num: -1}, {Kind: api.PInt, Num: 1, Text: "x"}, {Kind: api.PInt, List: make([]api.Plain, 1)}, {Kind: api.PUnit, Num: 1}, {Kind: api.PText, Num: 1}, {Kind: api.PList, Text: "x"}, text(strings.Repeat("x", 65536)), list(slices.Repeat([]api.Plain{five}, 65536)...), within(list(), 64), within(five, 65), list(ring...), list(five, api.Plain{})}
}

// refused fails, unless an operation is refused by that number.
func refused(t *testing.T, op string, want api.Errno, args ...api.Plain) {
	t.Helper()
	if v, e, said := flow.Work(op, args...); v != nil || e != want || said != "" {
		t.Errorf("P14.5: %.40q of %d values: %v, %d, %q, not %d", op, len(args), v, e, said, want)
	}
}

func TestWorkRefused(t *testing.T) {
	five := plain(api.Int(5))
	for _, op := range []string{"", "emit", "flow", "flow.", ".emit", "flow.Emit", "flow.emit ", " flow.emit", "flow.seq", "flow.times", "flow.all", "flow.twice", "flow.none", "base.int", "num.neg", strings.Repeat("flow.emit", 1<<17)} {
		for _, args := range [][]api.Plain{nil, {five}, {five, five}, {{}}, {{}, {}}, mayNot()} {
			refused(t, op, api.ErrArg, args...)
		}
	}
	for _, n := range []int{0, 2, 3, 1 << 20} {
		refused(t, "flow.emit", api.ErrCount, slices.Repeat([]api.Plain{five}, n)...)
		refused(t, "flow.emit", api.ErrCount, make([]api.Plain, n)...)
	}
	for _, p := range mayNot() {
		refused(t, "flow.emit", api.ErrArg, p)
	}
}

func TestValuesAreTheCallersOwn(t *testing.T) {
	inner := []api.Plain{plain(api.Int(1)), plain(api.Int(2))}
	shared := list(list(inner...), list(inner...))
	a, _, _ := flow.Work("flow.emit", shared)
	b, _, _ := flow.Work("flow.emit", shared)
	inner[0].Num = 9
	l := a.(api.List)
	_ = append(l[0].(api.List), api.Int(8))
	l[0].(api.List)[0] = api.Int(7)
	if got := fmt.Sprint(a, b); got != "[[7 2] [1 2]] [[1 2] [1 2]]" {
		t.Errorf("P14.6: answers share memory: %s", got)
	}
}

func TestNothingIsChanged(t *testing.T) {
	five := plain(api.Int(5))
	inner := append(make([]api.Plain, 0, 4), five, text("x"))
	args := append(make([]api.Plain, 0, 4), list(inner...))
	_, _, _ = flow.Work("flow.emit", args...)
	if !reflect.DeepEqual(inner[:4], []api.Plain{five, text("x"), {}, {}}) || !reflect.DeepEqual(args[:2], []api.Plain{list(five, text("x")), {}}) {
		t.Errorf("P14.6: arguments are changed: %v", args[:2])
	}
	for _, k := range kinds() {
		hs := append(numbers(k.min), nil)[:k.min]
		before := slices.Clone(hs)
		n := made(t, k.name, hs...).Node()
		if x, ok := n.(api.Sugar); ok {
			_ = x.Spelt()
		}
		if !slices.Equal(hs, before) || hs[:k.min+1][k.min] != nil {
			t.Errorf("P14.6: kids of %s are changed", k.name)
		}
		holds(t, k, n, nodesOf(before)...)
	}
}

func TestSeveralGoroutines(t *testing.T) {
	k := flow.Kit()
	l := numbers(3)
	n := made(t, "flow.all", l...).Node()
	var all sync.WaitGroup
	for i := range 8 {
		all.Go(func() {
			for range 100 {
				if h, e := k.Make(leaf("flow.times"), l[:2]...); e != nil || h.Node().(api.Lazy).Way() != "flow.times" {
					t.Errorf("P14.1: at the same time: %v", e)
				}
				if got := written(n.(api.Sugar).Spelt()); got != "seq(0, seq(1, 2))" {
					t.Errorf("P14.4: at the same time: %s", got)
				}
				if v, e, _ := flow.Work("flow.emit", plain(api.Int(i))); e != api.OK || v != api.Int(i) {
					t.Errorf("P14.2: at the same time: %v, %d", v, e)
				}
			}
		})
	}
	all.Wait()
}
