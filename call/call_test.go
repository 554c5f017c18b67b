package call_test

// The tests of P13.1 to P13.4, through the package's face alone.

import (
	"errors"
	"fmt"
	"maps"
	"math"
	"reflect"
	"slices"
	"strings"
	"sync"
	"testing"

	"espalier/api"
	"espalier/call"
	"espalier/fault"
	"espalier/list"
	"espalier/node"
)

// rows is doc/13's table, by hand.
func rows() []api.Row {
	return []api.Row{
		{Kind: "call.to", Min: 0, Max: -1, Text: api.TextName, Abilities: []string{"Caller"}},
		{Kind: "call.by", Min: 2, Max: 2, Text: api.TextName, Abilities: []string{"Binder", "Caller"}},
	}
}

func number(n int64) *node.Handle {
	h, _ := node.Make(api.Tree{Kind: "base.int", Num: n})
	return h
}

func numbers(n int) []*node.Handle {
	var hs []*node.Handle
	for i := range n {
		hs = append(hs, number(int64(i)))
	}
	return hs
}

func use(name string) *node.Handle {
	h, _ := node.Make(api.Tree{Kind: "base.var", Text: name})
	return h
}

func wrapped(h *node.Handle) *node.Handle {
	w, _ := node.Wrap(h, api.Place{Fun: "f", Path: []int{1}})
	return w
}

func made(t *testing.T, kind, text string, kids ...*node.Handle) *node.Handle {
	t.Helper()
	h, e := call.Kit().Make(api.Tree{Kind: kind, Text: text}, kids...)
	if e != nil || h == nil || h.Node() == nil {
		t.Fatalf("P13.1: %s %.40q of %d kids: %v", kind, text, len(kids), e)
	}
	return h
}

func TestRows(t *testing.T) {
	k := call.Kit()
	if k.Name() != "call" {
		t.Errorf("P13.1: the name %q", k.Name())
	}
	if !reflect.DeepEqual(k.Rows(), rows()) {
		t.Errorf("P13.1: the rows %v", k.Rows())
	}
	for _, want := range rows() {
		if got, ok := k.Row(want.Kind); !ok || !reflect.DeepEqual(got, want) {
			t.Errorf("P13.1: %s: %v, %v", want.Kind, got, ok)
		}
	}
	for _, none := range []string{"", "call", "to", "call.", "call.all", "call.To", "call.to ", "bind.let", "base.var"} {
		if got, ok := k.Row(none); ok {
			t.Errorf("P13.1: %q: %v", none, got)
		}
		if h, e := k.Make(api.Tree{Kind: none, Text: "x"}, numbers(2)...); h != nil || fault.Code(e) != api.ErrNone {
			t.Errorf("P13.1: %q: %v", none, e)
		}
	}
}

func TestEachCallOne(t *testing.T) {
	a, b := call.Kit(), call.Kit()
	if a == nil || a == b {
		t.Errorf("P13.1: two calls give one kit")
	}
	spoilt := a.Rows()
	for i := range spoilt {
		_ = append(spoilt[i].Abilities, "More")
		spoilt[i].Abilities[0], spoilt[i].Kind = "Spoilt", "spoilt.too"
	}
	if !reflect.DeepEqual(a.Rows(), rows()) || !reflect.DeepEqual(b.Rows(), rows()) {
		t.Errorf("P13.1: rows share memory: %v, %v", a.Rows(), b.Rows())
	}
}

// abilities asks by two-valued assertions.
func abilities(n api.Node) []string {
	var names []string
	for _, a := range []struct {
		name string
		ask  func() bool
	}{
		{"Literal", func() bool { _, ok := n.(api.Literal); return ok }}, {"Strict", func() bool { _, ok := n.(api.Strict); return ok }},
		{"Lazy", func() bool { _, ok := n.(api.Lazy); return ok }}, {"Binder", func() bool { _, ok := n.(api.Binder); return ok }},
		{"User", func() bool { _, ok := n.(api.User); return ok }}, {"Caller", func() bool { _, ok := n.(api.Caller); return ok }},
		{"Pure", func() bool { _, ok := n.(api.Pure); return ok }}, {"Total", func() bool { _, ok := n.(api.Total); return ok }},
		{"Sorted", func() bool { _, ok := n.(api.Sorted); return ok }}, {"Sugar", func() bool { _, ok := n.(api.Sugar); return ok }},
		{"Framed", func() bool { _, ok := n.(api.Framed); return ok }}, {"Wrapped", func() bool { _, ok := n.(api.Wrapped); return ok }},
		{"Origin", func() bool { _, ok := n.(api.Origin); return ok }}, {"Opaque", func() bool { _, ok := n.(api.Opaque); return ok }},
	} {
		if a.ask() {
			names = append(names, a.name)
		}
	}
	return names
}

// holds fails, unless a node is of a row's kind, with that text and these
// kids, and all that it tells is as the table says.
func holds(t *testing.T, row api.Row, text string, n api.Node, kids []api.Node) {
	t.Helper()
	if n.Kind() != row.Kind || n.Num() != 0 || n.Text() != text || n.Len() != len(kids) {
		t.Fatalf("P13.1: %s %.40q: %s, %d, %.40q, %d kids", row.Kind, text, n.Kind(), n.Num(), n.Text(), n.Len())
	}
	for i, kid := range kids {
		if n.Kid(i) != kid {
			t.Errorf("P13.1: %s: another node as kid %d", row.Kind, i)
		}
	}
	for _, i := range []int{-1, len(kids), len(kids) + 1, math.MinInt, math.MaxInt} {
		if n.Kid(i) != nil {
			t.Errorf("P13.1: %s: a kid %d", row.Kind, i)
		}
	}
	if got := abilities(n); !slices.Equal(got, row.Abilities) {
		t.Errorf("P13.1, P13.3: %s: %v, not %v", row.Kind, got, row.Abilities)
	}
	if x, ok := n.(api.Caller); !ok || x.Calls() != text {
		t.Errorf("P13.2: %s does not call %q", row.Kind, text)
	}
	if x, ok := n.(api.Binder); ok {
		if name, in := x.Binds(); name != text || in != 1 {
			t.Errorf("P13.2: %s binds %q in %d", row.Kind, name, in)
		}
	}
}

func TestNodes(t *testing.T) {
	for _, row := range rows() {
		for _, n := range []int{2, 0, 1, 3, 16, 17, 1023, 5000} {
			if n != 2 && row.Max == 2 {
				continue
			}
			for _, text := range []string{"f", "F", "_", "x1", "to", "a_B9", strings.Repeat("x", 32)} {
				hs := numbers(n)
				var kids []api.Node
				for i := range hs {
					hs[i] = []*node.Handle{hs[i], wrapped(hs[i])}[i%2]
					kids = append(kids, hs[i].Node())
				}
				h := made(t, row.Kind, text, hs...)
				holds(t, row, text, h.Node(), kids)
				if got := node.Abilities(h); !slices.Equal(got, row.Abilities) {
					t.Errorf("P13.1: %s: %v, not %v", row.Kind, got, row.Abilities)
				}
				if h.Node() == made(t, row.Kind, text, hs...).Node() || h.Node() != h.Node() {
					t.Errorf("P13.1: %s: a node is itself, and no other one", row.Kind)
				}
				clear(hs)
				holds(t, row, text, h.Node(), kids)
			}
		}
	}
}

func TestHandles(t *testing.T) {
	h := made(t, "call.by", "x", number(0), made(t, "call.to", "f", number(1)))
	w := wrapped(h)
	if core, e := node.Core(w); e != nil || core.Node() != h.Node() || w.Node().Kid(1) != h.Node().Kid(1) {
		t.Errorf("P13.1: a wrapper around call.by: %v", e)
	}
	for _, ability := range []string{"Binder", "Caller"} {
		if e := node.Must(w, ability); e != nil {
			t.Errorf("P13.2: a wrapped call.by is a %s: %v", ability, e)
		}
	}
	var lack api.Lacking
	for _, ability := range []string{"Strict", "Lazy", "Pure", "Total", "Sorted", "Sugar"} {
		if e := node.Must(w, ability); !errors.As(e, &lack) {
			t.Errorf("P13.3: call.by is %s: %v", ability, e)
		} else if kind, lacks := lack.Lacks(); kind != "call.by" || lacks != ability {
			t.Errorf("P13.3: %s lacks %s", kind, lacks)
		}
	}
	want := api.Tree{Kind: "call.by", Text: "x", Kids: []api.Tree{{Kind: "base.int"}, {Kind: "call.to", Text: "f", Kids: []api.Tree{{Kind: "base.int", Num: 1}}}}}
	if x, e := node.Plain(w); e != nil || !reflect.DeepEqual(x, want) {
		t.Errorf("P13.1: %v, %v", x, e)
	}
}

// refused fails, unless the kit refuses a node by that number.
func refused(t *testing.T, what string, want api.Errno, x api.Tree, kids ...*node.Handle) {
	t.Helper()
	if h, e := call.Kit().Make(x, kids...); h != nil || fault.Code(e) != want {
		t.Errorf("P13.1: %s, %s: %v, not %d", x.Kind, what, e, want)
	}
}

func TestRefusedNodes(t *testing.T) {
	for _, row := range rows() {
		kids := numbers(2)
		for _, n := range []int64{1, -1, math.MinInt64, math.MaxInt64} {
			refused(t, "a Num", api.ErrFit, api.Tree{Kind: row.Kind, Num: n, Text: "f"}, kids...)
		}
		for _, s := range []string{"", " ", "\x00", "1", "64", "1f", "f g", "f ", " f", "f\n", "f.g", "f-", "\u00e9", strings.Repeat("f", 33), strings.Repeat("f", 16384)} {
			refused(t, fmt.Sprintf("the Text %.40q", s), api.ErrFit, api.Tree{Kind: row.Kind, Text: s}, kids...)
		}
		refused(t, "a long Text", api.ErrLong, api.Tree{Kind: row.Kind, Text: strings.Repeat("f", 16385)}, kids...)
		kids[1] = nil
		refused(t, "no handle", api.ErrArg, api.Tree{Kind: row.Kind, Text: "f"}, kids...)
		kids[1] = new(node.Handle)
		refused(t, "the zero handle", api.ErrArg, api.Tree{Kind: row.Kind, Num: 1}, kids...)
	}
	for _, n := range []int{0, 1, 3, 1000} {
		refused(t, fmt.Sprint(n, " kids"), api.ErrCount, api.Tree{Kind: "call.by", Text: "1x", Kids: make([]api.Tree, 2)}, numbers(n)...)
	}
	refused(t, "no kids", api.ErrFit, api.Tree{Kind: "call.to", Text: "1f"})
}

// fun is a function of a run.
type fun struct {
	params []string
	body   api.Node
}

// run is what doc/00 says of the abilities that this kit and its examples lean
// on: values are written as texts, a fault as its number and place.
type run struct {
	funs  map[string]fun
	calls int
}

// spot is a node's function and its path there.
type spot struct {
	fun  string
	path []int
}

func (s spot) kid(i int) spot { return spot{s.fun, append(slices.Clone(s.path), i)} }

func (s spot) fault(e api.Errno) (string, bool) { return fmt.Sprint(e, " at ", s.fun, s.path), false }

// worth has the cases in doc/00's order: call.by comes to Binder's.
func (r *run) worth(n api.Node, scene map[string]string, at spot) (string, bool) {
	core, _ := node.Core(node.Hold(n))
	switch x := core.Node().(type) {
	case api.Literal:
		return fmt.Sprint(x.Worth()), true
	case api.Strict:
		l, ok := r.kids(x, scene, at)
		if !ok {
			return l[0], false
		}
		return "[" + strings.Join(l, ", ") + "]", true
	case api.Binder:
		v, ok := r.worth(x.Kid(0), scene, at.kid(0))
		if !ok {
			return v, false
		}
		name, in := x.Binds()
		inner := maps.Clone(scene)
		inner[name] = v
		return r.worth(x.Kid(in), inner, at.kid(in))
	case api.User:
		if v, ok := scene[x.Uses()]; ok {
			return v, true
		}
		return at.fault(api.ErrName)
	case api.Caller:
		return r.called(x, scene, at)
	}
	return at.fault(api.ErrLack)
}

// kids gives the kids' values; or the first fault alone.
func (r *run) kids(n api.Node, scene map[string]string, at spot) ([]string, bool) {
	var l []string
	for i := range n.Len() {
		v, ok := r.worth(n.Kid(i), scene, at.kid(i))
		if !ok {
			return []string{v}, false
		}
		l = append(l, v)
	}
	return l, true
}

func (r *run) called(n api.Caller, scene map[string]string, at spot) (string, bool) {
	f, ok := r.funs[n.Calls()]
	switch {
	case !ok:
		return at.fault(api.ErrName)
	case len(f.params) != n.Len():
		return at.fault(api.ErrCount)
	case r.calls == api.MaxCalls:
		return at.fault(api.ErrDeep)
	}
	args, ok := r.kids(n, scene, at)
	if !ok {
		return args[0], false
	}
	inner := map[string]string{}
	for i, name := range f.params {
		inner[name] = args[i]
	}
	r.calls++
	defer func() { r.calls-- }()
	return r.worth(f.body, inner, spot{fun: n.Calls()})
}

func TestWorth(t *testing.T) {
	of := func(kids ...*node.Handle) *node.Handle {
		h, _ := list.Kit().Make(api.Tree{Kind: "list.of"}, kids...)
		return h
	}
	to := func(name string, kids ...*node.Handle) *node.Handle { return made(t, "call.to", name, kids...) }
	by := func(name string, kids ...*node.Handle) *node.Handle { return made(t, "call.by", name, kids...) }
	five, six, x, y := number(5), number(6), use("x"), use("y")
	funs := map[string]fun{
		"five": {nil, five.Node()}, "same": {[]string{"x"}, x.Node()}, "pair": {[]string{"x", "y"}, of(y, x).Node()},
		"x": {[]string{"a", "b"}, six.Node()}, "loose": {nil, of(five, x).Node()}, "ring": {nil, to("ring").Node()},
		"ten": {nil, by("x", five, of(x, to("same", six), x)).Node()},
	}
	nest := five
	for range 200 {
		nest = to("same", nest)
	}
	for i, c := range []struct {
		h    *node.Handle
		want string
	}{
		{to("five"), "5"}, {to("same", six), "6"}, {to("pair", five, six), "[6, 5]"}, {to("ten"), "[5, 6, 5]"}, {wrapped(to("pair", wrapped(five), to("five"))), "[5, 5]"},
		{to("none"), "10 at []"}, {to("none", x), "10 at []"}, {of(five, to("none")), "10 at [1]"},
		{to("same"), "11 at []"}, {to("same", five, six), "11 at []"}, {to("five", x), "11 at []"}, {to("pair", five, x), "10 at [1]"}, {to("pair", y, x), "10 at [0]"},
		{by("x", five, to("same", x)), "5"}, {by("x", five, to("loose")), "10 at loose[1]"}, {to("ring"), "32 at ring[]"}, {nest, "5"},
		{by("x", five, x), "5"}, {by("x", five, six), "6"}, {by("x", five, by("x", six, x)), "6"}, {by("x", five, of(by("x", of(x), x), x)), "[[5], 5]"},
		{by("x", x, five), "10 at [0]"}, {by("x", five, y), "10 at [1]"}, {by("none", five, use("none")), "5"}, {by("same", five, use("same")), "5"}, {wrapped(by("x", wrapped(five), wrapped(x))), "5"},
		{to("x", five, six), "6"}, {by("x", five, to("x", x, x)), "6"},
	} {
		r := run{funs: funs}
		if got, _ := r.worth(c.h.Node(), map[string]string{}, spot{}); got != c.want {
			t.Errorf("P13.2: %d: %s, not %s", i, got, c.want)
		}
	}
}

func TestWork(t *testing.T) {
	five := api.Plain{Kind: api.PInt, Num: 5}
	for _, op := range []string{"", "to", "call", "call.", "call.to", "call.by", "call.none", "base.int", "num.add", "list.of", strings.Repeat("call.to", 1<<17)} {
		for _, args := range [][]api.Plain{nil, {five}, {five, five}, {five, five, five}, {{}}, make([]api.Plain, 1<<16)} {
			if v, e, said := call.Work(op, args...); v != nil || e != api.ErrArg || said != "" {
				t.Errorf("P13.4: %.40q of %d values: %v, %d, %q", op, len(args), v, e, said)
			}
		}
	}
}

func TestNothingIsChanged(t *testing.T) {
	args := func() []api.Plain {
		return []api.Plain{{Kind: api.PList, List: []api.Plain{{Kind: api.PInt, Num: 5}}}, {Kind: api.PText, Text: "spare"}}
	}
	l := args()
	_, _, _ = call.Work("call.to", l[:1]...)
	if !reflect.DeepEqual(l, args()) {
		t.Errorf("P13.4: arguments are changed: %v", l)
	}
	for _, row := range rows() {
		hs := append(numbers(2), nil)[:2]
		before := slices.Clone(hs)
		n := made(t, row.Kind, "x", hs...).Node()
		if !slices.Equal(hs, before) || hs[:3][2] != nil {
			t.Errorf("P13.1: kids of %s are changed", row.Kind)
		}
		holds(t, row, "x", n, []api.Node{before[0].Node(), before[1].Node()})
	}
}

func TestSeveralGoroutines(t *testing.T) {
	k := call.Kit()
	l := numbers(2)
	by := made(t, "call.by", "x", l...).Node()
	var all sync.WaitGroup
	for range 8 {
		all.Go(func() {
			for range 100 {
				h, e := k.Make(api.Tree{Kind: "call.to", Text: "f"}, l...)
				if e != nil || h.Node().(api.Caller).Calls() != "f" || h.Node().Kid(1) != l[1].Node() {
					t.Errorf("P13.1: at the same time: %v", e)
				}
				if name, in := by.(api.Binder).Binds(); name != "x" || in != 1 || by.(api.Caller).Calls() != "x" {
					t.Errorf("P13.2: at the same time: a node tells something else")
				}
			}
		})
	}
	all.Wait()
}
