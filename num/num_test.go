package num_test

// The tests of P8.1 to P8.5, through the package's face alone.

import (
	"errors"
	"fmt"
	"math"
	"math/big"
	"reflect"
	"slices"
	"strings"
	"sync"
	"testing"

	"espalier/api"
	"espalier/fault"
	"espalier/node"
	"espalier/num"
)

const lowest, highest = math.MinInt64, math.MaxInt64

// kind is a line of doc/08's table, by hand.
type kind struct {
	name     string
	min, max int
	has      string
	ins      int
	rest     bool
	out      string
}

func kinds() []kind {
	const quiet, sure, sugar = "Strict Pure Sorted", "Strict Pure Total Sorted", "Pure Sorted Sugar"
	return []kind{
		{"num.add", 2, 2, quiet, 2, false, "int"}, {"num.sub", 2, 2, quiet, 2, false, "int"}, {"num.mul", 2, 2, quiet, 2, false, "int"},
		{"num.quo", 2, 2, quiet, 2, false, "int"}, {"num.mod", 2, 2, quiet, 2, false, "int"},
		{"num.pow", 2, 2, quiet, 2, false, "int"},
		{"num.neg", 1, 1, quiet, 1, false, "int"}, {"num.abs", 1, 1, quiet, 1, false, "int"},
		{"num.min", 2, 2, sure, 2, false, "int"}, {"num.max", 2, 2, sure, 2, false, "int"},
		{"num.less", 2, 2, sure, 2, false, "truth"}, {"num.most", 2, 2, sure, 2, false, "truth"},
		{"num.sum", 1, -1, sugar, 1, true, "int"},
		{"num.inc", 1, 1, sugar, 1, false, "int"}, {"num.dec", 1, 1, sugar, 1, false, "int"},
	}
}

func (k kind) strict() bool { return strings.HasPrefix(k.has, "Strict") }

func (k kind) signs() api.Signature {
	return api.Signature{Ins: slices.Repeat([]api.Sort{{Name: "int"}}, k.ins), Rest: k.rest, Out: api.Sort{Name: k.out}}
}

// same holds two signatures against each other; nil and empty lists are alike.
func same(a, b api.Signature) bool { return fmt.Sprint(a) == fmt.Sprint(b) }

func leaf(kind string) api.Tree { return api.Tree{Kind: kind} }

func number(t *testing.T, n int64) *node.Handle {
	t.Helper()
	h, e := node.Make(api.Tree{Kind: "base.int", Num: n})
	if e != nil {
		t.Fatal(e)
	}
	return h
}

func numbers(t *testing.T, n int) []*node.Handle {
	t.Helper()
	var hs []*node.Handle
	for i := range n {
		hs = append(hs, number(t, int64(i)))
	}
	return hs
}

func wrapped(t *testing.T, h *node.Handle) *node.Handle {
	t.Helper()
	w, e := node.Wrap(h, api.Place{Fun: "f", Path: []int{1}})
	if e != nil {
		t.Fatal(e)
	}
	return w
}

func made(t *testing.T, kind string, kids ...*node.Handle) *node.Handle {
	t.Helper()
	h, e := num.Kit().Make(leaf(kind), kids...)
	if e != nil || h == nil || h.Node() == nil {
		t.Fatalf("P8.1: %s of %d kids: %v", kind, len(kids), e)
	}
	return h
}

// text writes a node and what is below it.
func text(n api.Node) string {
	var kids []string
	for i := range n.Len() {
		kids = append(kids, text(n.Kid(i)))
	}
	s := n.Kind()
	if n.Kind() == "base.int" {
		s = fmt.Sprint(n.Num())
	}
	if len(kids) == 0 {
		return s
	}
	return s + "(" + strings.Join(kids, ", ") + ")"
}

func spelt(t *testing.T, n api.Node) api.Node {
	t.Helper()
	s, ok := n.(api.Sugar)
	if !ok || s.Spelt() == nil {
		t.Fatalf("P8.3: %s is not spelt", n.Kind())
	}
	return s.Spelt()
}

func TestRows(t *testing.T) {
	k := num.Kit()
	if k.Name() != "num" {
		t.Errorf("P8.1: the name %q", k.Name())
	}
	rows := k.Rows()
	if len(rows) != len(kinds()) {
		t.Fatalf("P8.1: %d rows", len(rows))
	}
	for i, want := range kinds() {
		row := api.Row{Kind: want.name, Min: want.min, Max: want.max, Abilities: strings.Fields(want.has)}
		if !reflect.DeepEqual(rows[i], row) {
			t.Errorf("P8.1: row %d: %v, not %v", i, rows[i], row)
		}
		if got, ok := k.Row(want.name); !ok || !reflect.DeepEqual(got, row) {
			t.Errorf("P8.1: %s: %v, %v", want.name, got, ok)
		}
	}
	for _, none := range []string{"", "num", "add", "num.", "num.int", "num.Add", "num.add ", "base.int", "list.add"} {
		if got, ok := k.Row(none); ok {
			t.Errorf("P8.1: %q: %v", none, got)
		}
		if h, e := k.Make(leaf(none), numbers(t, 2)...); h != nil || fault.Code(e) != api.ErrNone {
			t.Errorf("P8.1: %q: %v", none, e)
		}
	}
}

func TestEachCallOne(t *testing.T) {
	a, b := num.Kit(), num.Kit()
	if a == nil || a == b {
		t.Errorf("P8.1: two calls give one kit")
	}
	rows := a.Rows()
	for i := range rows {
		rows[i].Abilities[0] = "Spoilt"
		_ = append(rows[i].Abilities, "More")
		rows[i].Kind = "spoilt.too"
	}
	for _, k := range kinds() {
		if got, ok := b.Row(k.name); !ok || !slices.Equal(got.Abilities, strings.Fields(k.has)) {
			t.Errorf("P8.5: %s of the other kit: %v", k.name, got)
		}
		if got, ok := a.Row(k.name); !ok || !slices.Equal(got.Abilities, strings.Fields(k.has)) {
			t.Errorf("P8.5: %s of the kit: %v", k.name, got)
		}
	}
}

// abilities asks by two-valued assertions.
func abilities(n api.Node) string {
	var names []string
	ask := func(name string, ok bool) {
		if ok {
			names = append(names, name)
		}
	}
	_, ok := n.(api.Literal)
	ask("Literal", ok)
	_, ok = n.(api.Strict)
	ask("Strict", ok)
	_, ok = n.(api.Lazy)
	ask("Lazy", ok)
	_, ok = n.(api.Binder)
	ask("Binder", ok)
	_, ok = n.(api.User)
	ask("User", ok)
	_, ok = n.(api.Caller)
	ask("Caller", ok)
	_, ok = n.(api.Pure)
	ask("Pure", ok)
	_, ok = n.(api.Total)
	ask("Total", ok)
	_, ok = n.(api.Sorted)
	ask("Sorted", ok)
	_, ok = n.(api.Sugar)
	ask("Sugar", ok)
	_, ok = n.(api.Framed)
	ask("Framed", ok)
	_, ok = n.(api.Wrapped)
	ask("Wrapped", ok)
	_, ok = n.(api.Origin)
	ask("Origin", ok)
	_, ok = n.(api.Opaque)
	ask("Opaque", ok)
	return strings.Join(names, " ")
}

// holds fails, unless a node is of a kind, and all that it tells is as the table says.
func holds(t *testing.T, k kind, n api.Node, kids ...api.Node) {
	t.Helper()
	if n.Kind() != k.name || n.Num() != 0 || n.Text() != "" || n.Len() != len(kids) {
		t.Fatalf("P8.1: %s: %s, %d, %q, %d kids", k.name, n.Kind(), n.Num(), n.Text(), n.Len())
	}
	for i, kid := range kids {
		if n.Kid(i) != kid {
			t.Errorf("P8.5: %s: another node as kid %d", k.name, i)
		}
	}
	for _, i := range []int{-1, len(kids), len(kids) + 1, math.MinInt, math.MaxInt} {
		if n.Kid(i) != nil {
			t.Errorf("P8.5: %s: a kid %d", k.name, i)
		}
	}
	if got := abilities(n); got != k.has {
		t.Errorf("P8.1: %s: %s, not %s", k.name, got, k.has)
	}
	if x, ok := n.(api.Strict); ok && x.Op() != k.name {
		t.Errorf("P8.1: %s: the operation %s", k.name, x.Op())
	}
	if x, ok := n.(api.Pure); !ok || !x.Quiet() {
		t.Errorf("P8.1: %s is not quiet", k.name)
	}
	if x, ok := n.(api.Total); ok && !x.Sure() {
		t.Errorf("P8.1: %s is not sure", k.name)
	}
	if x, ok := n.(api.Sorted); !ok || !same(x.Signs(), k.signs()) {
		t.Errorf("P8.1: %s: other sorts than %v", k.name, k.signs())
	}
}

func TestNodes(t *testing.T) {
	for _, k := range kinds() {
		hs := numbers(t, k.min)
		hs[0] = wrapped(t, hs[0])
		var kids []api.Node
		for _, h := range hs {
			kids = append(kids, h.Node())
		}
		h := made(t, k.name, hs...)
		holds(t, k, h.Node(), kids...)
		if got := strings.Join(node.Abilities(h), " "); got != k.has {
			t.Errorf("P8.1: %s: %s, not %s", k.name, got, k.has)
		}
		if h.Node() == made(t, k.name, hs...).Node() || h.Node() != h.Node() {
			t.Errorf("P8.1: %s: a node is itself, and no other one", k.name)
		}
		for i := range hs {
			hs[i] = nil
		}
		holds(t, k, h.Node(), kids...)
	}
}

func TestHandles(t *testing.T) {
	h := made(t, "num.add", number(t, 1), made(t, "num.inc", number(t, 2)))
	w := wrapped(t, h)
	if core, e := node.Core(w); e != nil || core.Node() != h.Node() || w.Node().Kid(1) != h.Node().Kid(1) {
		t.Errorf("P8.1: a wrapper around num.add: %v", e)
	}
	if e := node.Must(w, "Strict"); e != nil {
		t.Errorf("P8.1: a wrapped num.add is Strict: %v", e)
	}
	var lack api.Lacking
	if e := node.Must(h, "Total"); !errors.As(e, &lack) {
		t.Errorf("P8.1: num.add is not Total: %v", e)
	} else if kind, ability := lack.Lacks(); kind != "num.add" || ability != "Total" {
		t.Errorf("P8.1: %s lacks %s", kind, ability)
	}
	x, e := node.Plain(w)
	want := api.Tree{Kind: "num.add", Kids: []api.Tree{{Kind: "base.int", Num: 1}, {Kind: "num.inc", Kids: []api.Tree{{Kind: "base.int", Num: 2}}}}}
	if e != nil || !reflect.DeepEqual(x, want) {
		t.Errorf("P8.1: %v, %v", x, e)
	}
}

func TestSignsAreTheCallersOwn(t *testing.T) {
	for _, k := range kinds() {
		n := made(t, k.name, numbers(t, k.min)...).Node().(api.Sorted)
		a, b := n.Signs(), n.Signs()
		a.Out.Of = append(a.Out.Of, api.Sort{Name: "spoilt"})
		_ = append(a.Ins, api.Sort{Name: "more"})
		for i := range a.Ins {
			_ = append(a.Ins[i].Of, api.Sort{Name: "more"})
			a.Ins[i] = api.Sort{Name: "spoilt"}
		}
		if !same(b, k.signs()) || !same(n.Signs(), k.signs()) {
			t.Errorf("P8.5: %s: signatures share memory", k.name)
		}
	}
}

func TestRefusedNodes(t *testing.T) {
	refused := func(what string, want api.Errno, x api.Tree, kids ...*node.Handle) {
		t.Helper()
		if h, e := num.Kit().Make(x, kids...); h != nil || fault.Code(e) != want {
			t.Errorf("P8.1: %s, %s: %v, not %d", x.Kind, what, e, want)
		}
	}
	for _, k := range kinds() {
		kids := numbers(t, k.min)
		refused("no kids", api.ErrCount, leaf(k.name))
		refused("a kid too few", api.ErrCount, leaf(k.name), kids[1:]...)
		if k.max >= 0 {
			refused("a kid too many", api.ErrCount, leaf(k.name), numbers(t, k.max+1)...)
			refused("many kids", api.ErrCount, leaf(k.name), numbers(t, 1000)...)
		}
		for _, n := range []int64{1, -1, lowest, highest} {
			refused("a Num", api.ErrFit, api.Tree{Kind: k.name, Num: n}, kids...)
		}
		for _, s := range []string{"x", " ", "\x00", "1"} {
			refused("a Text", api.ErrFit, api.Tree{Kind: k.name, Text: s}, kids...)
		}
		refused("a long Text", api.ErrLong, api.Tree{Kind: k.name, Text: strings.Repeat("x", 16385)}, kids...)
		kids[len(kids)-1] = nil
		refused("no handle", api.ErrArg, leaf(k.name), kids...)
		kids[len(kids)-1] = new(node.Handle)
		refused("the zero handle", api.ErrArg, api.Tree{Kind: k.name, Num: 1}, kids...)
	}
}

func TestSpeltSum(t *testing.T) {
	add := kinds()[0]
	for _, n := range []int{1, 2, 3, 4, 5, 17, 64, 1023, 1024} {
		hs := numbers(t, n)
		hs[n/2] = wrapped(t, hs[n/2])
		got := spelt(t, made(t, "num.sum", hs...).Node())
		for i := n - 1; i > 0; i-- {
			holds(t, add, got, got.Kid(0), hs[i].Node())
			got = got.Kid(0)
		}
		if got != hs[0].Node() {
			t.Errorf("P8.3: the sum of %d kids: another node as the innermost one", n)
		}
	}
	one := number(t, 1)
	n := spelt(t, made(t, "num.sum", slices.Repeat([]*node.Handle{one}, 200000)...).Node())
	deep := 0
	for ; n != one.Node(); n = n.Kid(0) {
		deep++
	}
	if deep != 199999 {
		t.Errorf("P8.3: a long sum is %d deep", deep)
	}
}

func TestSpeltStep(t *testing.T) {
	for name, by := range map[string]kind{"num.inc": kinds()[0], "num.dec": kinds()[1]} {
		for _, kid := range []*node.Handle{number(t, 4), wrapped(t, number(t, 4)), made(t, name, number(t, 5)), made(t, "num.sum", number(t, 5))} {
			n := made(t, name, kid).Node()
			got := spelt(t, n)
			holds(t, by, got, kid.Node(), got.Kid(1))
			one := got.Kid(1)
			if one.Kind() != "base.int" || one.Num() != 1 || one.Text() != "" || one.Len() != 0 || abilities(one) != "Literal Pure Total Sorted" || one.(api.Literal).Worth() != api.Int(1) {
				t.Errorf("P8.3: %s: the second kid is %s", name, text(one))
			}
			if text(got) != text(spelt(t, n)) {
				t.Errorf("P8.5: %s is spelt otherwise the next time", name)
			}
		}
	}
}

func TestSpeltText(t *testing.T) {
	sum := func(kids ...*node.Handle) *node.Handle { return made(t, "num.sum", kids...) }
	l := numbers(t, 5)
	for _, c := range []struct {
		sugar *node.Handle
		want  string
	}{
		{sum(l[1], l[2], l[3]), "num.add(num.add(1, 2), 3)"},
		{sum(l[1], l[2], l[3], l[4]), "num.add(num.add(num.add(1, 2), 3), 4)"},
		{sum(l[3], l[1]), "num.add(3, 1)"},
		{sum(sum(l[1], l[2]), l[3]), "num.add(num.sum(1, 2), 3)"},
		{sum(sum(l[1])), "num.sum(1)"},
		{sum(sum(l[1], l[2])), "num.sum(1, 2)"},
		{made(t, "num.inc", l[4]), "num.add(4, 1)"},
		{made(t, "num.dec", l[4]), "num.sub(4, 1)"},
		{made(t, "num.dec", sum(l[1])), "num.sub(num.sum(1), 1)"},
	} {
		if got := text(spelt(t, c.sugar.Node())); got != c.want {
			t.Errorf("P8.3: %s: %s, not %s", text(c.sugar.Node()), got, c.want)
		}
	}
}

func whole(n int64) api.Plain { return api.Plain{Kind: api.PInt, Num: n} }

func wholes(ns ...int64) []api.Plain {
	var l []api.Plain
	for _, n := range ns {
		l = append(l, whole(n))
	}
	return l
}

// wanted is what is wanted of an operation: a value, or a fault's number.
func wanted(t *testing.T, promise, op string, want any, args ...api.Plain) {
	t.Helper()
	v, e, said := num.Work(op, args...)
	if code, ok := want.(api.Errno); ok {
		if v != nil || e != code || said != "" {
			t.Errorf("%s: %s %.60q: %v, %d, %q, not error %d", promise, op, fmt.Sprint(args), v, e, said, code)
		}
	} else if v != want || e != api.OK || said != "" {
		t.Errorf("%s: %s %.60q: %v, %d, %q, not %v", promise, op, fmt.Sprint(args), v, e, said, want)
	}
}

// some are numbers around those where something changes.
func some() []int64 {
	var l []int64
	for _, n := range []int64{0, 1 << 15, 1 << 16, 1 << 21, 1 << 31, 1 << 32, 1 << 33, 1 << 47, 1 << 62, 3037000499, 3037000500, 2097151, 2097152, 55108, 6208, 1448, 1000000007, 4611686018427387904} {
		for d := int64(-2); d <= 2; d++ {
			l = append(l, n+d, -n+d)
		}
	}
	for n := int64(3); n <= 70; n++ {
		l = append(l, n, -n)
	}
	for d := int64(0); d < 4; d++ {
		l = append(l, lowest+d, highest-d)
	}
	slices.Sort(l)
	return slices.Compact(l)
}

func within(n *big.Int) any {
	if !n.IsInt64() {
		return api.ErrOver
	}
	return api.Int(n.Int64())
}

// known is what an operation comes to, by greater numbers.
func known(op string, x, y int64) any {
	a, b, c := big.NewInt(x), big.NewInt(y), new(big.Int)
	switch op {
	case "num.add":
		return within(c.Add(a, b))
	case "num.sub":
		return within(c.Sub(a, b))
	case "num.mul":
		return within(c.Mul(a, b))
	case "num.quo":
		if y == 0 {
			return api.ErrZero
		}
		return within(c.Quo(a, b))
	case "num.mod":
		if y == 0 {
			return api.ErrZero
		}
		c.Mod(a, b) // at least 0
		if y < 0 && c.Sign() > 0 {
			c.Add(c, b)
		}
		return within(c)
	case "num.pow":
		if y < 0 {
			return api.ErrBounds
		}
		if y > 70 && (x < -1 || x > 1) {
			return api.ErrOver
		}
		if y > 70 {
			b = big.NewInt(70 + y%2)
		}
		return within(c.Exp(a, b, nil))
	case "num.neg":
		return within(c.Neg(a))
	case "num.abs":
		return within(c.Abs(a))
	case "num.min":
		return api.Int(min(x, y))
	case "num.max":
		return api.Int(max(x, y))
	case "num.less":
		return api.Truth(a.Cmp(b) < 0)
	}
	return api.Truth(a.Cmp(b) <= 0)
}

func TestWork(t *testing.T) {
	for _, k := range kinds() {
		if !k.strict() {
			continue
		}
		for _, a := range some() {
			if k.min == 1 {
				wanted(t, "P8.2", k.name, known(k.name, a, 0), whole(a))
				continue
			}
			for _, b := range some() {
				wanted(t, "P8.2", k.name, known(k.name, a, b), whole(a), whole(b))
			}
		}
	}
}

func TestMod(t *testing.T) {
	for a := int64(-40); a <= 40; a++ {
		for b := int64(-9); b <= 9; b++ {
			if b == 0 {
				continue
			}
			v, e, _ := num.Work("num.mod", whole(a), whole(b))
			m, ok := v.(api.Int)
			if e != api.OK || !ok || b > 0 && (m < 0 || int64(m) >= b) || b < 0 && (m > 0 || int64(m) <= b) || (a-int64(m))%b != 0 {
				t.Errorf("P8.2: mod(%d, %d): %v, %d", a, b, v, e)
			}
		}
	}
}

func TestExamples(t *testing.T) {
	for _, c := range []struct {
		op   string
		args []api.Plain
		want any
	}{
		{"quo", wholes(-7, 2), api.Int(-3)}, {"quo", wholes(lowest, -1), api.ErrOver}, {"quo", wholes(1, 0), api.ErrZero},
		{"mod", wholes(-7, 2), api.Int(1)}, {"mod", wholes(7, -2), api.Int(-1)}, {"mod", wholes(lowest, -1), api.Int(0)}, {"mod", wholes(0, 0), api.ErrZero},
		{"pow", wholes(-2, 63), api.Int(lowest)}, {"pow", wholes(0, 0), api.Int(1)}, {"pow", wholes(2, -1), api.ErrBounds}, {"pow", wholes(1, 1<<62), api.Int(1)}, {"pow", wholes(0, 1<<62), api.Int(0)},
		{"pow", wholes(-1, highest), api.Int(-1)}, {"pow", wholes(-1, highest-1), api.Int(1)}, {"pow", wholes(2, highest), api.ErrOver}, {"pow", wholes(-2, 64), api.ErrOver}, {"pow", wholes(2, 63), api.ErrOver}, {"pow", wholes(2, 62), api.Int(1 << 62)}, {"pow", wholes(0, -1), api.ErrBounds}, {"pow", wholes(1, lowest), api.ErrBounds}, {"pow", wholes(lowest, 1), api.Int(lowest)}, {"pow", wholes(lowest, 0), api.Int(1)}, {"pow", wholes(lowest, 2), api.ErrOver},
		{"neg", wholes(lowest), api.ErrOver}, {"abs", wholes(lowest), api.ErrOver}, {"abs", wholes(-5), api.Int(5)}, {"neg", wholes(highest), api.Int(-highest)}, {"abs", wholes(0), api.Int(0)},
		{"add", []api.Plain{whole(1), {Kind: api.PTruth, Num: 1}}, api.ErrKind}, {"pow", []api.Plain{{Kind: api.PText, Text: "x"}, whole(-1)}, api.ErrKind},
	} {
		wanted(t, "P8.2", "num."+c.op, c.want, c.args...)
	}
}

// mayNot are plain values that may not be.
func mayNot() []api.Plain {
	ring := []api.Plain{{Kind: api.PList}}
	ring[0].List = ring
	return []api.Plain{{}, {Kind: -1}, {Kind: 6}, {Kind: api.PTruth, Num: 2}, {Kind: api.PInt, Num: 1, Text: "x"}, {Kind: api.PInt, List: make([]api.Plain, 1)}, {Kind: api.PText, Text: strings.Repeat("x", 65536)}, {Kind: api.PList, List: ring}, {Kind: api.PList, List: make([]api.Plain, 1)}}
}

// others are values of other sorts than int.
func others() []api.Plain {
	return []api.Plain{{Kind: api.PUnit}, {Kind: api.PTruth}, {Kind: api.PTruth, Num: 1}, {Kind: api.PText}, {Kind: api.PText, Text: "5"}, {Kind: api.PList}, {Kind: api.PList, List: []api.Plain{whole(5)}}}
}

func TestWorkRefused(t *testing.T) {
	for _, op := range []string{"", "add", "num", "num.", ".add", "num.Add", "num.add ", " num.add", "num.sum", "num.inc", "num.dec", "num.int", "base.int", "words.less", "list.add", strings.Repeat("num.add", 1<<17)} {
		for _, args := range [][]api.Plain{nil, wholes(1), wholes(1, 2), wholes(1, 2, 3), mayNot(), others()} {
			wanted(t, "P8.4", op, api.ErrArg, args...)
		}
	}
	for _, k := range kinds() {
		if !k.strict() {
			continue
		}
		for n := range 5 {
			if n == k.min {
				continue
			}
			wanted(t, "P8.4", k.name, api.ErrCount, slices.Repeat([]api.Plain{whole(1)}, n)...)
			wanted(t, "P8.4", k.name, api.ErrCount, slices.Repeat([]api.Plain{{}}, n)...)
			wanted(t, "P8.4", k.name, api.ErrCount, slices.Repeat(others()[:1], n)...)
		}
		wanted(t, "P8.4", k.name, api.ErrCount, make([]api.Plain, 1<<20)...)
	}
}

func TestWorkOfOtherValues(t *testing.T) {
	for _, k := range kinds() {
		if !k.strict() {
			continue
		}
		for at := range k.min {
			args := slices.Repeat([]api.Plain{whole(0)}, k.min)
			for _, p := range mayNot() {
				args[at] = p
				wanted(t, "P8.4", k.name, api.ErrArg, args...)
				for _, other := range others() {
					args[(at+1)%k.min] = other
					args[at] = p
					wanted(t, "P8.4", k.name, api.ErrArg, args...)
				}
			}
			for _, n := range []int64{0, -1, lowest, highest} {
				for _, p := range others() {
					args[(at+1)%k.min] = whole(n)
					args[at] = p
					wanted(t, "P8.5", k.name, api.ErrKind, args...)
				}
			}
		}
		for _, p := range others() {
			wanted(t, "P8.5", k.name, api.ErrKind, slices.Repeat([]api.Plain{p}, k.min)...)
		}
	}
}

func TestNothingIsChanged(t *testing.T) {
	args := append(wholes(7, 2), api.Plain{Kind: api.PText, Text: "spare"})[:2]
	for _, k := range kinds() {
		if k.strict() {
			_, _, _ = num.Work(k.name, args[:k.min]...)
		}
	}
	list := []api.Plain{{Kind: api.PList, List: wholes(1, 2)}, whole(1)}
	_, _, _ = num.Work("num.add", list...)
	if !reflect.DeepEqual(args[:3], append(wholes(7, 2), api.Plain{Kind: api.PText, Text: "spare"})) || !reflect.DeepEqual(list[0].List, wholes(1, 2)) {
		t.Errorf("P8.5: arguments are changed: %v", args[:3])
	}
	hs := append(numbers(t, 3), nil)[:3]
	before := slices.Clone(hs)
	n := made(t, "num.sum", hs...).Node()
	_ = n.(api.Sugar).Spelt()
	if !slices.Equal(hs, before) || hs[:4][3] != nil {
		t.Errorf("P8.5: kids are changed")
	}
}

func TestSeveralGoroutines(t *testing.T) {
	k := num.Kit()
	kid := number(t, 3)
	n := made(t, "num.sum", kid, kid, kid).Node()
	var all sync.WaitGroup
	for i := range 8 {
		all.Go(func() {
			for j := range 200 {
				x, y := int64(i), int64(j)
				wanted(t, "P8.2", "num.mul", api.Int(x*y), whole(x), whole(y))
				if h, e := k.Make(leaf("num.inc"), kid); e != nil || text(h.Node().(api.Sugar).Spelt()) != "num.add(3, 1)" {
					t.Errorf("P8.3: at the same time: %v", e)
				}
				if text(n.(api.Sugar).Spelt()) != "num.add(num.add(3, 3), 3)" || !same(n.(api.Sorted).Signs(), kinds()[12].signs()) {
					t.Errorf("P8.5: at the same time: a node tells something else")
				}
			}
		})
	}
	all.Wait()
}
