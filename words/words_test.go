package words_test

// The tests of P10.1 to P10.5, through the package's face alone.

import (
	"bytes"
	"errors"
	"fmt"
	"math"
	"math/big"
	"reflect"
	"slices"
	"strings"
	"sync"
	"testing"

	"espalier/api"
	"espalier/fault"
	"espalier/node"
	"espalier/words"
)

const lowest, highest = math.MinInt64, math.MaxInt64

// kind is a line of doc/10's table, by hand.
type kind struct {
	name     string
	min, max int
	has      string
	ins      string
	rest     bool
	out      string
}

func kinds() []kind {
	const quiet, sure, sugar = "Strict Pure Sorted", "Strict Pure Total Sorted", "Pure Sorted Sugar"
	return []kind{
		{"words.join", 2, 2, quiet, "text text", false, "text"},
		{"words.size", 1, 1, sure, "text", false, "int"},
		{"words.cut", 3, 3, quiet, "text int int", false, "text"},
		{"words.find", 2, 2, sure, "text text", false, "int"},
		{"words.rep", 2, 2, quiet, "text int", false, "text"},
		{"words.less", 2, 2, sure, "text text", false, "truth"},
		{"words.of", 1, 1, sure, "int", false, "text"},
		{"words.num", 1, 1, quiet, "text", false, "int"},
		{"words.all", 0, -1, sugar, "text", true, "text"},
	}
}

func (k kind) strict() bool { return strings.HasPrefix(k.has, "Strict") }

func (k kind) signs() api.Signature {
	signs := api.Signature{Rest: k.rest, Out: api.Sort{Name: k.out}}
	for _, in := range strings.Fields(k.ins) {
		signs.Ins = append(signs.Ins, api.Sort{Name: in})
	}
	return signs
}

// right are plain values of the sorts that the kind's kids have.
func (k kind) right() []api.Plain {
	var l []api.Plain
	for _, in := range strings.Fields(k.ins) {
		if in == "int" {
			l = append(l, whole(0))
		} else {
			l = append(l, text("5"))
		}
	}
	return l
}

// like holds two signatures against each other; nil and empty lists are alike.
func like(a, b api.Signature) bool { return fmt.Sprint(a) == fmt.Sprint(b) }

func leaf(kind string) api.Tree { return api.Tree{Kind: kind} }

func said(t *testing.T, s string) *node.Handle {
	t.Helper()
	h, e := node.Make(api.Tree{Kind: "base.text", Text: s})
	if e != nil {
		t.Fatal(e)
	}
	return h
}

func letters(t *testing.T, n int) []*node.Handle {
	t.Helper()
	var hs []*node.Handle
	for i := range n {
		hs = append(hs, said(t, string(rune('a'+i%26))))
	}
	return hs
}

func wrapped(t *testing.T, h *node.Handle) *node.Handle {
	t.Helper()
	w, e := node.Wrap(h, api.Place{Fun: "f", Path: []int{1}})
	if e != nil {
		t.Fatal(e)
	}
	return w
}

func made(t *testing.T, kind string, kids ...*node.Handle) *node.Handle {
	t.Helper()
	h, e := words.Kit().Make(leaf(kind), kids...)
	if e != nil || h == nil || h.Node() == nil {
		t.Fatalf("P10.1: %s of %d kids: %v", kind, len(kids), e)
	}
	return h
}

// written writes a node and what is below it.
func written(n api.Node) string {
	var kids []string
	for i := range n.Len() {
		kids = append(kids, written(n.Kid(i)))
	}
	s := strings.TrimPrefix(n.Kind(), "words.")
	if s == "base.text" {
		s = fmt.Sprintf("%q", n.Text())
	}
	if len(kids) == 0 {
		return s
	}
	return s + "(" + strings.Join(kids, ", ") + ")"
}

func spelt(t *testing.T, n api.Node) api.Node {
	t.Helper()
	s, ok := n.(api.Sugar)
	if !ok || s.Spelt() == nil {
		t.Fatalf("P10.3: %s is not spelt", n.Kind())
	}
	return s.Spelt()
}

func TestRows(t *testing.T) {
	k := words.Kit()
	if k.Name() != "words" {
		t.Errorf("P10.1: the name %q", k.Name())
	}
	rows := k.Rows()
	if len(rows) != len(kinds()) {
		t.Fatalf("P10.1: %d rows", len(rows))
	}
	for i, want := range kinds() {
		row := api.Row{Kind: want.name, Min: want.min, Max: want.max, Abilities: strings.Fields(want.has)}
		if !reflect.DeepEqual(rows[i], row) {
			t.Errorf("P10.1: row %d: %v, not %v", i, rows[i], row)
		}
		if got, ok := k.Row(want.name); !ok || !reflect.DeepEqual(got, row) {
			t.Errorf("P10.1: %s: %v, %v", want.name, got, ok)
		}
	}
	for _, none := range []string{"", "words", "join", "words.", "words.text", "words.Join", "words.join ", "base.text", "list.join"} {
		if got, ok := k.Row(none); ok {
			t.Errorf("P10.1: %q: %v", none, got)
		}
		if h, e := k.Make(leaf(none), letters(t, 2)...); h != nil || fault.Code(e) != api.ErrNone {
			t.Errorf("P10.1: %q: %v", none, e)
		}
	}
}

func TestEachCallOne(t *testing.T) {
	a, b := words.Kit(), words.Kit()
	if a == nil || a == b {
		t.Errorf("P10.1: two calls give one kit")
	}
	rows := a.Rows()
	for i := range rows {
		rows[i].Abilities[0] = "Spoilt"
		_ = append(rows[i].Abilities, "More")
		rows[i].Kind = "spoilt.too"
	}
	for _, k := range kinds() {
		if got, ok := b.Row(k.name); !ok || !slices.Equal(got.Abilities, strings.Fields(k.has)) {
			t.Errorf("P10.5: %s of the other kit: %v", k.name, got)
		}
		if got, ok := a.Row(k.name); !ok || !slices.Equal(got.Abilities, strings.Fields(k.has)) {
			t.Errorf("P10.5: %s of the kit: %v", k.name, got)
		}
	}
}

// abilities asks by two-valued assertions.
func abilities(n api.Node) string {
	var names []string
	ask := func(name string, ok bool) {
		if ok {
			names = append(names, name)
		}
	}
	_, ok := n.(api.Literal)
	ask("Literal", ok)
	_, ok = n.(api.Strict)
	ask("Strict", ok)
	_, ok = n.(api.Lazy)
	ask("Lazy", ok)
	_, ok = n.(api.Binder)
	ask("Binder", ok)
	_, ok = n.(api.User)
	ask("User", ok)
	_, ok = n.(api.Caller)
	ask("Caller", ok)
	_, ok = n.(api.Pure)
	ask("Pure", ok)
	_, ok = n.(api.Total)
	ask("Total", ok)
	_, ok = n.(api.Sorted)
	ask("Sorted", ok)
	_, ok = n.(api.Sugar)
	ask("Sugar", ok)
	_, ok = n.(api.Framed)
	ask("Framed", ok)
	_, ok = n.(api.Wrapped)
	ask("Wrapped", ok)
	_, ok = n.(api.Origin)
	ask("Origin", ok)
	_, ok = n.(api.Opaque)
	ask("Opaque", ok)
	return strings.Join(names, " ")
}

// holds fails, unless a node is of a kind, and all that it tells is as the table says.
func holds(t *testing.T, k kind, n api.Node, kids ...api.Node) {
	t.Helper()
	if n.Kind() != k.name || n.Num() != 0 || n.Text() != "" || n.Len() != len(kids) {
		t.Fatalf("P10.1: %s: %s, %d, %q, %d kids", k.name, n.Kind(), n.Num(), n.Text(), n.Len())
	}
	for i, kid := range kids {
		if n.Kid(i) != kid {
			t.Errorf("P10.5: %s: another node as kid %d", k.name, i)
		}
	}
	for _, i := range []int{-1, len(kids), len(kids) + 1, math.MinInt, math.MaxInt} {
		if n.Kid(i) != nil {
			t.Errorf("P10.5: %s: a kid %d", k.name, i)
		}
	}
	if got := abilities(n); got != k.has {
		t.Errorf("P10.1: %s: %s, not %s", k.name, got, k.has)
	}
	if x, ok := n.(api.Strict); ok && x.Op() != k.name {
		t.Errorf("P10.1: %s: the operation %s", k.name, x.Op())
	}
	if x, ok := n.(api.Pure); !ok || !x.Quiet() {
		t.Errorf("P10.1: %s is not quiet", k.name)
	}
	if x, ok := n.(api.Total); ok && !x.Sure() {
		t.Errorf("P10.1: %s is not sure", k.name)
	}
	if x, ok := n.(api.Sorted); !ok || !like(x.Signs(), k.signs()) {
		t.Errorf("P10.1: %s: other sorts than %v", k.name, k.signs())
	}
}

func nodesOf(hs []*node.Handle) []api.Node {
	var l []api.Node
	for _, h := range hs {
		l = append(l, h.Node())
	}
	return l
}

func TestNodes(t *testing.T) {
	for _, k := range kinds() {
		for _, n := range []int{k.min, max(k.max, 1), max(k.max, 7)} {
			if k.max >= 0 && n > k.max {
				continue
			}
			hs := letters(t, n)
			if n > 0 {
				hs[0] = wrapped(t, hs[0])
			}
			kids := nodesOf(hs)
			h := made(t, k.name, hs...)
			holds(t, k, h.Node(), kids...)
			if got := strings.Join(node.Abilities(h), " "); got != k.has {
				t.Errorf("P10.1: %s: %s, not %s", k.name, got, k.has)
			}
			if h.Node() == made(t, k.name, hs...).Node() || h.Node() != h.Node() {
				t.Errorf("P10.1: %s: a node is itself, and no other one", k.name)
			}
			clear(hs)
			holds(t, k, h.Node(), kids...)
		}
	}
}

func TestHandles(t *testing.T) {
	l := letters(t, 2)
	h := made(t, "words.join", l[0], made(t, "words.all", l...))
	w := wrapped(t, h)
	if core, e := node.Core(w); e != nil || core.Node() != h.Node() || w.Node().Kid(1) != h.Node().Kid(1) {
		t.Errorf("P10.1: a wrapper around words.join: %v", e)
	}
	if e := node.Must(w, "Strict"); e != nil {
		t.Errorf("P10.1: a wrapped words.join is Strict: %v", e)
	}
	var lack api.Lacking
	if e := node.Must(h, "Total"); !errors.As(e, &lack) {
		t.Errorf("P10.1: words.join is not Total: %v", e)
	} else if kind, ability := lack.Lacks(); kind != "words.join" || ability != "Total" {
		t.Errorf("P10.1: %s lacks %s", kind, ability)
	}
	a, b := api.Tree{Kind: "base.text", Text: "a"}, api.Tree{Kind: "base.text", Text: "b"}
	want := api.Tree{Kind: "words.join", Kids: []api.Tree{a, {Kind: "words.all", Kids: []api.Tree{a, b}}}}
	if x, e := node.Plain(w); e != nil || !reflect.DeepEqual(x, want) {
		t.Errorf("P10.1: %v, %v", x, e)
	}
}

func TestSignsAreTheCallersOwn(t *testing.T) {
	for _, k := range kinds() {
		n := made(t, k.name, letters(t, k.min)...).Node().(api.Sorted)
		a, b := n.Signs(), n.Signs()
		a.Out.Of = append(a.Out.Of, api.Sort{Name: "spoilt"})
		_ = append(a.Ins, api.Sort{Name: "more"})
		for i := range a.Ins {
			_ = append(a.Ins[i].Of, api.Sort{Name: "more"})
			a.Ins[i] = api.Sort{Name: "spoilt"}
		}
		if !like(b, k.signs()) || !like(n.Signs(), k.signs()) {
			t.Errorf("P10.5: %s: signatures share memory", k.name)
		}
	}
}

func TestRefusedNodes(t *testing.T) {
	refused := func(what string, want api.Errno, x api.Tree, kids ...*node.Handle) {
		t.Helper()
		if h, e := words.Kit().Make(x, kids...); h != nil || fault.Code(e) != want {
			t.Errorf("P10.1: %s, %s: %v, not %d", x.Kind, what, e, want)
		}
	}
	for _, k := range kinds() {
		kids := letters(t, max(k.min, 1))
		if k.max >= 0 {
			refused("no kids", api.ErrCount, leaf(k.name))
			refused("kids of the tree alone", api.ErrCount, api.Tree{Kind: k.name, Kids: make([]api.Tree, k.min)})
			refused("a kid too few", api.ErrCount, leaf(k.name), kids[1:]...)
			refused("a kid too many", api.ErrCount, leaf(k.name), letters(t, k.max+1)...)
			refused("many kids", api.ErrCount, leaf(k.name), letters(t, 1000)...)
		}
		for _, n := range []int64{1, -1, lowest, highest} {
			refused("a Num", api.ErrFit, api.Tree{Kind: k.name, Num: n}, kids...)
		}
		for _, s := range []string{"x", " ", "\x00", "1"} {
			refused("a Text", api.ErrFit, api.Tree{Kind: k.name, Text: s}, kids...)
		}
		refused("a long Text", api.ErrLong, api.Tree{Kind: k.name, Text: strings.Repeat("x", 16385)}, kids...)
		kids[len(kids)-1] = nil
		refused("no handle", api.ErrArg, leaf(k.name), kids...)
		kids[len(kids)-1] = new(node.Handle)
		refused("the zero handle", api.ErrArg, api.Tree{Kind: k.name, Num: 1}, kids...)
	}
}

func TestSpeltOfNone(t *testing.T) {
	for _, n := range []api.Node{made(t, "words.all").Node(), made(t, "words.all", []*node.Handle{}...).Node()} {
		got := spelt(t, n)
		if got.Kind() != "base.text" || got.Num() != 0 || got.Text() != "" || got.Len() != 0 || abilities(got) != "Literal Pure Total Sorted" {
			t.Fatalf("P10.3: of no kids: %s, %s", written(got), abilities(got))
		}
		if v, ok := got.(api.Literal).Worth().(api.Text); !ok || v != "" {
			t.Errorf("P10.3: of no kids: worth %v", got.(api.Literal).Worth())
		}
	}
}

func TestSpeltOfMany(t *testing.T) {
	join := kinds()[0]
	for _, n := range []int{1, 2, 3, 4, 5, 17, 64, 1023, 1024} {
		hs := letters(t, n)
		hs[n/2] = wrapped(t, hs[n/2])
		got := spelt(t, made(t, "words.all", hs...).Node())
		for i := n - 1; i > 0; i-- {
			holds(t, join, got, got.Kid(0), hs[i].Node())
			got = got.Kid(0)
		}
		if got != hs[0].Node() {
			t.Errorf("P10.3: of %d kids: another node as the innermost one", n)
		}
	}
	one := said(t, "x")
	n := spelt(t, made(t, "words.all", slices.Repeat([]*node.Handle{one}, 200000)...).Node())
	deep := 0
	for ; n != one.Node(); n = n.Kid(0) {
		deep++
	}
	if deep != 199999 {
		t.Errorf("P10.3: a long one is %d deep", deep)
	}
}

func TestSpeltText(t *testing.T) {
	all := func(kids ...*node.Handle) *node.Handle { return made(t, "words.all", kids...) }
	l := letters(t, 4)
	for _, c := range []struct {
		sugar *node.Handle
		want  string
	}{
		{all(), `""`},
		{all(l[0]), `"a"`},
		{all(l[1], l[0]), `join("b", "a")`},
		{all(l[0], l[1], l[2]), `join(join("a", "b"), "c")`},
		{all(l...), `join(join(join("a", "b"), "c"), "d")`},
		{all(all()), "all"},
		{all(all(l[0])), `all("a")`},
		{all(all(l[0], l[1]), l[2]), `join(all("a", "b"), "c")`},
		{all(l[2], all(l[0], l[1])), `join("c", all("a", "b"))`},
	} {
		for range 2 {
			if got := written(spelt(t, c.sugar.Node())); got != c.want {
				t.Errorf("P10.3: %s: %s, not %s", written(c.sugar.Node()), got, c.want)
			}
		}
	}
}

func text(s string) api.Plain { return api.Plain{Kind: api.PText, Text: s} }

func whole(n int64) api.Plain { return api.Plain{Kind: api.PInt, Num: n} }

// wanted is what is wanted of an operation: a value, or a fault's number.
func wanted(t *testing.T, promise, op string, want any, args ...api.Plain) {
	t.Helper()
	v, e, said := words.Work(op, args...)
	if code, ok := want.(api.Errno); ok {
		if v != nil || e != code || said != "" {
			t.Errorf("%s: %.20s %.60q: %.60q, %d, %q, not error %d", promise, op, fmt.Sprint(args), fmt.Sprint(v), e, said, code)
		}
	} else if v != want || e != api.OK || said != "" {
		t.Errorf("%s: %s %.60q: %.60q, %d, %q, not %.60q", promise, op, fmt.Sprint(args), fmt.Sprint(v), e, said, fmt.Sprint(want))
	}
}

// some are short texts, each letter of which is a byte.
func some() []string {
	l := []string{""}
	for from, n := 0, 0; n < 4; n++ {
		to := len(l)
		for _, s := range l[from:to] {
			for _, b := range []string{"a", "b", "\x00", "\xff"} {
				l = append(l, s+b)
			}
		}
		from = to
	}
	return append(l, "banana", "nan", "ana", "\u00e9", "\xc3", "\xa9", "e\u0301", "\ufffd", "A", "5", "-5", " ", "ab ", "\n")
}

func TestOfOneText(t *testing.T) {
	for _, s := range append(some(), strings.Repeat("x", 65535), strings.Repeat("\xff", 65534)) {
		wanted(t, "P10.2", "words.size", api.Int(len(s)), text(s))
	}
}

func TestOfTwoTexts(t *testing.T) {
	for _, a := range some() {
		for _, b := range some() {
			x, y := []byte(a), []byte(b)
			wanted(t, "P10.2", "words.join", api.Text(bytes.Join([][]byte{x, y}, nil)), text(a), text(b))
			wanted(t, "P10.2", "words.less", api.Truth(bytes.Compare(x, y) < 0), text(a), text(b))
			at := api.Int(-1)
			for i := len(x) - len(y); i >= 0; i-- {
				if bytes.HasPrefix(x[i:], y) {
					at = api.Int(i)
				}
			}
			wanted(t, "P10.2", "words.find", at, text(a), text(b))
		}
	}
}

func TestLongTexts(t *testing.T) {
	long := strings.Repeat("x", 65535)
	for _, n := range []int{0, 1, 2, 255, 32767, 32768, 65533, 65534, 65535} {
		a := long[:n]
		wanted(t, "P10.2", "words.join", api.Text(long), text(a), text(long[n:]))
		if n > 0 {
			wanted(t, "P10.2", "words.join", api.Text(long[1:]), text(a[1:]), text(long[n:]))
			wanted(t, "P10.2", "words.join", api.ErrLong, text(a), text(long[n-1:]))
			wanted(t, "P10.2", "words.join", api.ErrLong, text(long), text(a))
			wanted(t, "P10.2", "words.find", api.Int(n-1), text(a[1:]+"y"+long[n:]), text("y"+long[n:]))
		}
	}
	wanted(t, "P10.2", "words.join", api.ErrLong, text(long), text(long))
	wanted(t, "P10.2", "words.find", api.Int(-1), text(long), text(long[1:]+"y"))
	wanted(t, "P10.2", "words.find", api.Int(0), text(long), text(long))
	wanted(t, "P10.2", "words.find", api.Int(-1), text(long[1:]), text(long))
	wanted(t, "P10.2", "words.less", api.Truth(true), text(long[1:]), text(long))
	wanted(t, "P10.2", "words.less", api.Truth(false), text(long), text(long))
	wanted(t, "P10.2", "words.cut", api.Text(long), text(long), whole(0), whole(65535))
	wanted(t, "P10.2", "words.cut", api.Text(""), text(long), whole(65535), whole(65535))
	wanted(t, "P10.2", "words.cut", api.ErrBounds, text(long), whole(0), whole(65536))
	wanted(t, "P10.2", "words.num", api.ErrNumber, text(long))
	wanted(t, "P10.2", "words.num", api.ErrNumber, text(strings.Repeat("1", 65535)))
	wanted(t, "P10.2", "words.num", api.ErrNumber, text(strings.Repeat("0", 65535)))
	wanted(t, "P10.2", "words.num", api.ErrNumber, text("-"+strings.Repeat("9", 65534)))
}

func TestCut(t *testing.T) {
	numbers := []int64{lowest, lowest + 1, -1 << 32, -7, -2, -1, 0, 1, 2, 3, 4, 5, 6, 7, 8, 1 << 32, 1<<32 + 1, highest - 1, highest}
	for _, s := range []string{"", "a", "ab", "banana", "\xff\x00\xfe", "\u00e9\u00e9"} {
		for _, from := range numbers {
			for _, to := range numbers {
				if from < 0 || to < from || to > int64(len(s)) {
					wanted(t, "P10.2", "words.cut", api.ErrBounds, text(s), whole(from), whole(to))
					continue
				}
				var want []byte
				for i := from; i < to; i++ {
					want = append(want, s[i])
				}
				wanted(t, "P10.2", "words.cut", api.Text(want), text(s), whole(from), whole(to))
			}
		}
	}
}

func TestRep(t *testing.T) {
	for _, size := range []int{1, 2, 3, 5, 7, 255, 256, 257, 21845, 21846, 32767, 32768, 65534, 65535} {
		s := strings.Repeat("ab\xff\x00", size)[:size]
		most := int64(65535 / size)
		for _, n := range []int64{0, 1, 2, 3, most - 1, most, most + 1, most + 2, 65535, 65536, 65537, 1 << 31, 1 << 32, 1<<32 + 1, 1 << 48, 1 << 62, 1<<62 + 1, 1<<63 - 1<<16, highest - 1, highest} {
			if n > most {
				wanted(t, "P10.2", "words.rep", api.ErrLong, text(s), whole(n))
				continue
			}
			var want []byte
			for range n {
				want = append(want, s...)
			}
			wanted(t, "P10.2", "words.rep", api.Text(want), text(s), whole(n))
		}
		for _, n := range []int64{-1, -2, -65536, -1 << 32, lowest + 1, lowest} {
			wanted(t, "P10.2", "words.rep", api.ErrBounds, text(s), whole(n))
		}
	}
	for _, n := range []int64{0, 1, 65535, 65536, 1 << 32, 1 << 62, highest} {
		wanted(t, "P10.2", "words.rep", api.Text(""), text(""), whole(n))
	}
	wanted(t, "P10.2", "words.rep", api.ErrBounds, text(""), whole(-1))
	wanted(t, "P10.2", "words.rep", api.ErrBounds, text(""), whole(lowest))
}

func TestNumbersAndTexts(t *testing.T) {
	numbers := []int64{lowest, lowest + 1, highest, highest - 1}
	for n := int64(-1100); n <= 1100; n++ {
		numbers = append(numbers, n)
	}
	for n := int64(10); n < highest/10; n *= 10 {
		numbers = append(numbers, n-1, n, n+1, -n-1, -n, -n+1)
	}
	for _, n := range numbers {
		s := big.NewInt(n).String()
		wanted(t, "P10.2", "words.of", api.Text(s), whole(n))
		wanted(t, "P10.2", "words.num", api.Int(n), text(s))
		for _, none := range []string{"0" + s, "+" + s, " " + s, s + " ", s + "\n", "\x00" + s, s + "\x00", s + ".", s + ".0", s + "e0", s + "_", "--" + s, "0x" + s, s + s + s + s + s + "99999999999999999999"} {
			if none != "0" {
				wanted(t, "P10.2", "words.num", api.ErrNumber, text(none))
			}
		}
	}
	for _, none := range []string{"", "-", "+", "-0", "+0", "00", "-00", "05", "-05", "+5", "--5", "- 5", "5-", "1_000", "1,000", "0x10", "0b1", "0o7", "1e3", "1.0", "a", "-a", "ff", "unit", "\xff", "\u0665", "\uff15", "9223372036854775808", "-9223372036854775809", "9223372036854775810", "10000000000000000000", "18446744073709551615", "18446744073709551616", "18446744073709551621", "99999999999999999999", "-99999999999999999999", "09223372036854775807", "-09223372036854775808", "340282366920938463463374607431768211461"} {
		wanted(t, "P10.2", "words.num", api.ErrNumber, text(none))
	}
}

func TestExamples(t *testing.T) {
	for _, c := range []struct {
		op   string
		args []api.Plain
		want any
	}{
		{"join", []api.Plain{text("a"), text("b")}, api.Text("ab")}, {"size", []api.Plain{text("\xff\x00")}, api.Int(2)}, {"size", []api.Plain{text("")}, api.Int(0)},
		{"cut", []api.Plain{text("abc"), whole(1), whole(2)}, api.Text("b")}, {"cut", []api.Plain{text("abc"), whole(3), whole(3)}, api.Text("")}, {"cut", []api.Plain{text("abc"), whole(2), whole(1)}, api.ErrBounds}, {"cut", []api.Plain{text("abc"), whole(0), whole(4)}, api.ErrBounds},
		{"find", []api.Plain{text("banana"), text("an")}, api.Int(1)}, {"find", []api.Plain{text("a"), text("b")}, api.Int(-1)}, {"find", []api.Plain{text(""), text("")}, api.Int(0)},
		{"rep", []api.Plain{text("ab"), whole(2)}, api.Text("abab")}, {"rep", []api.Plain{text("ab"), whole(-1)}, api.ErrBounds}, {"rep", []api.Plain{text("ab"), whole(40000)}, api.ErrLong}, {"rep", []api.Plain{text(""), whole(1 << 62)}, api.Text("")},
		{"of", []api.Plain{whole(-5)}, api.Text("-5")}, {"num", []api.Plain{text("-5")}, api.Int(-5)}, {"num", []api.Plain{text("05")}, api.ErrNumber}, {"num", []api.Plain{text("+5")}, api.ErrNumber}, {"num", []api.Plain{text("")}, api.ErrNumber}, {"num", []api.Plain{text("9223372036854775808")}, api.ErrNumber},
		{"join", []api.Plain{text("a"), whole(1)}, api.ErrKind}, {"cut", []api.Plain{text("a"), text("b"), whole(-1)}, api.ErrKind},
	} {
		wanted(t, "P10.2", "words."+c.op, c.want, c.args...)
	}
}

// mayNot are plain values that may not be.
func mayNot() []api.Plain {
	ring := []api.Plain{{Kind: api.PList}}
	ring[0].List = ring
	return []api.Plain{{}, {Kind: -1}, {Kind: 6}, {Kind: api.PTruth, Num: 2}, {Kind: api.PInt, Num: 1, Text: "x"}, {Kind: api.PText, Text: "x", Num: 1}, {Kind: api.PText, List: make([]api.Plain, 1)}, {Kind: api.PText, Text: strings.Repeat("x", 65536)}, {Kind: api.PList, List: ring}, {Kind: api.PList, List: make([]api.Plain, 1)}}
}

// others are values of other sorts than the one that is named.
func others(sort string) []api.Plain {
	l := []api.Plain{{Kind: api.PUnit}, {Kind: api.PTruth}, {Kind: api.PTruth, Num: 1}, {Kind: api.PList}, {Kind: api.PList, List: []api.Plain{whole(5)}}, {Kind: api.PList, List: []api.Plain{text("5")}}}
	if sort == "text" {
		return append(l, whole(0), whole(5), whole(-1), whole(lowest))
	}
	return append(l, text(""), text("5"), text("x"))
}

func TestWorkRefused(t *testing.T) {
	for _, op := range []string{"", "join", "words", "words.", ".join", "words.Join", "words.join ", " words.join", "words.all", "words.text", "base.text", "num.less", "list.join", strings.Repeat("words.join", 1<<17)} {
		for _, args := range [][]api.Plain{nil, {text("a")}, {text("a"), text("b")}, {text("a"), whole(0), whole(1)}, mayNot(), others("text")} {
			wanted(t, "P10.4", op, api.ErrArg, args...)
		}
	}
	for _, k := range kinds() {
		if !k.strict() {
			continue
		}
		for n := range 6 {
			if n == k.min {
				continue
			}
			wanted(t, "P10.4", k.name, api.ErrCount, slices.Repeat([]api.Plain{text("5")}, n)...)
			wanted(t, "P10.4", k.name, api.ErrCount, slices.Repeat([]api.Plain{{}}, n)...)
			wanted(t, "P10.4", k.name, api.ErrCount, slices.Repeat([]api.Plain{{Kind: api.PUnit}}, n)...)
		}
		wanted(t, "P10.4", k.name, api.ErrCount, make([]api.Plain, 1<<20)...)
	}
}

func TestWorkOfOtherValues(t *testing.T) {
	for _, k := range kinds() {
		if !k.strict() {
			continue
		}
		for at, in := range strings.Fields(k.ins) {
			for _, p := range mayNot() {
				args := k.right()
				args[at] = p
				wanted(t, "P10.4", k.name, api.ErrArg, args...)
				args[(at+1)%k.min] = api.Plain{Kind: api.PUnit}
				args[at] = p
				wanted(t, "P10.4", k.name, api.ErrArg, args...)
			}
			for _, p := range others(in) {
				args := k.right()
				args[at] = p
				wanted(t, "P10.5", k.name, api.ErrKind, args...)
			}
		}
		wanted(t, "P10.5", k.name, api.ErrKind, slices.Repeat([]api.Plain{{Kind: api.PUnit}}, k.min)...)
	}
}

// TestOtherSortsFirst has operations with something else amiss, too.
func TestOtherSortsFirst(t *testing.T) {
	long, unit := text(strings.Repeat("x", 65535)), api.Plain{Kind: api.PUnit}
	for _, c := range []struct {
		op   string
		args []api.Plain
	}{
		{"join", []api.Plain{long, {Kind: api.PList}}}, {"join", []api.Plain{whole(1), long}},
		{"cut", []api.Plain{unit, whole(-1), whole(-2)}}, {"cut", []api.Plain{text(""), whole(5), unit}}, {"cut", []api.Plain{text(""), unit, whole(5)}}, {"cut", []api.Plain{text("abc"), text("1"), text("2")}},
		{"rep", []api.Plain{unit, whole(-1)}}, {"rep", []api.Plain{whole(5), whole(highest)}}, {"rep", []api.Plain{long, long}}, {"rep", []api.Plain{text(""), text("2")}},
		{"num", []api.Plain{whole(5)}}, {"of", []api.Plain{text("5")}}, {"find", []api.Plain{text("5"), whole(5)}}, {"less", []api.Plain{whole(1), whole(2)}},
	} {
		wanted(t, "P10.5", "words."+c.op, api.ErrKind, c.args...)
	}
}

func TestNothingIsChanged(t *testing.T) {
	fresh := func() []api.Plain { return []api.Plain{text("banana"), whole(1), whole(2), text("spare")} }
	args := fresh()
	texts := []api.Plain{text("banana"), text("an"), text("spare")}
	for _, k := range kinds() {
		_, _, _ = words.Work(k.name, args[:k.min]...)
		_, _, _ = words.Work(k.name, texts[:min(k.min, 2)]...)
	}
	list := []api.Plain{{Kind: api.PList, List: fresh()}, text("x")}
	_, _, _ = words.Work("words.join", list...)
	if !reflect.DeepEqual(args, fresh()) || !reflect.DeepEqual(texts, []api.Plain{text("banana"), text("an"), text("spare")}) || !reflect.DeepEqual(list[0].List, fresh()) {
		t.Errorf("P10.5: arguments are changed: %v, %v, %v", args, texts, list)
	}
	hs := append(letters(t, 3), nil)[:3]
	before := slices.Clone(hs)
	n := made(t, "words.all", hs...).Node()
	_ = n.(api.Sugar).Spelt()
	if !slices.Equal(hs, before) || hs[:4][3] != nil {
		t.Errorf("P10.5: kids are changed")
	}
}

func TestSeveralGoroutines(t *testing.T) {
	k := words.Kit()
	kids := letters(t, 3)
	n := made(t, "words.all", kids...).Node()
	var all sync.WaitGroup
	for i := range 8 {
		all.Go(func() {
			for j := range 200 {
				s := strings.Repeat("x", i)
				wanted(t, "P10.2", "words.rep", api.Text(strings.Repeat(s, j)), text(s), whole(int64(j)))
				if h, e := k.Make(leaf("words.all"), kids[:2]...); e != nil || written(h.Node().(api.Sugar).Spelt()) != `join("a", "b")` {
					t.Errorf("P10.3: at the same time: %v", e)
				}
				if written(n.(api.Sugar).Spelt()) != `join(join("a", "b"), "c")` || !like(n.(api.Sorted).Signs(), kinds()[8].signs()) {
					t.Errorf("P10.5: at the same time: a node tells something else")
				}
			}
		})
	}
	all.Wait()
}
