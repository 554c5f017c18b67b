// The tests of P16.1 to P16.7, through the package's face; kits of the tests' own make their nodes as the program's do.
package plug_test

import (
	"errors"
	"fmt"
	"reflect"
	"slices"
	"strconv"
	"strings"
	"sync"
	"testing"

	"espalier/api"
	"espalier/bind"
	"espalier/call"
	"espalier/fault"
	"espalier/flow"
	"espalier/guard"
	"espalier/kit"
	"espalier/list"
	"espalier/node"
	"espalier/num"
	"espalier/plug"
	"espalier/truth"
	"espalier/words"
)

// reader reads trees as these tests write them: `num.add($x, 5)`, a Text behind a colon: `bind.let:x(1, $x)`.
type reader struct{ rest string }

func parse(text string) api.Tree {
	r := reader{text}
	t := r.tree()
	if r.rest != "" {
		panic("left: " + r.rest)
	}
	return t
}

func (r *reader) word(ends string) string {
	i := strings.IndexAny(r.rest, ends)
	if i < 0 {
		i = len(r.rest)
	}
	word := r.rest[:i]
	r.rest = r.rest[i:]
	return word
}

func (r *reader) tree() api.Tree {
	word := r.word("(,)")
	kind, text, _ := strings.Cut(word, ":")
	t := api.Tree{Kind: kind, Text: text}
	if n, e := strconv.ParseInt(word, 10, 64); e == nil {
		t = api.Tree{Kind: "base.int", Num: n}
	} else if use, ok := strings.CutPrefix(word, "$"); ok {
		t = api.Tree{Kind: "base.var", Text: use}
	} else if slices.Contains([]string{"yes", "no", "unit", "text"}, word) {
		t = api.Tree{Kind: "base." + word}
	}
	if !strings.HasPrefix(r.rest, "(") {
		return t
	}
	r.rest = r.rest[1:]
	for !strings.HasPrefix(r.rest, ")") {
		t.Kids = append(t.Kids, r.tree())
		r.rest = strings.TrimPrefix(r.rest, ", ")
	}
	r.rest = r.rest[1:]
	return t
}

// sorted reads a sort, `list int`.
func sorted(text string) api.Sort {
	words := strings.Fields(text)
	s := api.Sort{Name: words[len(words)-1]}
	for range len(words) - 1 {
		s = api.Sort{Name: "list", Of: []api.Sort{s}}
	}
	return s
}

// signs reads a signature, `list a, int > a`.
func signs(text string) api.Signature {
	ins, out, _ := strings.Cut(text, ">")
	s := api.Signature{Out: sorted(out)}
	for in := range strings.SplitSeq(ins, ",") {
		if strings.TrimSpace(in) != "" {
			s.Ins = append(s.Ins, sorted(in))
		}
	}
	return s
}

// plugin is one with a template.
func plugin(kind, template, signature, has string) api.Plugin {
	s := signs(signature)
	return api.Plugin{Kind: kind, Arity: len(s.Ins), Template: parse(template), Signature: s, Has: strings.Fields(has)}
}

func neither() api.Plugin {
	return plugin("my.neither", "truth.not(truth.or($1, $2))", "truth, truth > truth", "Pure Total Sorted Sugar")
}

// kits are all of the program's but the base.
func kits() []*kit.Kit {
	return []*kit.Kit{num.Kit(), truth.Kit(), words.Kit(), list.Kit(), bind.Kit(), call.Kit(), flow.Kit(), guard.Kit()}
}

func shelf(t *testing.T, ks ...*kit.Kit) *plug.Shelf {
	t.Helper()
	s, e := plug.New(ks...)
	if e != nil || s == nil {
		t.Fatalf("P16.1: %v", e)
	}
	return s
}

// laden is a shelf of all kits with plugins.
func laden(t *testing.T, ps ...api.Plugin) *plug.Shelf {
	t.Helper()
	s := shelf(t, kits()...)
	for _, p := range ps {
		if e := s.Add(p); e != nil {
			t.Fatalf("P16.2: %s: %v", p.Kind, e)
		}
	}
	return s
}

func leaf(kind string) api.Tree { return api.Tree{Kind: kind} }

func basic(x api.Tree) *node.Handle {
	h, _ := node.Make(x)
	return h
}

func number(n int64) *node.Handle { return basic(api.Tree{Kind: "base.int", Num: n}) }

func units(n int) []*node.Handle {
	return slices.Repeat([]*node.Handle{basic(leaf("base.unit"))}, n)
}

func wrapped(h *node.Handle) *node.Handle {
	w, _ := node.Wrap(h, api.Place{Fun: "f", Path: []int{1}})
	return w
}

func made(t *testing.T, s *plug.Shelf, x api.Tree, kids ...*node.Handle) api.Node {
	t.Helper()
	h, e := s.Make(x, kids...)
	if e != nil || h.Node() == nil {
		t.Fatalf("P16.5: %s of %d kids: %v", x.Kind, len(kids), e)
	}
	return h.Node()
}

func grown(t *testing.T, s *plug.Shelf, text string) api.Node {
	t.Helper()
	h, e := s.Tree(parse(text))
	if e != nil || h.Node() == nil {
		t.Fatalf("P16.6: %s: %v", text, e)
	}
	return h.Node()
}

func plain(t *testing.T, n api.Node) api.Tree {
	t.Helper()
	x, e := node.Plain(node.Hold(n))
	if e != nil {
		t.Fatal(e)
	}
	return x
}

func abilities(n api.Node) string {
	return strings.Join(node.Abilities(node.Hold(n)), " ")
}

// told fails, unless an error is that number and tells nothing else; of OK: unless there is none.
func told(t *testing.T, promise, what string, e error, want api.Errno) {
	t.Helper()
	var l api.Located
	if want == api.OK && e != nil || want != api.OK && (e == nil || fault.Code(e) != want || errors.As(e, &l)) {
		t.Errorf("%s: %s: %v, not error %d alone", promise, what, e, want)
	}
}

// toldAt fails, unless an error is that number, at a place of no function, and tells nothing else.
func toldAt(t *testing.T, promise, what string, e error, want api.Errno, path ...int) {
	t.Helper()
	if !fault.Same(e, fault.At(want, api.Place{Path: path})) {
		t.Errorf("%s: %s: %v, not error %d at %v", promise, what, e, want, path)
	}
}

func TestNew(t *testing.T) {
	base := kit.Base()
	for what, c := range map[string]struct {
		kits []*kit.Kit
		want api.Errno
	}{
		"none": {nil, api.OK}, "one": {[]*kit.Kit{num.Kit()}, api.OK}, "all": {kits(), api.OK},
		"nil": {[]*kit.Kit{nil}, api.ErrArg}, "zero": {[]*kit.Kit{{}}, api.ErrArg}, "nil, last": {append(kits(), nil), api.ErrArg}, "two nil": {[]*kit.Kit{nil, nil}, api.ErrArg},
		"twice": {[]*kit.Kit{num.Kit(), num.Kit()}, api.ErrTwice}, "twice the same": {[]*kit.Kit{base, base}, api.ErrTwice}, "twice, apart": {append(kits(), truth.Kit()), api.ErrTwice},
		"base": {[]*kit.Kit{base}, api.ErrTwice}, "base behind": {append(kits(), base), api.ErrTwice},
		"twice, then nil": {[]*kit.Kit{num.Kit(), num.Kit(), nil}, api.ErrArg}, "base, then zero": {[]*kit.Kit{base, {}}, api.ErrArg},
	} {
		s, e := plug.New(c.kits...)
		told(t, "P16.1", what, e, c.want)
		if (s == nil) != (e != nil) {
			t.Errorf("P16.1: %s: a shelf beside %v", what, e)
		}
	}
}

func TestNoShelf(t *testing.T) {
	for what, s := range map[string]*plug.Shelf{"nil": nil, "zero": {}} {
		for _, p := range []api.Plugin{neither(), {}, {Kind: "my.five", Like: "base.int"}} {
			told(t, "P0.1", what+": Add", s.Add(p), api.ErrArg)
		}
		if r, ok := s.Row("base.int"); ok || !reflect.DeepEqual(r, api.Row{}) {
			t.Errorf("P0.1: %s: a row", what)
		}
		if l := s.Kinds(); len(l) != 0 {
			t.Errorf("P0.1: %s: kinds", what)
		}
		for _, x := range []api.Tree{leaf("base.unit"), leaf("no.body"), {}, leaf("A.b")} {
			h, e := s.Make(x, nil)
			told(t, "P0.1", what+": Make", e, api.ErrArg)
			if h != nil {
				t.Errorf("P0.1: %s: Make gives a handle", what)
			}
			h, e = s.Tree(x)
			told(t, "P0.1", what+": Tree", e, api.ErrArg)
			if h != nil {
				t.Errorf("P0.1: %s: Tree gives a handle", what)
			}
		}
	}
}

func TestKindsAndRows(t *testing.T) {
	s := shelf(t, truth.Kit(), num.Kit())
	var want []api.Row
	for _, k := range []*kit.Kit{kit.Base(), truth.Kit(), num.Kit()} {
		want = append(want, k.Rows()...)
	}
	for _, p := range []api.Plugin{
		neither(), {Kind: "my.plus", Like: "num.add"}, plugin("a.none", "unit", "> unit", ""), plugin("my.some", "num.add($3, $1)", "int, b, int > int", "Pure Sugar"), {Kind: "your.five", Like: "base.int"},
	} {
		if e := s.Add(p); e != nil {
			t.Fatal(p.Kind, e)
		}
	}
	want = append(want,
		api.Row{Kind: "my.neither", Min: 2, Max: 2, Abilities: []string{"Pure", "Total", "Sorted", "Sugar"}},
		api.Row{Kind: "my.plus", Min: 2, Max: 2, Abilities: []string{"Strict", "Pure", "Sorted"}},
		api.Row{Kind: "a.none"},
		api.Row{Kind: "my.some", Min: 3, Max: 3, Abilities: []string{"Pure", "Sugar"}},
		api.Row{Kind: "your.five", Num: true, Abilities: []string{"Literal", "Pure", "Total", "Sorted"}})
	var kinds []string
	for _, r := range want {
		kinds = append(kinds, r.Kind)
		got, ok := s.Row(r.Kind)
		if !ok || fmt.Sprint(got) != fmt.Sprint(r) {
			t.Errorf("P16.4: %v, not %v", got, r)
		}
	}
	if got := s.Kinds(); !slices.Equal(got, kinds) {
		t.Errorf("P16.4: %v, not %v", got, kinds)
	}
	for _, none := range []string{"", "my", "my.", "my.none", "list.of", "base", "base.var ", "no.body", "neither", "my.neither.x", "MY.NEITHER"} {
		if r, ok := s.Row(none); ok || !reflect.DeepEqual(r, api.Row{}) {
			t.Errorf("P16.4: %q: %v, %v", none, r, ok)
		}
	}
}

func TestKindsAndRowsAreTheCallersOwn(t *testing.T) {
	s := laden(t, neither(), api.Plugin{Kind: "my.plus", Like: "num.add"})
	kinds := s.Kinds()
	kinds[0] = "spoilt"
	_ = append(kinds[:3], "spoilt")
	for _, kind := range []string{"base.int", "num.add", "my.neither", "my.plus"} {
		r, _ := s.Row(kind)
		want := slices.Clone(r.Abilities)
		r.Abilities[0] = "Spoilt"
		_ = append(r.Abilities[:1], "Spoilt")
		if again, _ := s.Row(kind); !slices.Equal(again.Abilities, want) {
			t.Errorf("P16.7: rows of %s share memory", kind)
		}
	}
	if again := s.Kinds(); again[0] != "base.unit" || slices.Contains(again, "spoilt") {
		t.Errorf("P16.7: lists of kinds share memory")
	}
}

func TestMakeKnown(t *testing.T) {
	s := laden(t, neither(), api.Plugin{Kind: "my.plus", Like: "num.add"}, api.Plugin{Kind: "my.map", Like: "list.map"}, plugin("my.unit", "unit", "> unit", "Sugar"))
	five := number(5)
	long := strings.Repeat("x", 16385)
	for _, c := range []struct {
		tree api.Tree
		kids []*node.Handle
		want api.Errno
	}{
		{leaf("base.unit"), nil, api.OK}, {leaf("base.unit"), units(1), api.ErrCount}, {api.Tree{Kind: "base.var", Text: "1x"}, nil, api.ErrFit},
		{leaf("num.add"), units(2), api.OK}, {leaf("num.add"), units(3), api.ErrCount}, {leaf("num.add"), []*node.Handle{five, nil}, api.ErrArg}, {leaf("num.add"), []*node.Handle{{}}, api.ErrArg},
		{api.Tree{Kind: "num.add", Kids: make([]api.Tree, 7)}, units(2), api.OK}, {api.Tree{Kind: "num.add", Kids: make([]api.Tree, 2)}, nil, api.ErrCount},
		{leaf("my.neither"), units(2), api.OK}, {leaf("my.neither"), units(1), api.ErrCount}, {leaf("my.neither"), units(3), api.ErrCount}, {leaf("my.neither"), nil, api.ErrCount},
		{leaf("my.neither"), []*node.Handle{five, nil}, api.ErrArg}, {leaf("my.neither"), []*node.Handle{five, {}}, api.ErrArg}, {leaf("my.neither"), []*node.Handle{nil}, api.ErrArg},
		{api.Tree{Kind: "my.neither", Num: 1}, units(2), api.ErrFit}, {api.Tree{Kind: "my.neither", Text: "x"}, units(2), api.ErrFit}, {api.Tree{Kind: "my.neither", Text: long, Num: 1}, units(2), api.ErrLong}, {api.Tree{Kind: "my.neither", Text: long}, units(3), api.ErrCount},
		{api.Tree{Kind: "my.neither", Kids: make([]api.Tree, 1)}, units(2), api.OK}, {api.Tree{Kind: "my.neither", Kids: make([]api.Tree, 2)}, nil, api.ErrCount},
		{leaf("my.unit"), nil, api.OK}, {leaf("my.unit"), units(1), api.ErrCount},
		{leaf("my.plus"), units(2), api.OK}, {leaf("my.plus"), units(1), api.ErrCount}, {leaf("my.plus"), []*node.Handle{nil}, api.ErrArg}, {leaf("my.plus"), []*node.Handle{five, {}}, api.ErrArg},
		{api.Tree{Kind: "my.plus", Num: 1}, units(2), api.ErrFit}, {api.Tree{Kind: "my.plus", Text: "x"}, units(2), api.ErrFit}, {api.Tree{Kind: "my.plus", Text: long}, units(2), api.ErrLong}, {api.Tree{Kind: "my.plus", Text: long}, units(3), api.ErrCount},
		{api.Tree{Kind: "my.map", Text: "x"}, units(2), api.OK}, {leaf("my.map"), units(2), api.ErrFit}, {api.Tree{Kind: "my.map", Text: "1"}, units(2), api.ErrFit}, {api.Tree{Kind: "my.map", Text: "x", Num: -1}, units(2), api.ErrFit},
	} {
		h, e := s.Make(c.tree, c.kids...)
		told(t, "P16.5", fmt.Sprintf("%s of %d kids", c.tree.Kind, len(c.kids)), e, c.want)
		if (h == nil) != (e != nil) {
			t.Errorf("P16.5: %s: a handle beside %v", c.tree.Kind, e)
		}
	}
}

func TestMakeUnknown(t *testing.T) {
	s := laden(t, neither())
	long := strings.Repeat("\xff", 16385)
	for _, c := range []struct {
		tree api.Tree
		kids []*node.Handle
		want api.Errno
	}{
		{leaf("no.body"), nil, api.OK}, {leaf("no.body"), units(1023), api.OK}, {leaf("no.body"), units(1024), api.ErrLong}, {api.Tree{Kind: "no.body", Text: long[1:]}, units(1), api.OK}, {api.Tree{Kind: "no.body", Text: long}, units(1), api.ErrLong},
		{api.Tree{Kind: "no.body", Kids: make([]api.Tree, 2000)}, nil, api.OK},
		{leaf("num.none"), units(1), api.OK}, {leaf("base.none"), nil, api.OK}, {leaf("my.none"), nil, api.OK},
		{leaf(""), nil, api.ErrName}, {leaf("no"), nil, api.ErrName}, {leaf("no.body.x"), nil, api.ErrName}, {leaf("No.body"), nil, api.ErrName}, {leaf("no.1"), nil, api.ErrName}, {leaf("no."), nil, api.ErrName},
		{leaf("No.body"), []*node.Handle{nil}, api.ErrName}, {api.Tree{Kind: "x", Text: long}, units(1024), api.ErrName},
		{leaf("no.body"), []*node.Handle{nil}, api.ErrArg}, {leaf("no.body"), []*node.Handle{number(1), {}}, api.ErrArg}, {api.Tree{Kind: "no.body", Text: long}, append(units(1023), nil), api.ErrArg},
	} {
		h, e := s.Make(c.tree, c.kids...)
		told(t, "P16.5", fmt.Sprintf("%.20s of %d kids", c.tree.Kind, len(c.kids)), e, c.want)
		if (h == nil) != (e != nil) {
			t.Errorf("P16.5: %s: a handle beside %v", c.tree.Kind, e)
		}
		if e != nil {
			continue
		}
		n := h.Node()
		o, ok := n.(api.Opaque)
		lost, _, _ := strings.Cut(c.tree.Kind, ".")
		if !ok || o.Lost() != lost || abilities(n) != "Opaque" {
			t.Errorf("P16.5: %s: not opaque: %s", c.tree.Kind, abilities(n))
		}
		if n.Kind() != c.tree.Kind || n.Num() != c.tree.Num || n.Text() != c.tree.Text || n.Len() != len(c.kids) || n.Kid(-1) != nil || n.Kid(len(c.kids)) != nil {
			t.Errorf("P16.5: %s: not the plain node", c.tree.Kind)
		}
	}
	kids := []*node.Handle{wrapped(number(1)), number(2)}
	n := made(t, s, api.Tree{Kind: "no.body", Num: -5, Text: "x"}, kids...)
	want := []api.Node{kids[0].Node(), kids[1].Node()}
	kids[0] = number(7)
	if n.Num() != -5 || n.Text() != "x" || n.Kid(0) != want[0] || n.Kid(1) != want[1] {
		t.Errorf("P16.5: another node than was made")
	}
}

func TestTree(t *testing.T) {
	s := laden(t, neither(), api.Plugin{Kind: "my.plus", Like: "num.add"})
	for _, text := range []string{
		"unit", "num.add(1, -2)", "my.neither(yes, truth.not(no))", "my.plus(my.plus(1, 2), $x)", "no.body:x(num.add(1, 2), no.body)", "truth.not(no.body(my.neither(yes, no)))",
		"bind.star:a b(1, $a, base.frame($a, $1))", "call.to:f(1, 2, 3)", "num.add(yes, words.all)", "my.none(list.none)", "list.map:x(list.of(1, 2), my.plus($x, $x))",
	} {
		if n := grown(t, s, text); !reflect.DeepEqual(plain(t, n), parse(text)) {
			t.Errorf("P16.6: %s: other nodes", text)
		}
	}
	n := grown(t, s, "my.neither(no.body, my.plus(1, 2))")
	if abilities(n) != "Pure Total Sorted Sugar" || abilities(n.Kid(0)) != "Opaque" || abilities(n.Kid(1)) != "Strict Pure Sorted" || n.Kid(1).Kid(1).(api.Literal).Worth() != api.Int(2) {
		t.Errorf("P16.6: nodes that can do something else")
	}
}

func TestTreeRefused(t *testing.T) {
	s := laden(t, neither(), api.Plugin{Kind: "my.plus", Like: "num.add"})
	for _, c := range []struct {
		text string
		want api.Errno
		path []int
	}{
		{"truth.not", api.ErrCount, nil}, {"truth.not(truth.not)", api.ErrCount, []int{0}}, {"no.body(unit, no.body(unit, num.neg))", api.ErrCount, []int{1, 1}},
		{"num.add(my.neither(yes), my.plus(1))", api.ErrCount, []int{0}}, {"num.add(1, my.plus(1))", api.ErrCount, []int{1}}, {"num.neg(my.neither(num.neg))", api.ErrCount, []int{0}},
		{"num.add(num.neg(base.var:01), base.unit:x)", api.ErrFit, []int{0, 0}}, {"list.of(1, 2, my.plus:x(1, 2))", api.ErrFit, []int{2}}, {"my.neither:x(yes, truth.not)", api.ErrFit, nil},
		{"num.add(num.add:x(1, num.neg), 5)", api.ErrFit, []int{0}}, {"bind.star:a(1, 2, 3)", api.ErrFit, nil}, {"list.of(list.of(list.of(list.of(num.sum))))", api.ErrCount, []int{0, 0, 0, 0}},
	} {
		h, e := s.Tree(parse(c.text))
		toldAt(t, "P16.6", c.text, e, c.want, c.path...)
		if h != nil {
			t.Errorf("P16.6: %s: a handle beside the error", c.text)
		}
	}
	ring := make([]api.Tree, 2)
	ring[0], ring[1] = api.Tree{Kind: "num.add", Kids: ring}, api.Tree{Kind: "num.add", Kids: ring}
	for what, x := range map[string]struct {
		tree api.Tree
		want api.Errno
	}{
		"nothing": {api.Tree{}, api.ErrName}, "no name": {parse("truth.not(A.b)"), api.ErrName}, "no name behind one that does not fit": {parse("truth.not(unit, A.b)"), api.ErrName},
		"65 deep": {parse(strings.Repeat("num.neg(", 64) + "1" + strings.Repeat(")", 64)), api.ErrLong}, "1025 nodes": {api.Tree{Kind: "list.of", Kids: slices.Repeat([]api.Tree{leaf("base.unit")}, 1024)}, api.ErrLong},
		"many bytes": {api.Tree{Kind: "list.of", Kids: slices.Repeat([]api.Tree{{Kind: "base.text", Text: strings.Repeat("x", 8193)}}, 2)}, api.ErrLong}, "a ring": {ring[0], api.ErrLong},
	} {
		h, e := s.Tree(x.tree)
		told(t, "P16.6", what, e, x.want)
		if h != nil {
			t.Errorf("P16.6: %s: a handle beside the error", what)
		}
	}
	deep := parse(strings.Repeat("num.neg(", 63) + "1" + strings.Repeat(")", 63))
	if _, e := s.Tree(deep); e != nil {
		t.Errorf("P16.6: 64 deep: %v", e)
	}
}

func TestTwoShelves(t *testing.T) {
	k := truth.Kit()
	a, b := shelf(t, k), shelf(t, k)
	if e := a.Add(neither()); e != nil {
		t.Fatal(e)
	}
	if _, ok := b.Row("my.neither"); ok || len(b.Kinds()) != len(a.Kinds())-1 || abilities(made(t, b, leaf("my.neither"))) != "Opaque" {
		t.Errorf("P16.7: one shelf knows what the other one was told")
	}
	if e := b.Add(api.Plugin{Kind: "my.neither", Like: "truth.and"}); e != nil {
		t.Errorf("P16.7: %v", e)
	}
	if r, _ := a.Row("my.neither"); r.Abilities[0] != "Pure" {
		t.Errorf("P16.7: one shelf knows what the other one was told")
	}
}

func TestNodesStay(t *testing.T) {
	s := shelf(t, num.Kit())
	before := made(t, s, leaf("my.plus"), units(2)...)
	add := func(p api.Plugin) {
		t.Helper()
		if e := s.Add(p); e != nil {
			t.Fatal(e)
		}
	}
	add(api.Plugin{Kind: "my.plus", Like: "num.add"})
	add(plugin("my.twice", "my.plus($1, $1)", "int > int", "Sugar"))
	x := made(t, s, leaf("my.twice"), number(5)).(api.Sugar)
	add(plugin("my.other", "num.mul($1, my.plus($1, 1))", "int > int", "Sugar"))
	if abilities(before) != "Opaque" || abilities(made(t, s, leaf("my.plus"), units(2)...)) != "Strict Pure Sorted" {
		t.Errorf("P16.7: a node that was made became another one")
	}
	if n := x.Spelt().Kid(1); abilities(n) != "Strict Pure Sorted" || n.Kind() != "my.plus" || x.Spelt().Kid(1) != n {
		t.Errorf("P16.7: what a node is spelt with became another one")
	}
}

func TestNothingIsKept(t *testing.T) {
	s := laden(t)
	p := plugin("my.at", "list.at(bind.let:x(0, $1), $2)", "list a, int > a", "Pure Sorted Sugar")
	template := p.Template
	if e := s.Add(p); e != nil {
		t.Fatal(e)
	}
	n := made(t, s, leaf("my.at"), units(2)...)
	spoil := func() {
		p.Signature.Ins[0].Of[0].Name = "int"
		p.Signature.Ins[1] = sorted("text")
		template.Kids[0].Kids[1].Text = "2"
		template.Kids[1] = leaf("base.unit")
		p.Has[0] = "Total"
	}
	spoil()
	want := "list.at(bind.let:x(0, $1), $2)"
	for _, n := range []api.Node{n, made(t, s, leaf("my.at"), units(2)...)} {
		if got := n.(api.Sorted).Signs(); !reflect.DeepEqual(got, signs("list a, int > a")) {
			t.Errorf("P16.7: the signature became %v", got)
		}
		if got := plain(t, n.(api.Sugar).Spelt().Kid(2)); !reflect.DeepEqual(got, parse(want)) {
			t.Errorf("P16.7: the template became %v", got)
		}
		if abilities(n) != "Pure Sorted Sugar" {
			t.Errorf("P16.7: the abilities became %s", abilities(n))
		}
	}
	if r, _ := s.Row("my.at"); !slices.Equal(r.Abilities, []string{"Pure", "Sorted", "Sugar"}) {
		t.Errorf("P16.7: the row became %v", r)
	}
	kids := append(make([]*node.Handle, 0, 8), number(1), number(2))
	x := parse("my.at(my.at(1, 2), 3)")
	h, e := s.Tree(x)
	_ = made(t, s, leaf("my.at"), kids...).(api.Sugar).Spelt()
	if kids[:3][2] != nil || e != nil || !reflect.DeepEqual(x, parse("my.at(my.at(1, 2), 3)")) {
		t.Errorf("P16.7: what was handed in is changed")
	}
	x.Kids[0].Kids[0].Num = 9
	if !reflect.DeepEqual(plain(t, h.Node()), parse("my.at(my.at(1, 2), 3)")) {
		t.Errorf("P16.7: a tree is kept")
	}
}

func TestPluginsAreNotChanged(t *testing.T) {
	room := func() api.Plugin {
		p := neither()
		p.Has = append(make([]string, 0, 9), p.Has...)
		p.Signature.Ins = append(make([]api.Sort, 0, 9), p.Signature.Ins...)
		p.Template.Kids = append(make([]api.Tree, 0, 9), p.Template.Kids...)
		return p
	}
	p := room()
	if e := laden(t).Add(p); e != nil {
		t.Fatal(e)
	}
	if !reflect.DeepEqual(p, room()) || !reflect.DeepEqual(p.Has[:9], room().Has[:9]) || !reflect.DeepEqual(p.Signature.Ins[:9], room().Signature.Ins[:9]) || !reflect.DeepEqual(p.Template.Kids[:9], room().Template.Kids[:9]) {
		t.Errorf("P16.7: a plugin is changed")
	}
}

func TestFromManyGoroutines(t *testing.T) {
	s := laden(t, neither(), api.Plugin{Kind: "my.plus", Like: "num.add"})
	shared := grown(t, s, "my.neither(yes, no)").(api.Sugar)
	var all sync.WaitGroup
	for range 8 {
		all.Go(func() {
			for range 50 {
				h, e := s.Tree(parse("my.plus(my.plus(1, 2), no.body)"))
				if e != nil || h.Node().(api.Strict).Op() != "num.add" || len(s.Kinds()) == 0 {
					t.Errorf("P16.6: at the same time: %v", e)
				}
				if shared.Spelt().Kid(2).Kind() != "truth.not" || shared.(api.Sorted).Signs().Ins[1].Name != "truth" {
					t.Errorf("P16.3: at the same time: a node tells something else")
				}
			}
		})
	}
	all.Wait()
}
