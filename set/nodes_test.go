package set_test

import (
	"fmt"
	"reflect"
	"slices"
	"strings"
	"sync"
	"testing"

	"espalier/api"
	"espalier/bind"
	"espalier/call"
	"espalier/fault"
	"espalier/flow"
	"espalier/guard"
	"espalier/kit"
	"espalier/list"
	"espalier/node"
	"espalier/num"
	"espalier/plug"
	"espalier/set"
	"espalier/truth"
	"espalier/words"
)

// own is a kit as its package has it.
type own struct {
	kit  func() *kit.Kit
	work func(string, ...api.Plain) (api.Value, api.Errno, string)
}

func kits() map[string]own {
	return map[string]own{
		"num": {num.Kit, num.Work}, "truth": {truth.Kit, truth.Work}, "words": {words.Kit, words.Work}, "list": {list.Kit, list.Work},
		"bind": {bind.Kit, bind.Work}, "call": {call.Kit, call.Work}, "flow": {flow.Kit, flow.Work}, "guard": {guard.Kit, guard.Work},
	}
}

// shelf is what a set of these kits and plugins is to do as.
func shelf(t *testing.T, names string, ps ...api.Plugin) *plug.Shelf {
	t.Helper()
	var ks []*kit.Kit
	for _, name := range strings.Fields(names) {
		ks = append(ks, kits()[name].kit())
	}
	s, e := plug.New(ks...)
	if e != nil {
		t.Fatal(e)
	}
	for _, p := range ps {
		if e := s.Add(p); e != nil {
			t.Fatal(p.Kind, e)
		}
	}
	return s
}

// all tells a tree of nodes with all that each can do.
func all(n api.Node) string {
	out := fmt.Sprint(n.Kind(), n.Num(), n.Text(), node.Abilities(node.Hold(n)), n.Len())
	if x, ok := n.(api.Strict); ok {
		out += " op " + x.Op()
	}
	if x, ok := n.(api.Opaque); ok {
		out += " lost " + x.Lost()
	}
	if x, ok := n.(api.Sugar); ok {
		out += " spelt " + all(x.Spelt())
	}
	for i := range n.Len() {
		out += ", " + all(n.Kid(i))
	}
	return out
}

// same fails, unless two calls answer the same nodes, or the same error.
func same(t *testing.T, promise, what string, h *node.Handle, e error, want *node.Handle, wanted error) {
	t.Helper()
	if !fault.Same(e, wanted) || (h == nil) != (e != nil) {
		t.Errorf("%s: %s: %v, not %v", promise, what, e, wanted)
	} else if e == nil && all(h.Node()) != all(want.Node()) {
		t.Errorf("%s: %s: %s", promise, what, all(h.Node()))
	}
}

func trees() []api.Tree {
	one := number(1)
	ring := make([]api.Tree, 2)
	ring[0], ring[1] = of("num.add", ring...), of("num.add", ring...)
	return []api.Tree{
		{}, of("base.unit"), of("num.add", one, one), of("num.add", one), of("num.neg", of("num.neg")), of("my.two", of("num.sum", one, one, one)), of("my.two", of("geo.far", of("my.two"))), of("my.two", one, one),
		of("my.at", of("list.of", one), one), of("my.plus", of("my.plus", one, of("my.two", one)), use("x")), of("my.plus", one), with("my.plus", "x", one, one), with("bind.star", "x y", one, use("x"), use("y")), with("bind.star", "x", one, one, one),
		of("geo.far", of("num.neg", of("base.unit"))), of("geo.far", of("num.neg")), of("A.b"), of("num.neg", of("x")), with("call.to", "f", one), with("call.to", "1f"), of("words.all"), of("flow.twice", of("guard.raise", with("base.text", "\xff"))),
		with("base.var", "65"), {Kind: "base.unit", Num: 1}, {Kind: "no.body", Num: -5, Text: "\x00", Kids: []api.Tree{of("truth.not", of("base.yes"))}}, ring[0], of("list.of", slices.Repeat([]api.Tree{one}, 1024)...), of("list.of", slices.Repeat([]api.Tree{one}, 1023)...),
	}
}

func TestMakeAndTree(t *testing.T) {
	ps := []api.Plugin{two(), at(), like("my.plus", "num.add")}
	for _, c := range []struct {
		kits string
		ps   []api.Plugin
	}{
		{"", nil}, {"num", nil}, {"num list", ps}, {allKits, ps}, {"truth words bind call flow guard", nil},
	} {
		s, as := made(t, c.kits, c.ps...), shelf(t, c.kits, c.ps...)
		five, _ := node.Make(number(5))
		for i, x := range trees() {
			h, e := s.Tree(x)
			want, wanted := as.Tree(x)
			same(t, "P17.4", fmt.Sprint("Tree ", c.kits, i), h, e, want, wanted)
			for _, kids := range [][]*node.Handle{nil, {five}, {five, five}, {five, nil}, {{}}, slices.Repeat([]*node.Handle{five}, 1024)} {
				h, e := s.Make(x, kids...)
				want, wanted := as.Make(x, kids...)
				same(t, "P17.4", fmt.Sprint("Make ", c.kits, i, len(kids)), h, e, want, wanted)
			}
		}
	}
	s := made(t, "num", two())
	h, e := s.Tree(of("my.two", of("geo.far", of("num.neg"))))
	if h != nil || !fault.Same(e, fault.At(api.ErrCount, api.Place{Path: []int{0, 0}})) {
		t.Errorf("P17.4: %v", e)
	}
	h, e = s.Tree(of("my.two", of("geo.far", of("num.neg", of("base.unit")))))
	if e != nil {
		t.Fatalf("P17.4: %v", e)
	}
	n := h.Node()
	if x, ok := n.(api.Sugar); !ok || x.Spelt().Kind() != "base.frame" {
		t.Errorf("P17.4: a plugin's node is no sugar")
	}
	if x, ok := n.Kid(0).(api.Opaque); !ok || x.Lost() != "geo" || !reflect.DeepEqual(node.Abilities(node.Hold(x)), []string{"Opaque"}) {
		t.Errorf("P17.4: a node of an unknown kind")
	}
	if x, ok := n.Kid(0).Kid(0).(api.Strict); !ok || x.Op() != "num.neg" {
		t.Errorf("P17.4: a node within one of an unknown kind")
	}
}

func TestLess(t *testing.T) {
	s := made(t, "words num truth", two())
	for _, c := range []struct {
		kits string
		want api.Errno
	}{
		{"flow", api.ErrNone}, {"geo", api.ErrNone}, {"base", api.ErrNone}, {"", api.OK}, {"words words", api.ErrTwice}, {"words flow words", api.ErrNone}, {"words words flow", api.ErrTwice}, {"flow words words", api.ErrNone},
		{"truth words truth", api.ErrTwice}, {"words", api.OK}, {"truth words", api.OK}, {"words num num", api.ErrTwice}, {"my", api.ErrNone}, {"Num", api.ErrNone},
	} {
		got, e := s.Less(strings.Fields(c.kits)...)
		told(t, "P17.5", c.kits, got, e, c.want)
		if e != nil {
			continue
		}
		left := slices.DeleteFunc([]string{"num", "truth", "words"}, func(name string) bool { return slices.Contains(strings.Fields(c.kits), name) })
		if look(got) != look(made(t, strings.Join(left, " "), two())) {
			t.Errorf("P17.5: without %s: %v", c.kits, got.Kits())
		}
	}
	got, e := s.Less("")
	told(t, "P17.5", "no name", got, e, api.ErrNone)
	for _, kits := range []string{"num", "words num", "num words truth"} {
		got, e := s.Less(strings.Fields(kits)...)
		toldAt(t, "P17.5", kits, got, e, api.ErrNone)
	}
	deep := made(t, "num words", plugin("my.x", of("num.neg", of("words.size", use("1"))), "text", "int", ""), like("my.size", "words.size"))
	got, e = deep.Less("words")
	toldAt(t, "P17.5", "words", got, e, api.ErrNone, 0)
	got, e = made(t, "num words", like("my.size", "words.size")).Less("words")
	told(t, "P17.5", "words of a likeness", got, e, api.ErrNone)
	// What comes of a set is one like others.
	got, _ = s.Less("words")
	got, e = got.Less("words")
	told(t, "P17.5", "words, again", got, e, api.ErrNone)
	if look(s) != look(made(t, "num truth words", two())) {
		t.Errorf("P17.8: Less changed a set")
	}
}

// TestLessOfItsOwn: where a kit is gone a plugin of that name may come.
func TestLessOfItsOwn(t *testing.T) {
	s := made(t, "num words", like("my.x", "num.add"))
	a, e := s.More(like("words.x", "num.add"))
	told(t, "P17.5", "of a kit of the set", a, e, api.ErrTwice)
	a, _ = s.Less("words")
	a, e = a.More(like("words.x", "num.add"))
	told(t, "P17.5", "of a kit that is gone", a, e, api.OK)
	if v, e, _ := a.Work("words.x", api.Plain{Kind: api.PInt}, api.Plain{Kind: api.PInt}); v != nil || e != api.ErrArg {
		t.Errorf("P17.6: a plugin's work: %v, %d", v, e)
	}
}

func TestMore(t *testing.T) {
	s := made(t, "num", two())
	before := look(s)
	four := plugin("my.four", of("my.two", of("my.two", use("1"))), "int", "int", "Pure Sorted Sugar")
	m, e := s.More(four, like("my.plus", "num.add"))
	told(t, "P17.5", "two more", m, e, api.OK)
	if look(m) != look(made(t, "num", two(), four, like("my.plus", "num.add"))) {
		t.Errorf("P17.5: %v", m.Plugins())
	}
	m, e = s.More()
	told(t, "P17.5", "none", m, e, api.OK)
	if look(m) != before {
		t.Errorf("P17.5: %v", m.Plugins())
	}
	m, e = s.More(two())
	told(t, "P17.5", "the same again", m, e, api.ErrTwice)
	m, e = s.More(like("num.x", "num.add"))
	told(t, "P17.5", "of a kit of the set", m, e, api.ErrTwice)
	m, e = s.More(like("my.x", "words.of"))
	told(t, "P17.5", "like what is not known", m, e, api.ErrNone)
	m, e = s.More(at())
	toldAt(t, "P17.5", "over what is not known", m, e, api.ErrNone)
	m, e = s.More(like("my.x", "num.add"), like("my.x", "num.add"))
	told(t, "P17.5", "one twice", m, e, api.ErrTwice)
	var many []api.Plugin
	for i := range 63 {
		many = append(many, like(fmt.Sprint("my.k", i), "num.add"))
	}
	m, e = s.More(many...)
	told(t, "P17.5", "64 in all", m, e, api.OK)
	m, e = m.More(like("my.x", "num.add"))
	told(t, "P17.5", "65 in all", m, e, api.ErrLong)
	if look(s) != before {
		t.Errorf("P17.8: More changed a set")
	}
}

func plains() []api.Plain {
	text, number := api.Plain{Kind: api.PText, Text: "ab"}, api.Plain{Kind: api.PInt, Num: 2}
	return []api.Plain{number, text, {Kind: api.PTruth, Num: 1}, {Kind: api.PUnit}, {Kind: api.PList, List: []api.Plain{number, text}}, {}}
}

// TestWork holds the work of sets against that of the kits.
func TestWork(t *testing.T) {
	some, whole := made(t, "num list guard", two(), like("my.plus", "num.add")), made(t, allKits)
	for _, r := range rows(set.Names()) {
		name, _, _ := strings.Cut(r.Kind, ".")
		for _, a := range plains() {
			for _, b := range plains() {
				for _, args := range [][]api.Plain{nil, {a}, {a, b}, {a, b, b}} {
					v, e, said := api.Value(nil), api.ErrArg, ""
					if name != "base" {
						v, e, said = kits()[name].work(r.Kind, args...)
					}
					if got, number, text := whole.Work(r.Kind, args...); !reflect.DeepEqual(got, v) || number != e || text != said {
						t.Errorf("P17.6: %s: %v, %d, %s", r.Kind, got, number, text)
					}
					if !slices.Contains(some.Kits(), name) {
						v, e, said = nil, api.ErrArg, ""
					}
					if got, number, text := some.Work(r.Kind, args...); !reflect.DeepEqual(got, v) || number != e || text != said {
						t.Errorf("P17.6: %s of some kits: %v, %d, %s", r.Kind, got, number, text)
					}
				}
			}
		}
	}
	two := api.Plain{Kind: api.PInt, Num: 2}
	for _, op := range []string{"", "num", "num.", "num.none", "my.plus", "my.two", "base.int", "words.of", "geo.far", "num.add.x", "Num.add", "guard", "add"} {
		if v, e, said := some.Work(op, two, two); v != nil || e != api.ErrArg || said != "" {
			t.Errorf("P17.6: %q: %v, %d, %s", op, v, e, said)
		}
	}
	if v, e, said := some.Work("guard.raise", api.Plain{Kind: api.PText, Text: "no"}); v != nil || e != api.ErrRaise || said != "no" {
		t.Errorf("P17.6: guard.raise: %v, %d, %s", v, e, said)
	}
	if v, e, _ := some.Work("num.add", two, two); v != api.Int(4) || e != api.OK {
		t.Errorf("P17.6: num.add: %v, %d", v, e)
	}
}

func TestNeeds(t *testing.T) {
	for _, s := range []*set.Set{nil, {}, made(t, ""), made(t, allKits, two())} {
		for _, c := range []struct {
			tree api.Tree
			want string
			e    api.Errno
		}{
			{of("base.unit"), "", api.OK}, {of("num.add", number(1), of("geo.far")), "geo num", api.OK}, {of("num.add", of("num.neg"), of("num.none")), "num", api.OK},
			{of("z.a", of("a.z"), of("m.m", of("a.a", of("b.b")), of("base.none"))), "a b m z", api.OK}, {of("my.two", of("flow.seq"), of("my.at")), "flow my", api.OK}, {of("a1.x", of("a.x"), of("ab.x"), of("a0.x")), "a a0 a1 ab", api.OK},
			{of("basee.x", of("bas.x"), of("base.x")), "bas basee", api.OK},
			{api.Tree{}, "", api.ErrName}, {of("x"), "", api.ErrName}, {of("num.add", of("geo.far"), of("A.b")), "", api.ErrName}, {of("num.of", slices.Repeat([]api.Tree{of("x")}, 1024)...), "", api.ErrLong}, {with("num.add", strings.Repeat("x", 16385)), "", api.ErrLong},
		} {
			got, e := s.Needs(c.tree)
			if e != c.e || strings.Join(got, " ") != c.want {
				t.Errorf("P17.7: %s: %v, %d", c.tree.Kind, got, e)
			}
		}
	}
}

func TestNoSet(t *testing.T) {
	empty := made(t, "")
	for _, s := range []*set.Set{nil, {}} {
		if look(s) != look(empty) || len(s.Kits()) != 0 || len(s.Kinds()) != 7 || len(s.Plugins()) != 0 || !s.Can("base.int", "Literal") {
			t.Errorf("P17.8: no set tells %s", look(s))
		}
		as := shelf(t, "")
		five, _ := node.Make(number(5))
		for i, x := range trees() {
			h, e := s.Tree(x)
			want, wanted := as.Tree(x)
			same(t, "P17.8", fmt.Sprint("Tree of no set ", i), h, e, want, wanted)
			h, e = s.Make(x, five)
			want, wanted = as.Make(x, five)
			same(t, "P17.8", fmt.Sprint("Make of no set ", i), h, e, want, wanted)
		}
		if h, e := s.Make(of("base.frame"), nil); h != nil || fault.Code(e) != api.ErrArg {
			t.Errorf("P17.8: a nil kid: %v", e)
		}
		if v, e, said := s.Work("num.add", plains()[0], plains()[0]); v != nil || e != api.ErrArg || said != "" {
			t.Errorf("P17.8: the work of no set: %v, %d", v, e)
		}
		got, e := s.Less()
		told(t, "P17.8", "Less of no set", got, e, api.OK)
		if look(got) != look(empty) {
			t.Errorf("P17.8: Less of no set")
		}
		got, e = s.Less("num")
		told(t, "P17.8", "Less of no set", got, e, api.ErrNone)
		got, e = s.More(like("my.five", "base.int"))
		told(t, "P17.8", "More of no set", got, e, api.OK)
		if look(got) != look(made(t, "", like("my.five", "base.int"))) || len(s.Plugins()) != 0 {
			t.Errorf("P17.8: More of no set")
		}
		got, e = s.More(two())
		toldAt(t, "P17.8", "More of no set", got, e, api.ErrNone)
	}
}

func TestAnswersAreTheCallersOwn(t *testing.T) {
	s := made(t, "num list", two(), at(), like("my.plus", "num.add"))
	before := look(s)
	for range 2 {
		kits, kinds, ps := s.Kits(), s.Kinds(), s.Plugins()
		kits[0], kinds[0] = "spoilt", "spoilt"
		_, _ = append(kits[:1], "spoilt"), append(kinds[:1], "spoilt")
		row, _ := s.Row("my.two")
		row.Abilities[0] = "Total"
		_ = append(row.Abilities[:1], "Total")
		ps[0].Template.Kids[0] = of("spoilt.x")
		_ = append(ps[0].Template.Kids[:1], of("spoilt.x"))
		ps[0].Signature.Ins[0].Name = "text"
		ps[0].Has[0] = "Total"
		ps[1].Signature.Ins[0].Of[0].Name = "b"
		_ = append(ps[1].Signature.Ins[:1], sorted("text"))
		ps[1].Template.Kids[1].Text = "1"
		ps[2].Like = "num.sub"
		names, _ := s.Needs(of("num.add", of("geo.far")))
		names[0] = "spoilt"
		if look(s) != before {
			t.Errorf("P17.8: answers share memory with the set")
		}
	}
	got := s.Plugins()
	again, e := set.New([]string{"num", "list"}, got...)
	told(t, "P17.8", "its own plugins", again, e, api.OK)
	if look(again) != before {
		t.Errorf("P17.8: plugins that are answered are others")
	}
}

func TestNothingIsKept(t *testing.T) {
	room := func() api.Plugin {
		p := at()
		p.Has = append(make([]string, 0, 9), p.Has...)
		p.Template.Kids = append(make([]api.Tree, 0, 9), p.Template.Kids...)
		p.Signature.Ins = append(make([]api.Sort, 0, 9), p.Signature.Ins...)
		p.Signature.Out.Of, p.Signature.Bound.Of = make([]api.Sort, 0, 9), make([]api.Sort, 0, 9)
		return p
	}
	names := append(make([]string, 0, 9), "list", "num")
	ps := append(make([]api.Plugin, 0, 9), two(), room())
	s, e := set.New(names, ps...)
	told(t, "P17.8", "New", s, e, api.OK)
	m, e := s.More(append(make([]api.Plugin, 0, 9), plugin("my.x", number(5), "", "int", ""))...)
	told(t, "P17.8", "More", m, e, api.OK)
	less := append(make([]string, 0, 9), "num")
	if l, e := m.Less(less...); l != nil || fault.Code(e) != api.ErrNone {
		t.Errorf("P17.5: %v", e)
	}
	if !slices.Equal(names, []string{"list", "num"}) || names[:9][2] != "" || !slices.Equal(less[:2], []string{"num", ""}) || !reflect.DeepEqual(ps[1], room()) || !reflect.DeepEqual(ps[:9][2], api.Plugin{}) {
		t.Errorf("P17.8: what is handed in is changed")
	}
	if !reflect.DeepEqual(ps[1].Has[:9], room().Has[:9]) || !reflect.DeepEqual(ps[1].Template.Kids[:9], room().Template.Kids[:9]) || !reflect.DeepEqual(ps[1].Signature.Ins[:9], room().Signature.Ins[:9]) {
		t.Errorf("P17.8: the spare room of what is handed in is changed")
	}
	before, after := look(s), look(m)
	names[0] = "spoilt"
	ps[1].Has[0], ps[1].Template.Kids[0].Text, ps[1].Signature.Ins[0].Of[0].Name, ps[1].Signature.Out.Name = "Total", "2", "b", "b"
	ps[0] = api.Plugin{}
	if look(s) != before || look(m) != after {
		t.Errorf("P17.8: what is handed in is kept")
	}
	if l, e := s.Less(); e != nil || look(l) != before {
		t.Errorf("P17.8: what is handed in is kept: %v", e)
	}
	bare := plugin("my.x", number(5), "", "int", "")
	spare := make([]api.Sort, 1)
	bare.Signature.Bound.Of = spare[:0]
	got := made(t, "", bare).Plugins()
	_ = append(got[0].Signature.Bound.Of, sorted("int"))
	if spare[0].Name != "" {
		t.Errorf("P0.3: the spare room of what is handed in is kept")
	}
}

// TestOneListOfMany: where a plugin has one list at many places, what is answered has its own at each.
func TestOneListOfMany(t *testing.T) {
	pair := []api.Tree{use("1"), use("1")}
	p := plugin("my.x", of("num.add", of("num.add", pair...), of("num.add", pair...)), "int", "int", "")
	list := []api.Sort{sorted("int")}
	q := plugin("my.y", use("1"), "list int,list int", "list int", "")
	q.Signature.Ins[0].Of, q.Signature.Ins[1].Of, q.Signature.Out.Of = list, list, list
	s := made(t, "num", p, q)
	list[0].Name = "text"
	ps := s.Plugins()
	ps[0].Template.Kids[0].Kids[0].Text = "spoilt"
	ps[1].Signature.Ins[0].Of[0].Name = "spoilt"
	if ps[0].Template.Kids[1].Kids[0].Text != "1" || ps[1].Signature.Ins[1].Of[0].Name != "int" || ps[1].Signature.Out.Of[0].Name != "int" {
		t.Errorf("P0.3: two lists of one answer share memory")
	}
	ps[1].Signature.Out.Of[0].Name = "spoilt"
	if s.Plugins()[1].Signature.Out.Of[0].Name != "int" {
		t.Errorf("P0.3: two answers share memory")
	}
}

// TestWhatFollows: what a tree does not speak of changes nothing of its nodes.
func TestWhatFollows(t *testing.T) {
	small, _ := made(t, "num", two()).Tree(of("my.two", of("geo.far", of("num.sum", number(1), use("x")))))
	for _, s := range []*set.Set{made(t, allKits, two(), at()), made(t, "num", two(), like("geo.near", "num.add")), made(t, "flow num", two())} {
		h, e := s.Tree(of("my.two", of("geo.far", of("num.sum", number(1), use("x")))))
		if e != nil || all(h.Node()) != all(small.Node()) {
			t.Errorf("P17.8: other nodes: %v", e)
		}
		for _, kind := range s.Kinds() {
			row, _ := s.Row(kind)
			x, kids := fitting(row)
			h, e := s.Make(x, kids...)
			if e != nil || !slices.Equal(node.Abilities(h), row.Abilities) {
				t.Errorf("P17.3: the row of %s, %v, %v", kind, node.Abilities(h), e)
			}
			for _, a := range abilities() {
				if s.Can(kind, a) != (node.Must(h, a) == nil) {
					t.Errorf("P17.3: Can(%s, %s)", kind, a)
				}
			}
		}
	}
}

// fitting is a node that fits a row, with more kids than there must be.
func fitting(r api.Row) (api.Tree, []*node.Handle) {
	five, _ := node.Make(number(5))
	n := r.Max
	if n == -1 {
		n = r.Min + 2
	}
	x := api.Tree{Kind: r.Kind}
	switch r.Text {
	case api.TextName, api.TextUse:
		x.Text = "name_1"
	case api.TextNames:
		x.Text = strings.TrimSpace(strings.Repeat("a ", n-1))
	}
	return x, slices.Repeat([]*node.Handle{five}, n)
}

func TestFromManyGoroutines(t *testing.T) {
	s := made(t, "num list", two(), at(), like("my.plus", "num.add"))
	before := look(s)
	var done sync.WaitGroup
	for i := range 8 {
		kind := fmt.Sprint("my.k", i)
		done.Go(func() {
			for range 20 {
				h, e := s.Tree(of("my.two", of("my.two", number(1))))
				if e != nil || h.Node().(api.Sugar).Spelt().Kid(1).Kind() != "num.add" || look(s) != before {
					t.Errorf("P17.8: at the same time: %v", e)
				}
				m, e := s.More(like(kind, "num.add"))
				if e != nil || !m.Can(kind, "Strict") || len(m.Plugins()) != 4 || s.Can(kind, "Strict") {
					t.Errorf("P17.8: More at the same time: %v", e)
				}
				if l, e := s.Less(); e != nil || look(l) != before {
					t.Errorf("P17.8: Less at the same time: %v", e)
				}
				if v, e, _ := s.Work("num.neg", plains()[0]); v != api.Int(-2) || e != api.OK {
					t.Errorf("P17.8: Work at the same time: %v", v)
				}
			}
		})
	}
	done.Wait()
}
