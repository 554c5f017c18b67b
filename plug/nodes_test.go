package plug_test

import (
	"fmt"
	"math"
	"reflect"
	"slices"
	"strings"
	"testing"

	"espalier/api"
	"espalier/craft"
	"espalier/fault"
	"espalier/kit"
	"espalier/node"
	"espalier/part"
)

// hases are all lists that Has may be.
func hases() []string {
	var all []string
	for _, quality := range []string{"", "Pure ", "Pure Total "} {
		for _, rest := range []string{"", "Sorted", "Sugar", "Sorted Sugar"} {
			all = append(all, strings.TrimSpace(quality+rest))
		}
	}
	return all
}

// holds fails, unless a node is the plain one that was asked for, with these kids.
func holds(t *testing.T, n api.Node, x api.Tree, kids ...*node.Handle) {
	t.Helper()
	if n.Kind() != x.Kind || n.Num() != x.Num || n.Text() != x.Text || n.Len() != len(kids) {
		t.Fatalf("P16.3: %s: %s, %d, %q, %d kids", x.Kind, n.Kind(), n.Num(), n.Text(), n.Len())
	}
	for i, kid := range kids {
		if n.Kid(i) != kid.Node() {
			t.Errorf("P16.3: %s: another node as kid %d", x.Kind, i)
		}
	}
	for _, i := range []int{-1, len(kids), math.MinInt, math.MaxInt} {
		if n.Kid(i) != nil {
			t.Errorf("P16.3: %s: a kid %d", x.Kind, i)
		}
	}
	if !reflect.TypeOf(n).Comparable() || n != n {
		t.Errorf("P6.7: %s is not itself", x.Kind)
	}
}

func TestTemplatesAbilities(t *testing.T) {
	for _, has := range hases() {
		s := laden(t)
		p := neither()
		p.Has = strings.Fields(has)
		if e := s.Add(p); e != nil {
			t.Fatalf("P16.2: %s: %v", has, e)
		}
		kids := []*node.Handle{number(1), wrapped(number(2))}
		n := made(t, s, leaf("my.neither"), kids...)
		holds(t, n, leaf("my.neither"), kids...)
		if got := abilities(n); got != has {
			t.Errorf("P16.3: %s, not %s", got, has)
		}
		if x, ok := n.(api.Pure); ok && !x.Quiet() {
			t.Errorf("P16.3: %s: not quiet", has)
		}
		if x, ok := n.(api.Total); ok && !x.Sure() {
			t.Errorf("P16.3: %s: not sure", has)
		}
		if x, ok := n.(api.Sorted); ok && !reflect.DeepEqual(x.Signs(), p.Signature) {
			t.Errorf("P16.3: %s: %v", has, x.Signs())
		}
		if x, ok := n.(api.Sugar); ok {
			spelt(t, x.Spelt(), "truth.not(truth.or($1, $2))", kids...)
		}
		if r, ok := s.Row("my.neither"); !ok || r.Min != 2 || r.Max != 2 || r.Num || r.Text != api.TextNone || strings.Join(r.Abilities, " ") != has {
			t.Errorf("P16.3: %s: %v", has, r)
		}
		if other := made(t, s, leaf("my.neither"), kids...); other == n {
			t.Errorf("P16.5: two calls give one node")
		}
	}
}

// spelt fails, unless a node is base.frame of these kids and the template.
func spelt(t *testing.T, n api.Node, template string, kids ...*node.Handle) {
	t.Helper()
	f, ok := n.(api.Framed)
	if !ok || f.Frames() != len(kids) || abilities(n) != "Pure Total Framed" {
		t.Fatalf("P16.3: not spelt with a frame")
	}
	holds(t, n, leaf("base.frame"), append(slices.Clone(kids), node.Hold(n.Kid(len(kids))))...)
	if got := plain(t, f.Kid(len(kids))); !reflect.DeepEqual(got, parse(template)) {
		t.Errorf("P16.3: spelt with %v", got)
	}
}

func TestSpelt(t *testing.T) {
	s := laden(t, neither(), plugin("my.both", "my.neither($2, my.neither($1, $1))", "truth, truth > truth", "Sugar"), plugin("my.yes", "yes", "> truth", "Pure Total Sorted Sugar"))
	both := grown(t, s, "my.both(my.yes, my.neither(yes, no))")
	f := both.(api.Sugar).Spelt()
	spelt(t, f, "my.neither($2, my.neither($1, $1))", node.Hold(both.Kid(0)), node.Hold(both.Kid(1)))
	inner := f.Kid(2)
	spelt(t, inner.(api.Sugar).Spelt(), "truth.not(truth.or($1, $2))", node.Hold(inner.Kid(0)), node.Hold(inner.Kid(1)))
	if x, ok := inner.Kid(0).(api.User); !ok || x.Uses() != "2" || abilities(inner) != "Pure Total Sorted Sugar" {
		t.Errorf("P16.3: the template's nodes")
	}
	spelt(t, both.Kid(0).(api.Sugar).Spelt(), "yes")
}

func TestSignsAreTheCallersOwn(t *testing.T) {
	deep := strings.Repeat("list ", 64) + "a"
	text := "list list b, " + deep + ", int, z > list b"
	s := laden(t, plugin("my.x", "list.at($1, $3)", text, "Sorted"), plugin("my.none", "guard.raise(base.text)", "> list q", "Sorted"))
	x := made(t, s, leaf("my.x"), units(4)...).(api.Sorted)
	other := made(t, s, leaf("my.x"), units(4)...).(api.Sorted)
	got := x.Signs()
	if !reflect.DeepEqual(got, signs(text)) {
		t.Fatalf("P16.3: %v", got)
	}
	got.Ins[0].Of[0].Of[0].Name = "spoilt"
	got.Ins[2].Name = "spoilt"
	got.Out.Of[0].Name = "spoilt"
	_ = append(got.Ins[:1], sorted("text"))
	for _, n := range []api.Sorted{x, other} {
		if again := n.Signs(); !reflect.DeepEqual(again, signs(text)) {
			t.Errorf("P16.7: signatures share memory: %v", again)
		}
	}
	none := made(t, s, leaf("my.none")).(api.Sorted).Signs()
	if len(none.Ins) != 0 || !reflect.DeepEqual(none.Out, sorted("list q")) || none.Rest || !reflect.DeepEqual(none.Bound, api.Sort{}) {
		t.Errorf("P16.3: %v", none)
	}
}

// tells is what a node tells by its abilities.
func tells(n api.Node) string {
	out := abilities(n)
	if x, ok := n.(api.Literal); ok {
		out += fmt.Sprintf("; worth %v", x.Worth())
	}
	if x, ok := n.(api.Strict); ok {
		out += "; op " + x.Op()
	}
	if x, ok := n.(api.Lazy); ok {
		out += "; way " + x.Way()
	}
	if x, ok := n.(api.Binder); ok {
		name, where := x.Binds()
		out += fmt.Sprintf("; binds %s in %d", name, where)
	}
	if x, ok := n.(api.User); ok {
		out += "; uses " + x.Uses()
	}
	if x, ok := n.(api.Caller); ok {
		out += "; calls " + x.Calls()
	}
	if x, ok := n.(api.Pure); ok {
		out += fmt.Sprintf("; quiet %v", x.Quiet())
	}
	if x, ok := n.(api.Total); ok {
		out += fmt.Sprintf("; sure %v", x.Sure())
	}
	if x, ok := n.(api.Sorted); ok {
		out += fmt.Sprintf("; sorts %v", x.Signs())
	}
	if x, ok := n.(api.Sugar); ok {
		out += "; spelt " + x.Spelt().Kind()
	}
	if x, ok := n.(api.Framed); ok {
		out += fmt.Sprintf("; frames %d", x.Frames())
	}
	return out
}

// node that fits a row.
func fitting(r api.Row, kind string) (api.Tree, []*node.Handle) {
	x := api.Tree{Kind: kind}
	if r.Num {
		x.Num = -7
	}
	switch r.Text {
	case api.TextAny:
		x.Text = "any \xff"
	case api.TextName, api.TextUse:
		x.Text = "name"
	}
	n := r.Min
	if r.Max == -1 {
		n += 3
	}
	var kids []*node.Handle
	for i := range n {
		kids = append(kids, wrapped(number(int64(i))))
	}
	return x, kids
}

// TestLikeness: what is like a kind of a kit does all that one of that kind does.
func TestLikeness(t *testing.T) {
	count := 0
	for _, k := range append(kits(), kit.Base()) {
		for _, r := range k.Rows() {
			s := laden(t)
			if s.Add(api.Plugin{Kind: "my.x", Like: r.Kind}) != nil {
				continue
			}
			count++
			if e := s.Add(api.Plugin{Kind: "your.y", Like: "my.x"}); e != nil {
				t.Fatalf("P16.2: like what is like %s: %v", r.Kind, e)
			}
			as, kids := fitting(r, r.Kind)
			h, e := k.Make(as, kids...)
			if e != nil {
				t.Fatal(r.Kind, e)
			}
			for _, kind := range []string{"my.x", "your.y"} {
				x, _ := fitting(r, kind)
				n := made(t, s, x, kids...)
				holds(t, n, x, kids...)
				if got, want := tells(n), tells(h.Node()); got != want || !strings.HasPrefix(got, strings.Join(r.Abilities, " ")+";") {
					t.Errorf("P16.3: like %s: %s, not %s", r.Kind, got, want)
				}
				if strings.Contains(tells(n), kind) {
					t.Errorf("P16.3: like %s: it does what it is itself", r.Kind)
				}
				own := r
				own.Kind = kind
				if got, ok := s.Row(kind); !ok || !reflect.DeepEqual(got, own) {
					t.Errorf("P16.3: like %s: %v", r.Kind, got)
				}
			}
		}
	}
	if count != 5+12+5+8+10+1+3+4 {
		t.Errorf("P16.2: %d kinds may be done as", count)
	}
}

// TestLikeALiteral: which node it is like hangs on the Num and Text of each one.
func TestLikeALiteral(t *testing.T) {
	s := laden(t, api.Plugin{Kind: "my.int", Like: "base.int"}, api.Plugin{Kind: "my.text", Like: "base.text"}, api.Plugin{Kind: "my.no", Like: "base.no"})
	for _, c := range []struct {
		tree  api.Tree
		worth api.Value
	}{
		{api.Tree{Kind: "my.int"}, api.Int(0)}, {api.Tree{Kind: "my.int", Num: math.MinInt64}, api.Int(math.MinInt64)}, {api.Tree{Kind: "my.text", Text: "x"}, api.Text("x")}, {api.Tree{Kind: "my.text"}, api.Text("")}, {api.Tree{Kind: "my.no"}, api.Truth(false)},
	} {
		if x, ok := made(t, s, c.tree).(api.Literal); !ok || x.Worth() != c.worth {
			t.Errorf("P16.3: %v", c.tree)
		}
	}
}

func TestLikeEachOther(t *testing.T) {
	s := laden(t, api.Plugin{Kind: "my.k0", Like: "list.map"})
	for i := range 63 {
		if e := s.Add(api.Plugin{Kind: fmt.Sprint("my.k", i+1), Like: fmt.Sprint("my.k", i)}); e != nil {
			t.Fatal(i, e)
		}
	}
	n := made(t, s, api.Tree{Kind: "my.k63", Text: "x"}, units(2)...)
	if name, where := n.(api.Binder).Binds(); n.Kind() != "my.k63" || n.(api.Lazy).Way() != "list.map" || name != "x" || where != 1 || abilities(n) != "Lazy Binder Pure Sorted" {
		t.Errorf("P16.3: %s", tells(n))
	}
}

// The types of a kit's nodes that a plugin may be like: none of the program's
// kits has all of them.
type (
	toy struct {
		part.Base
		part.Sorted
	}
	worthy     struct{ toy }
	pureWorthy struct {
		worthy
		part.Pure
	}
	totalWorthy struct {
		worthy
		part.Total
	}
	doer     struct{ toy }
	pureDoer struct {
		doer
		part.Pure
	}
	totalDoer struct {
		doer
		part.Total
	}
	goer     struct{ toy }
	pureGoer struct {
		goer
		part.Pure
	}
	totalGoer struct {
		goer
		part.Total
	}
	binder     struct{ toy }
	pureBinder struct {
		binder
		part.Pure
	}
	totalBinder struct {
		binder
		part.Total
	}
	each     struct{ goer }
	pureEach struct {
		each
		part.Pure
	}
	totalEach struct {
		each
		part.Total
	}
)

func (*worthy) Worth() api.Value     { return api.Text("toy") }
func (*doer) Op() string             { return "toy.does" }
func (*goer) Way() string            { return "toy.goes" }
func (*binder) Binds() (string, int) { return "toy", 0 }
func (*each) Binds() (string, int)   { return "toy", 1 }

func likely() map[string]func(toy) api.Node {
	return map[string]func(toy) api.Node{
		"Literal Sorted":                func(n toy) api.Node { return &worthy{n} },
		"Literal Pure Sorted":           func(n toy) api.Node { return &pureWorthy{worthy: worthy{n}} },
		"Literal Pure Total Sorted":     func(n toy) api.Node { return &totalWorthy{worthy: worthy{n}} },
		"Strict Sorted":                 func(n toy) api.Node { return &doer{n} },
		"Strict Pure Sorted":            func(n toy) api.Node { return &pureDoer{doer: doer{n}} },
		"Strict Pure Total Sorted":      func(n toy) api.Node { return &totalDoer{doer: doer{n}} },
		"Lazy Sorted":                   func(n toy) api.Node { return &goer{n} },
		"Lazy Pure Sorted":              func(n toy) api.Node { return &pureGoer{goer: goer{n}} },
		"Lazy Pure Total Sorted":        func(n toy) api.Node { return &totalGoer{goer: goer{n}} },
		"Binder Sorted":                 func(n toy) api.Node { return &binder{n} },
		"Binder Pure Sorted":            func(n toy) api.Node { return &pureBinder{binder: binder{n}} },
		"Binder Pure Total Sorted":      func(n toy) api.Node { return &totalBinder{binder: binder{n}} },
		"Lazy Binder Sorted":            func(n toy) api.Node { return &each{goer{n}} },
		"Lazy Binder Pure Sorted":       func(n toy) api.Node { return &pureEach{each: each{goer{n}}} },
		"Lazy Binder Pure Total Sorted": func(n toy) api.Node { return &totalEach{each: each{goer{n}}} },
	}
}

func TestLikenessOfAllTypes(t *testing.T) {
	for has, make := range likely() {
		k := craft.Kit("toy", []craft.Kind{{Name: "toy.x", Min: 2, Max: 2, Has: has, Signs: "list a, b > b; bound int", Make: func(b part.Base, s part.Sorted) api.Node { return make(toy{b, s}) }}})
		s := shelf(t, k)
		if e := s.Add(api.Plugin{Kind: "my.x", Like: "toy.x"}); e != nil {
			t.Errorf("P16.2: %s: %v", has, e)
			continue
		}
		kids := units(2)
		h, e := k.Make(leaf("toy.x"), kids...)
		n := made(t, s, leaf("my.x"), kids...)
		holds(t, n, leaf("my.x"), kids...)
		if e != nil || abilities(n) != has || tells(n) != tells(h.Node()) {
			t.Errorf("P16.3: %s: %s", has, tells(n))
		}
	}
}

// Parts of abilities, each of which stands alone; the types that are put
// together of them are such as no kit of the program has.
type (
	doing    struct{}
	going    struct{}
	naming   struct{}
	standing struct{}
	using    struct{}
	calling  struct{}
	spelling struct{}
	framing  struct{}
)

func (doing) Op() string            { return "toy.does" }
func (going) Way() string           { return "toy.goes" }
func (naming) Binds() (string, int) { return "toy", 1 }
func (standing) Worth() api.Value   { return api.Int(7) }
func (using) Uses() string          { return "used" }
func (calling) Calls() string       { return "called" }
func (spelling) Spelt() api.Node    { return number(5).Node() }
func (framing) Frames() int         { return 1 }

// mixtures make nodes by the abilities that they have.
func mixtures() map[string]func(part.Base, part.Sorted) api.Node {
	return map[string]func(part.Base, part.Sorted) api.Node{
		"Strict": func(b part.Base, _ part.Sorted) api.Node {
			return &struct {
				part.Base
				doing
			}{Base: b}
		},
		"Strict Pure": func(b part.Base, _ part.Sorted) api.Node {
			return &struct {
				part.Base
				doing
				part.Pure
			}{Base: b}
		},
		"Strict Pure Total": func(b part.Base, _ part.Sorted) api.Node {
			return &struct {
				part.Base
				doing
				part.Total
			}{Base: b}
		},
		"Strict Binder Sorted": func(b part.Base, s part.Sorted) api.Node {
			return &struct {
				part.Base
				doing
				naming
				part.Sorted
			}{Base: b, Sorted: s}
		},
		"Strict Caller Sorted": func(b part.Base, s part.Sorted) api.Node {
			return &struct {
				part.Base
				doing
				calling
				part.Sorted
			}{Base: b, Sorted: s}
		},
		"Strict Sugar": func(b part.Base, _ part.Sorted) api.Node {
			return &struct {
				part.Base
				doing
				spelling
			}{Base: b}
		},
		"Literal": func(b part.Base, _ part.Sorted) api.Node {
			return &struct {
				part.Base
				standing
			}{Base: b}
		},
		"Literal Framed": func(b part.Base, _ part.Sorted) api.Node {
			return &struct {
				part.Base
				standing
				framing
			}{Base: b}
		},
		"Lazy": func(b part.Base, _ part.Sorted) api.Node {
			return &struct {
				part.Base
				going
			}{Base: b}
		},
		"Lazy Binder": func(b part.Base, _ part.Sorted) api.Node {
			return &struct {
				part.Base
				going
				naming
			}{Base: b}
		},
		"Lazy Caller": func(b part.Base, _ part.Sorted) api.Node {
			return &struct {
				part.Base
				going
				calling
			}{Base: b}
		},
		"Binder": func(b part.Base, _ part.Sorted) api.Node {
			return &struct {
				part.Base
				naming
			}{Base: b}
		},
		"Binder User Pure": func(b part.Base, _ part.Sorted) api.Node {
			return &struct {
				part.Base
				naming
				using
				part.Pure
			}{Base: b}
		},
		"Literal Strict Lazy Binder User Caller Pure Total Sorted Sugar Framed": func(b part.Base, s part.Sorted) api.Node {
			return &struct {
				part.Base
				standing
				doing
				going
				naming
				using
				calling
				part.Total
				part.Sorted
				spelling
				framing
			}{Base: b, Sorted: s}
		},
	}
}

func TestLikenessOfMixtures(t *testing.T) {
	for has, make := range mixtures() {
		k := craft.Kit("toy", []craft.Kind{{Name: "toy.x", Min: 2, Max: 2, Has: has, Signs: "list a, b > b; bound int", Make: make}})
		s := shelf(t, k)
		for _, p := range []api.Plugin{{Kind: "my.x", Like: "toy.x"}, {Kind: "your.x", Like: "my.x"}} {
			if e := s.Add(p); e != nil {
				t.Fatalf("P16.2: like one with %s: %v", has, e)
			}
			kids := units(2)
			h, e := k.Make(leaf("toy.x"), kids...)
			n := made(t, s, leaf(p.Kind), kids...)
			holds(t, n, leaf(p.Kind), kids...)
			if e != nil || abilities(n) != has || tells(n) != tells(h.Node()) {
				t.Errorf("P16.3: like one with %s: %s", has, tells(n))
			}
		}
	}
}

// sets are all abilities that a row may name.
func sets() [][]string {
	all := [][]string{nil}
	for _, a := range []string{"Literal", "Strict", "Lazy", "Binder", "User", "Caller", "Pure", "Total", "Sorted", "Sugar", "Framed"} {
		for _, set := range all {
			if a != "Total" || slices.Contains(set, "Pure") {
				all = append(all, append(slices.Clone(set), a))
			}
		}
	}
	return all
}

// TestLikenessOfAllRows: what a plugin may be like is told by the row, whatever the maker is.
func TestLikenessOfAllRows(t *testing.T) {
	if len(sets()) != 1536 {
		t.Fatalf("%d lists of abilities", len(sets()))
	}
	for _, has := range sets() {
		asked := 0
		k, e := kit.New("toy", []api.Row{{Kind: "toy.x", Min: 1, Max: 3, Num: true, Text: api.TextName, Abilities: has}}, func(api.Tree, ...*node.Handle) *node.Handle {
			asked++
			return nil
		})
		if e != nil {
			t.Fatal(has, e)
		}
		s := shelf(t, k)
		what := "like one with " + strings.Join(has, " ")
		may := false
		for _, a := range []string{"Literal", "Strict", "Lazy"} {
			may = may || slices.Contains(has, a)
		}
		if !may && (!slices.Contains(has, "Binder") || slices.Contains(has, "Caller")) {
			refused(t, s, what, api.Plugin{Kind: "my.x", Like: "toy.x"}, api.ErrArg)
			continue
		}
		told(t, "P16.2", what, s.Add(api.Plugin{Kind: "my.x", Like: "toy.x"}), api.OK)
		if r, ok := s.Row("my.x"); !ok || !reflect.DeepEqual(r, api.Row{Kind: "my.x", Min: 1, Max: 3, Num: true, Text: api.TextName, Abilities: has}) {
			t.Errorf("P16.3: %s: %v", what, r)
		}
		if asked != 0 {
			t.Errorf("P16.2: %s: the maker is asked", what)
		}
		if h, e := s.Make(api.Tree{Kind: "my.x", Text: "x"}, units(1)...); h != nil || fault.Code(e) != api.ErrArg || asked != 1 {
			t.Errorf("P16.5: %s: a maker that gives nothing: %v", what, e)
		}
	}
}

// TestLikenessOfNodesWithoutAName: nodes that no kit of the program makes so can't be had by another name.
func TestLikenessOfNodesWithoutAName(t *testing.T) {
	for _, n := range []api.Node{
		&struct {
			part.Base
			doing
		}{Base: part.New(leaf("toy.x"))},
		&struct {
			api.Node
			doing
		}{Node: made(t, shelf(t), leaf("toy.x"))},
	} {
		k, e := kit.New("toy", []api.Row{{Kind: "toy.x", Abilities: []string{"Strict"}}}, func(api.Tree, ...*node.Handle) *node.Handle { return node.Hold(n) })
		if e != nil {
			t.Fatal(e)
		}
		s := shelf(t, k)
		if got := made(t, s, leaf("toy.x")); got != n {
			t.Fatal("another node")
		}
		told(t, "P16.2", "like toy.x", s.Add(api.Plugin{Kind: "my.x", Like: "toy.x"}), api.OK)
		h, e := s.Make(leaf("my.x"))
		told(t, "P16.5", "like toy.x", e, api.ErrArg)
		if h != nil {
			t.Errorf("P16.5: a handle beside %v", e)
		}
	}
}

// TestLikenessOfOneNode: a maker may give one node again and again; what is like it is another one.
func TestLikenessOfOneNode(t *testing.T) {
	inner := laden(t, api.Plugin{Kind: "toy.x", Like: "num.min"})
	kids := units(2)
	one, e := inner.Make(leaf("toy.x"), kids...)
	if e != nil {
		t.Fatal(e)
	}
	k, e := kit.New("toy", []api.Row{{Kind: "toy.x", Min: 2, Max: 2, Abilities: []string{"Strict", "Pure", "Total", "Sorted"}}}, func(api.Tree, ...*node.Handle) *node.Handle { return one })
	if e != nil {
		t.Fatal(e)
	}
	s := shelf(t, k)
	for _, kind := range []string{"my.x", "my.y"} {
		told(t, "P16.2", kind, s.Add(api.Plugin{Kind: kind, Like: "toy.x"}), api.OK)
		n := made(t, s, leaf(kind), kids...)
		holds(t, n, leaf(kind), kids...)
		if n.(api.Strict).Op() != "num.min" || one.Node().Kind() != "toy.x" || made(t, s, leaf(kind), kids...) == n {
			t.Errorf("P16.3: %s: %s", kind, tells(n))
		}
	}
}
