// The tests of P18.1 to P18.5, through the package's face.
package stem_test

import (
	"fmt"
	"math"
	"slices"
	"strings"
	"testing"

	"espalier/api"
	"espalier/fault"
	"espalier/set"
	"espalier/stem"
	"espalier/tree"
)

func of(kind string, kids ...api.Tree) api.Tree { return api.Tree{Kind: kind, Kids: kids} }

func with(kind, text string, kids ...api.Tree) api.Tree {
	return api.Tree{Kind: kind, Text: text, Kids: kids}
}

func number(n int64) api.Tree { return api.Tree{Kind: "base.int", Num: n} }

func use(name string) api.Tree { return with("base.var", name) }

const allKits = "num truth words list bind call flow guard"

func like(kind, other string) api.Plugin { return api.Plugin{Kind: kind, Like: other} }

// two is a plugin: its kid, added to itself.
func two(kind string) api.Plugin {
	i := api.Sort{Name: "int"}
	return api.Plugin{
		Kind: kind, Arity: 1, Template: of("num.add", use("1"), use("1")),
		Signature: api.Signature{Ins: []api.Sort{i}, Out: i}, Has: []string{"Pure", "Sorted", "Sugar"},
	}
}

func under(t *testing.T, kits string, ps ...api.Plugin) *set.Set {
	t.Helper()
	s, e := set.New(strings.Fields(kits), ps...)
	if e != nil {
		t.Fatalf("%s: %v", kits, e)
	}
	return s
}

func made(t *testing.T, s *set.Set, x api.Tree) *stem.Form {
	t.Helper()
	f, e := stem.New(s, x)
	if e != nil || f == nil {
		t.Fatalf("P18.1: %.100v: %v", x, e)
	}
	return f
}

// abilities has a name of doc/00 in each row, and the two-valued assertion.
func abilities() map[string]func(api.Node) bool {
	return map[string]func(api.Node) bool{
		"Literal": func(n api.Node) bool { _, ok := n.(api.Literal); return ok },
		"Strict":  func(n api.Node) bool { _, ok := n.(api.Strict); return ok },
		"Lazy":    func(n api.Node) bool { _, ok := n.(api.Lazy); return ok },
		"Binder":  func(n api.Node) bool { _, ok := n.(api.Binder); return ok },
		"User":    func(n api.Node) bool { _, ok := n.(api.User); return ok },
		"Caller":  func(n api.Node) bool { _, ok := n.(api.Caller); return ok },
		"Pure":    func(n api.Node) bool { _, ok := n.(api.Pure); return ok },
		"Total":   func(n api.Node) bool { _, ok := n.(api.Total); return ok },
		"Sorted":  func(n api.Node) bool { _, ok := n.(api.Sorted); return ok },
		"Sugar":   func(n api.Node) bool { _, ok := n.(api.Sugar); return ok },
		"Framed":  func(n api.Node) bool { _, ok := n.(api.Framed); return ok },
		"Wrapped": func(n api.Node) bool { _, ok := n.(api.Wrapped); return ok },
		"Origin":  func(n api.Node) bool { _, ok := n.(api.Origin); return ok },
		"Opaque":  func(n api.Node) bool { _, ok := n.(api.Opaque); return ok },
	}
}

// noAbilities are texts that name none.
func noAbilities() []string {
	return []string{"", "strict", "STRICT", "Strict ", " Strict", "Stric", "Stricts", "Node", "Coded", "Lacking", "worth", "Op", "Quiet", "num", "base.int", "Pure Total", "Opaque\x00", strings.Repeat("Pure", 1<<18)}
}

// trees are such as may be, of all kits and of nobody's kinds.
func trees() []api.Tree {
	deep := of("geo.far")
	for i := range 63 {
		deep = of([]string{"num.neg", "geo.far", "truth.not"}[i%3], deep)
	}
	return []api.Tree{
		of("base.unit"), number(-5), with("base.text", "\x00\xff"), use("x"), use("64"), of("base.frame", number(1), number(2), use("2")),
		of("num.add", number(1), of("num.sum", number(2), number(3))), of("truth.if", of("base.yes"), of("truth.same", use("x"), use("y")), of("base.no")),
		of("words.all", with("base.text", "a"), of("words.size", with("base.text", "b"))), with("list.map", "x", of("list.of", number(1)), use("x")),
		with("bind.star", "x y", number(1), use("x"), use("y")), with("bind.let", "x", number(1), of("geo.far", use("x"))), with("call.by", "x", number(1), with("call.to", "f", use("x"))),
		of("flow.seq", of("flow.emit", number(1)), of("flow.twice", of("no.body"))), with("guard.catch", "x", of("guard.raise", use("x")), use("x")),
		of("truth.not", of("geo.far", of("base.yes"))), of("geo.far", of("truth.not", of("geo.near", of("my.two", number(4)))), of("geo.far", of("no.body"), number(2), of("no.body", of("geo.far")))),
		{Kind: "no.thing", Num: math.MinInt64, Text: strings.Repeat("\xff", 16384), Kids: []api.Tree{of("base.unit")}}, of("num.nothing", number(1)), of("base.nothing"), deep,
		of("my.two", of("my.plus", number(1), of("my.two", use("x")))), of("geo.far", slices.Repeat([]api.Tree{of("no.body", number(7))}, 20)...),
	}
}

// sets are some under which all of trees fit.
func sets(t *testing.T) map[string]*set.Set {
	t.Helper()
	return map[string]*set.Set{
		"none": under(t, ""), "zero": {}, "truth": under(t, "truth"), "all": under(t, allKits),
		"with plugins": under(t, "num list", two("my.two"), like("my.plus", "num.add"), like("geo.far", "list.of")),
		"all with one": under(t, allKits, like("no.body", "list.of")),
	}
}

// told fails, unless an error is that number and tells nothing else.
func told(t *testing.T, promise, what string, e error, want api.Errno) {
	t.Helper()
	if !fault.Same(e, fault.New(want)) {
		t.Errorf("%s: %s: %v, not error %d alone", promise, what, e, want)
	}
}

// look is all that a form tells of its nodes.
func look(t *testing.T, f *stem.Form) string {
	t.Helper()
	out := fmt.Sprint(f.Lost())
	for path, x := range tree.Each(f.Plain()) {
		n, ok := f.At(path)
		if !ok {
			t.Fatalf("P18.2: no node at %v", path)
		}
		out += fmt.Sprintf("\n%v %d %s %d %q %d", path, x.Num, n.Kind(), n.Num(), n.Text(), n.Len())
		for _, a := range strings.Fields("Literal Strict Lazy Binder User Caller Pure Total Sorted Sugar Framed Wrapped Origin Opaque") {
			has, e := f.Has(path, a)
			out += fmt.Sprint(" ", has, e)
		}
	}
	return out
}

func TestNew(t *testing.T) {
	for name, s := range sets(t) {
		for i, x := range trees() {
			f, e := stem.New(s, x)
			if f == nil || e != nil {
				t.Errorf("P18.1: tree %d under %s: %v", i, name, e)
			}
		}
	}
}

func TestNewOfNoSet(t *testing.T) {
	for i, x := range slices.Concat(trees(), misfits(), beyond()) {
		f, e := stem.New(nil, x)
		if f != nil {
			t.Errorf("P18.1: tree %d under nil: a form", i)
		}
		told(t, "P18.1", fmt.Sprint("under nil: tree ", i), e, api.ErrArg)
	}
}

// misfits are trees that may be, and don't fit a set of all kits.
func misfits() []api.Tree {
	return []api.Tree{
		of("truth.not"), of("num.add", number(1)), of("geo.far", of("base.unit"), of("num.neg")), of("geo.far", of("truth.not", of("num.neg")), of("num.neg")), with("base.var", "65"), {Kind: "base.unit", Num: 1},
		with("base.yes", "x"), with("call.to", "1f"), with("bind.star", "x", number(1), number(2), number(3)), of("base.frame"), of("num.neg", number(1), number(2)),
	}
}

// beyond are trees that may not be.
func beyond() []api.Tree {
	ring := make([]api.Tree, 2)
	ring[0], ring[1] = of("geo.far", ring...), of("geo.far", ring...)
	deep := of("geo.far")
	for range 64 {
		deep = of("geo.far", deep)
	}
	return []api.Tree{
		{}, of("x"), of("A.b"), of("geo.far", of("geo.far", of("geo."))), of("truth.not", of("no.body", of("a.b.c"))), of("truth.not", of(""), number(1)), ring[0], deep,
		of("geo.far", slices.Repeat([]api.Tree{of("truth.not")}, 1024)...), with("geo.far", strings.Repeat("x", 16385)), with("geo.far", strings.Repeat("x", 8192), with("A.b", strings.Repeat("x", 8193))),
	}
}

func TestNewOfWhatDoesNotFit(t *testing.T) {
	s := under(t, allKits)
	for i, x := range slices.Concat(misfits(), beyond()) {
		f, e := stem.New(s, x)
		_, want := s.Tree(x)
		if f != nil || want == nil || !fault.Same(e, want) {
			t.Errorf("P18.1: tree %d: %v, not %v; a form %v", i, e, want, f != nil)
		}
	}
	for i, x := range beyond() {
		f, e := stem.New(under(t, ""), x)
		want := fault.New(tree.May(x))
		if f != nil || want == nil || !fault.Same(e, want) {
			t.Errorf("P18.1: tree %d: %v, not %v; a form %v", i, e, want, f != nil)
		}
	}
	for i, x := range misfits() {
		if _, e := stem.New(under(t, ""), x); e != nil != strings.HasPrefix(x.Kind, "base.") {
			t.Errorf("P18.1: tree %d of unknown kinds: %v", i, e)
		}
	}
	_, e := stem.New(under(t, "truth"), of("truth.not"))
	if !fault.Same(e, fault.At(api.ErrCount, api.Place{})) {
		t.Errorf("P18.1: truth.not without kids: %v", e)
	}
	_, e = stem.New(under(t, "num truth"), of("geo.far", of("base.yes"), of("truth.not", of("num.neg"))))
	if !fault.Same(e, fault.At(api.ErrCount, api.Place{Path: []int{1, 0}})) {
		t.Errorf("P18.1: num.neg within, without kids: %v", e)
	}
}

func TestRootAndAt(t *testing.T) {
	for name, s := range sets(t) {
		for i, x := range trees() {
			f := made(t, s, x)
			for path, y := range tree.Each(x) {
				what := fmt.Sprintf("tree %d under %s at %v", i, name, path)
				n, ok := f.At(path)
				if !ok || n.Kind() != y.Kind || n.Num() != y.Num || n.Text() != y.Text || n.Len() != len(y.Kids) {
					t.Fatalf("P18.2: %s: %v", what, ok)
				}
				if again, _ := f.At(path); again != n {
					t.Errorf("P18.2: %s: another node", what)
				}
				if len(path) == 0 && n != f.Root() {
					t.Errorf("P18.2: %s: not the root", what)
				}
				if above, _ := f.At(path[:max(0, len(path)-1)]); len(path) > 0 && above.Kid(path[len(path)-1]) != n {
					t.Errorf("P18.2: %s: not its parent's kid", what)
				}
				for _, k := range []int{-1, len(y.Kids), len(y.Kids) + 1, math.MinInt, math.MaxInt} {
					none := append(slices.Clone(path), k)
					for _, p := range [][]int{none, append(none, 0), append(none, -1, 0)} {
						if n, ok := f.At(p); n != nil || ok {
							t.Errorf("P18.2: %s: a node at %v", what, p)
						}
					}
				}
			}
		}
	}
	f := made(t, under(t, "truth"), of("truth.not", of("base.yes")))
	for _, p := range [][]int{make([]int, 1<<20), slices.Repeat([]int{-1}, 1<<20)} {
		if n, ok := f.At(p); n != nil || ok {
			t.Errorf("P18.2: a node at the end of a path of %d", len(p))
		}
	}
	if n, ok := f.At([]int{}); !ok || n != f.Root() {
		t.Errorf("P0.4: an empty path")
	}
}

func TestHas(t *testing.T) {
	for name, s := range sets(t) {
		for i, x := range trees() {
			f := made(t, s, x)
			for path, y := range tree.Each(x) {
				n, _ := f.At(path)
				for a, of := range abilities() {
					has, e := f.Has(path, a)
					_, known := s.Row(y.Kind)
					if has != of(n) || has != (known && s.Can(y.Kind, a) || !known && a == "Opaque") || e != nil {
						t.Errorf("P18.2: tree %d under %s at %v: %s: %v, %v", i, name, path, a, has, e)
					}
				}
			}
		}
	}
}

func TestHasOfNone(t *testing.T) {
	f := made(t, under(t, "truth"), of("truth.not", of("geo.far", of("base.yes"))))
	var names []string
	for a := range abilities() {
		names = append(names, a)
	}
	for _, a := range slices.Concat(names, noAbilities()) {
		for _, path := range [][]int{{5}, {-1}, {1}, {0, 1}, {0, 0, 0}, {1, 0}, {math.MaxInt}, make([]int, 1<<16)} {
			has, e := f.Has(path, a)
			told(t, "P18.2", fmt.Sprintf("%.20q at %.20v", a, path), e, api.ErrNone)
			if has {
				t.Errorf("P0.2: %.20q at %.20v holds", a, path)
			}
		}
	}
	for _, a := range noAbilities() {
		for _, path := range [][]int{nil, {0}, {0, 0}} {
			has, e := f.Has(path, a)
			told(t, "P18.2", fmt.Sprintf("%.20q at %v", a, path), e, api.ErrArg)
			if has {
				t.Errorf("P0.2: %.20q at %v holds", a, path)
			}
		}
	}
}

func TestExample(t *testing.T) {
	f := made(t, under(t, "truth"), of("truth.not", of("geo.far", of("base.yes"))))
	if lost := f.Lost(); len(lost) != 1 || !slices.Equal(lost[0], []int{0}) {
		t.Errorf("P18.3: %v", lost)
	}
	n, _ := f.At([]int{0})
	if o, ok := n.(api.Opaque); !ok || o.Lost() != "geo" {
		t.Errorf("P18.2: geo.far is Opaque")
	}
	n, _ = f.At([]int{0, 0})
	if l, ok := n.(api.Literal); !ok || l.Worth() != api.Value(api.Truth(true)) {
		t.Errorf("P18.2: base.yes is Literal")
	}
	for _, c := range []struct {
		path []int
		a    string
		want bool
	}{{nil, "Strict", true}, {[]int{0}, "Strict", false}, {[]int{0}, "Opaque", true}, {[]int{0, 0}, "Literal", true}, {[]int{0, 0}, "Total", true}, {nil, "Wrapped", false}, {[]int{0}, "Origin", false}} {
		if has, e := f.Has(c.path, c.a); has != c.want || e != nil {
			t.Errorf("P18.2: %s at %v: %v, %v", c.a, c.path, has, e)
		}
	}
}

// unknown tells the paths of the nodes whose kinds a set does not know, by the words of P18.3.
func unknown(s *set.Set, x api.Tree) [][]int {
	var paths [][]int
	for path, y := range tree.Each(x) {
		if _, ok := s.Row(y.Kind); !ok {
			paths = append(paths, path)
		}
	}
	return paths
}

func samePaths(a, b [][]int) bool { return slices.EqualFunc(a, b, slices.Equal) }

func TestPlainAndLost(t *testing.T) {
	for name, s := range sets(t) {
		for i, x := range trees() {
			f := made(t, s, x)
			if !tree.Same(f.Plain(), x) {
				t.Errorf("P18.3: tree %d under %s: Plain %.200v", i, name, f.Plain())
			}
			if got, want := f.Lost(), unknown(s, x); !samePaths(got, want) {
				t.Errorf("P18.3: tree %d under %s: Lost %v, not %v", i, name, got, want)
			}
		}
	}
	x := of("geo.far", of("truth.not", of("geo.near", of("geo.far"), number(1))), number(2), of("geo.far", of("base.unit"), of("no.body")))
	want := [][]int{{}, {0, 0}, {0, 0, 0}, {2}, {2, 1}}
	if got := made(t, under(t, "truth"), x).Lost(); !samePaths(got, want) {
		t.Errorf("P18.3: Lost %v", got)
	}
	if got := made(t, under(t, "truth"), of("truth.not", of("base.yes"))).Lost(); len(got) != 0 {
		t.Errorf("P18.3: Lost %v where all is known", got)
	}
	many := of("geo.far", slices.Repeat([]api.Tree{of("no.body")}, 1023)...)
	if got := made(t, under(t, ""), many).Lost(); len(got) != 1024 || !slices.Equal(got[1023], []int{1022}) {
		t.Errorf("P18.3: %d paths of 1024", len(got))
	}
}
