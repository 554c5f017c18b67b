// The tests of P19.1 to P19.6, through the package's face.
package prog_test

import (
	"fmt"
	"math"
	"reflect"
	"slices"
	"strings"
	"testing"

	"espalier/api"
	"espalier/fault"
	"espalier/node"
	"espalier/prog"
	"espalier/set"
	"espalier/sort"
	"espalier/tree"
)

func of(kind string, kids ...api.Tree) api.Tree { return api.Tree{Kind: kind, Kids: kids} }

func with(kind, text string, kids ...api.Tree) api.Tree {
	return api.Tree{Kind: kind, Text: text, Kids: kids}
}

func number(n int64) api.Tree { return api.Tree{Kind: "base.int", Num: n} }

func use(name string) api.Tree { return with("base.var", name) }

// many is a tree of an unknown kind with so many nodes.
func many(nodes int) api.Tree {
	return of("geo.far", slices.Repeat([]api.Tree{of("base.unit")}, nodes-1)...)
}

const allKits = "num truth words list bind call flow guard"

func like(kind, other string) api.Plugin { return api.Plugin{Kind: kind, Like: other} }

func under(t *testing.T, kits string, ps ...api.Plugin) *set.Set {
	t.Helper()
	s, e := set.New(strings.Fields(kits), ps...)
	if e != nil {
		t.Fatalf("%s: %v", kits, e)
	}
	return s
}

// sortOf reads a sort; a text of none gives a sort that may not be.
func sortOf(text string) api.Sort {
	s, _, e := sort.Read(text)
	if e != api.OK {
		return api.Sort{Name: text}
	}
	return s
}

// fun gives a function: its head as in f(x int, y list a) text.
func fun(head string, body api.Tree) api.Fun {
	name, rest, _ := strings.Cut(head, "(")
	params, result, _ := strings.Cut(rest, ") ")
	f := api.Fun{Name: name, Result: sortOf(result), Body: body}
	for _, param := range strings.Split(params, ", ") {
		if x, s, ok := strings.Cut(param, " "); ok {
			f.Params = append(f.Params, api.Param{Name: x, Sort: sortOf(s)})
		}
	}
	return f
}

func program(main api.Tree, funs ...api.Fun) api.Program { return api.Program{Funs: funs, Main: main} }

// numbered are functions with names that no other ones have.
func numbered(count int, body api.Tree) []api.Fun {
	var funs []api.Fun
	for i := range count {
		funs = append(funs, fun(fmt.Sprintf("n_%d() unit", i), body))
	}
	return funs
}

func made(t *testing.T, s *set.Set, q api.Program) *prog.Prog {
	t.Helper()
	p, e := prog.New(s, q)
	if e != nil || p == nil {
		t.Fatalf("P19.1: %.200v: %v", q, e)
	}
	return p
}

// programs are such as fit each of sets.
func programs() []api.Program {
	return append(light(), program(many(1024), numbered(15, many(1024))...), program(of("base.unit"), numbered(256, of("geo.near", number(1)))...))
}

// light are those that have not as many nodes, or functions, as may be.
func light() []api.Program {
	deep := of("geo.far")
	for i := range 63 {
		deep = of([]string{"num.neg", "geo.far", "truth.not"}[i%3], deep)
	}
	unit := of("base.unit")
	heads := "f(x list list a, y b) list a|g(f int, x int) int|main() text|_(a unit) a|" + strings.Repeat("Z", 32) + "(" + strings.Repeat("z", 32) + " a) a"
	var funs []api.Fun
	for i, head := range strings.Split(heads, "|") {
		funs = append(funs, fun(head, []api.Tree{use("x"), of("num.add", use("f"), of("geo.near", use("x"))), with("base.text", "\x00\xff"), deep, with("call.to", "f", number(1))}[i]))
	}
	return []api.Program{
		program(unit), program(number(-5)), program(deep), program(unit, fun("f() unit", unit)), program(of("num.neg", of("geo.far", of("geo.near"))), funs...),
		program(of("geo.far", unit, of("geo.far", number(1), of("num.neg", number(2)), of("no.body")), of("my.plus", number(1), number(2))), funs[2:]...),
		program(with("call.to", "nobody", use("x")), fun("f() int", use("unbound")), fun("g() truth", number(1))),
		program(api.Tree{Kind: "no.thing", Num: math.MinInt64, Text: strings.Repeat("\xff", 16384), Kids: []api.Tree{unit}}, fun("f(a int, b int, c int, d int, e int, f int, g int, h int, i int, j int, k int, l int, m int, n int, o int, p int) int", use("p"))),
		program(with("bind.let", "x", number(1), use("x")), fun("f(x "+strings.Repeat("list ", 64)+"a) "+strings.Repeat("list ", 64)+"int", with("list.map", "x", of("list.of"), of("flow.seq", use("x"), of("no.body"))))),
	}
}

// sets are some under which all of programs fit.
func sets(t *testing.T) map[string]*set.Set {
	t.Helper()
	return map[string]*set.Set{
		"none": under(t, ""), "zero": {}, "num": under(t, "num"), "all": under(t, allKits),
		"with plugins": under(t, "num list", like("my.plus", "num.add"), like("geo.far", "list.of")),
	}
}

// told fails, unless two errors tell the same.
func told(t *testing.T, promise, what string, e, want error) {
	t.Helper()
	if want == nil || !fault.Same(e, want) {
		t.Errorf("%s: %s: %v, not %v", promise, what, e, want)
	}
}

// refused fails, unless there is no program, and an error that tells the same.
func refused(t *testing.T, promise, what string, p *prog.Prog, e, want error) {
	t.Helper()
	told(t, promise, what, e, want)
	if p != nil {
		t.Errorf("%s: %s: a program", promise, what)
	}
}

func TestNew(t *testing.T) {
	for name, s := range sets(t) {
		for i, q := range programs() {
			p, e := prog.New(s, q)
			if p == nil || e != nil {
				t.Errorf("P19.1: program %d under %s: %v", i, name, e)
			}
			p, e = prog.New(nil, q)
			refused(t, "P19.1", fmt.Sprintf("program %d under nil", i), p, e, fault.New(api.ErrArg))
		}
	}
	p, e := prog.New(nil, api.Program{})
	refused(t, "P19.1", "the zero program under nil", p, e, fault.New(api.ErrArg))
	p, e = prog.New(under(t, ""), api.Program{})
	refused(t, "P19.1", "the zero program", p, e, fault.At(api.ErrName, api.Place{}))
}

func TestNewExamples(t *testing.T) {
	s, unit := under(t, "num call"), of("base.unit")
	for _, c := range []struct {
		q    api.Program
		want error
	}{
		{program(unit, fun("f() unit", unit), fun("f() unit", unit)), fault.New(api.ErrTwice)}, {program(unit, fun("1f() unit", unit)), fault.New(api.ErrName)},
		{program(unit, fun("f(x int, x int) unit", unit)), fault.New(api.ErrTwice)}, {program(unit, fun("f() lost", unit)), fault.New(api.ErrSort)},
		{program(of("num.add", number(1))), fault.At(api.ErrCount, api.Place{})}, {program(of("num.add", number(1), of("num.neg"))), fault.At(api.ErrCount, api.Place{Path: []int{1}})},
	} {
		p, e := prog.New(s, c.q)
		refused(t, "P19.1", fmt.Sprint(c.q), p, e, c.want)
	}
	if lost := made(t, s, program(of("geo.far", of("num.neg", number(1))))).Lost(); !samePlaces(lost, []api.Place{{}}) {
		t.Errorf("P19.3: Lost %v", lost)
	}
	p := made(t, s, program(of("num.neg", number(1)), fun("f() unit", unit)))
	if got := p.Places(); !samePlaces(got, []api.Place{{Fun: "f"}, {}, {Path: []int{0}}}) {
		t.Errorf("P19.3: Places %v", got)
	}
	if n, ok := p.At(api.Place{Fun: "f"}); !ok || n.Kind() != "base.unit" {
		t.Errorf("P19.3: At f ()")
	}
	for _, at := range []api.Place{{Fun: "f", Path: []int{0}}, {Fun: "g"}} {
		if n, ok := p.At(at); n != nil || ok {
			t.Errorf("P19.3: At %v: %v", at, n)
		}
	}
}

// spoiling is what makes a program one that is refused, and the error.
type spoiling struct {
	what string
	of   func(*api.Program)
	want error
}

func sound() api.Program {
	return program(of("num.neg", with("call.to", "f", number(1), number(2))), fun("f(x int, y int) int", of("num.add", use("x"), use("y"))), fun("g(z a) a", use("z")))
}

// spoilings are of the sound program, in the order in which P19.1 names errors.
func spoilings() []spoiling {
	misfit := of("geo.far", number(1), of("geo.far", of("num.neg"), of("num.neg")))
	seventeen := func(f *api.Fun) {
		for i := len(f.Params); i < 17; i++ {
			f.Params = append(f.Params, api.Param{Name: fmt.Sprint("more_", i), Sort: sortOf("int")})
		}
	}
	alone := func(e api.Errno) error { return fault.New(e) }
	return []spoiling{
		{"functions", func(q *api.Program) { q.Funs = append(q.Funs, numbered(255, of("base.unit"))...) }, alone(api.ErrLong)},
		{"f's name", func(q *api.Program) { q.Funs[0].Name = "f " }, alone(api.ErrName)},
		{"f's parameters", func(q *api.Program) { seventeen(&q.Funs[0]) }, alone(api.ErrLong)},
		{"x's name", func(q *api.Program) { q.Funs[0].Params[0].Name = "1" }, alone(api.ErrName)},
		{"x's sort", func(q *api.Program) { q.Funs[0].Params[0].Sort = sortOf("lost") }, alone(api.ErrSort)},
		{"y's name", func(q *api.Program) { q.Funs[0].Params[1].Name = q.Funs[0].Params[0].Name }, alone(api.ErrTwice)},
		{"y's sort", func(q *api.Program) { q.Funs[0].Params[1].Sort = sortOf("list") }, alone(api.ErrSort)},
		{"f's result", func(q *api.Program) { q.Funs[0].Result = sortOf("A") }, alone(api.ErrSort)},
		{"f's body", func(q *api.Program) { q.Funs[0].Body = misfit }, fault.At(api.ErrCount, api.Place{Fun: "f", Path: []int{1, 0}})},
		{"g's name", func(q *api.Program) { q.Funs[1].Name = q.Funs[0].Name }, alone(api.ErrTwice)},
		{"g's parameters", func(q *api.Program) { seventeen(&q.Funs[1]) }, alone(api.ErrLong)},
		{"z's name", func(q *api.Program) { q.Funs[1].Params[0].Name = "" }, alone(api.ErrName)},
		{"g's result", func(q *api.Program) { q.Funs[1].Result = api.Sort{} }, alone(api.ErrSort)},
		{"g's body", func(q *api.Program) { q.Funs[1].Body = of("geo.far", of("num.neg"), of("x")) }, fault.At(api.ErrName, api.Place{Fun: "g"})},
		{"the main tree", func(q *api.Program) { q.Main = many(1025) }, fault.At(api.ErrLong, api.Place{})},
		{"all trees", func(q *api.Program) { q.Funs = append(q.Funs, numbered(16, many(1024))...) }, alone(api.ErrLong)},
	}
}

func TestNewRefusesTheFirst(t *testing.T) {
	s := under(t, allKits)
	made(t, s, sound())
	for i, first := range spoilings() {
		for _, later := range spoilings()[i:] {
			q := sound()
			first.of(&q)
			if later.what != first.what {
				later.of(&q)
			}
			p, e := prog.New(s, q)
			refused(t, "P19.1", first.what+", "+later.what, p, e, first.want)
			p, e = prog.New(nil, q)
			refused(t, "P19.1", first.what+" under nil", p, e, fault.New(api.ErrArg))
		}
	}
}

// misfits are trees that a set of all kits refuses.
func misfits() []api.Tree {
	ring := make([]api.Tree, 2)
	ring[0], ring[1] = of("geo.far", ring...), of("geo.far", ring...)
	deep := of("geo.far")
	for range 64 {
		deep = of("geo.far", deep)
	}
	return []api.Tree{
		{}, of("x"), of("A.b"), of("geo.far", of("num.neg"), of("geo.")), of("num.neg", of("a.b.c")), ring[0], deep, many(1025), with("geo.far", strings.Repeat("x", 16385)),
		of("num.add", number(1)), of("geo.far", of("base.unit"), of("num.neg")), of("geo.far", of("truth.not", of("num.neg")), of("num.neg")), with("base.var", "65"), {Kind: "base.unit", Num: 1},
		of("geo.far", of("geo.near", use("x"), use("1x"), use("2x"))), with("call.to", "1f"), with("bind.star", "x", number(1), number(2), number(3)), of("base.frame"), of("num.neg", number(1), number(2)),
	}
}

func TestNewOfTrees(t *testing.T) {
	s := under(t, allKits)
	for i, x := range misfits() {
		_, e := s.Tree(x)
		in, _ := fault.Place(e)
		at := func(name string) error { return fault.At(fault.Code(e), api.Place{Fun: name, Path: in.Path}) }
		what := fmt.Sprint("tree ", i)
		p, e := prog.New(s, program(x))
		refused(t, "P19.1", what+" as main", p, e, at(""))
		p, e = prog.New(s, program(of("num.neg"), fun("g() int", of("base.unit")), fun("f(x int) int", x), fun("f() int", x)))
		refused(t, "P19.1", what+" as a body", p, e, at("f"))
	}
	for _, c := range []struct {
		x    api.Tree
		want error
	}{
		{of("x"), fault.At(api.ErrName, api.Place{Fun: "f"})}, {of("geo.far", of("base.unit"), of("x")), fault.At(api.ErrName, api.Place{Fun: "f"})}, {many(1025), fault.At(api.ErrLong, api.Place{Fun: "f"})},
		{of("num.neg"), fault.At(api.ErrCount, api.Place{Fun: "f"})}, {of("geo.far", number(1), api.Tree{Kind: "base.unit", Num: 1}), fault.At(api.ErrFit, api.Place{Fun: "f", Path: []int{1}})},
	} {
		p, e := prog.New(s, program(of("x"), fun("f() unit", c.x)))
		refused(t, "P19.1", fmt.Sprintf("%.50v", c.x), p, e, c.want)
	}
	p := made(t, under(t, ""), program(of("num.neg"), fun("f() int", of("num.add"))))
	if len(p.Lost()) != 2 {
		t.Errorf("P19.1: kinds that nobody knows fit")
	}
}

func TestNewOfNames(t *testing.T) {
	s, unit := under(t, ""), of("base.unit")
	for _, name := range []string{"", "1", "1f", "f ", " f", "f.g", "-", "f:", "ä", "f\x00", strings.Repeat("x", 33), strings.Repeat("x", 1<<20)} {
		f, g := fun("f() unit", unit), fun("f(x int) unit", unit)
		f.Name, g.Params[0].Name = name, name
		p, e := prog.New(s, program(unit, f))
		refused(t, "P19.1", fmt.Sprintf("a function %.40q", name), p, e, fault.New(api.ErrName))
		p, e = prog.New(s, program(unit, g))
		refused(t, "P19.1", fmt.Sprintf("a parameter %.40q", name), p, e, fault.New(api.ErrName))
	}
	for _, name := range []string{"f", "_", "x_1", "main", "Z9", strings.Repeat("x", 32)} {
		made(t, s, program(unit, fun(name+"("+name+" int) unit", unit), fun("other("+name+" int) unit", unit)))
	}
	p, e := prog.New(s, program(unit, fun("f() unit", unit), fun("F() unit", unit), fun("f_() unit", unit), fun("f(x int) int", unit)))
	refused(t, "P19.1", "two functions f", p, e, fault.New(api.ErrTwice))
	p, e = prog.New(s, program(unit, fun("f(x int, X int, y int, x text) unit", unit)))
	refused(t, "P19.1", "two parameters x", p, e, fault.New(api.ErrTwice))
}

func TestNewOfSorts(t *testing.T) {
	s, unit := under(t, ""), of("base.unit")
	ring := make([]api.Sort, 1)
	ring[0] = api.Sort{Name: "list", Of: ring}
	deep := sortOf(strings.Repeat("list ", 64) + "int")
	for i, bad := range []api.Sort{
		{}, {Name: "lost"}, {Name: "list"}, {Name: "unit", Of: []api.Sort{{Name: "int"}}}, {Name: "A"}, {Name: "ab"}, {Name: "list", Of: []api.Sort{{Name: "int"}, {Name: "int"}}},
		{Name: "list", Of: []api.Sort{{Name: "list", Of: []api.Sort{{}}}}}, ring[0], {Name: "list", Of: []api.Sort{deep}},
	} {
		f, g := fun("f() unit", unit), fun("f(x int, y int) unit", unit)
		f.Result, g.Params[1].Sort = bad, bad
		p, e := prog.New(s, program(unit, f))
		refused(t, "P19.1", fmt.Sprint("result ", i), p, e, fault.New(api.ErrSort))
		p, e = prog.New(s, program(unit, g))
		refused(t, "P19.1", fmt.Sprint("parameter of sort ", i), p, e, fault.New(api.ErrSort))
	}
	for _, good := range []api.Sort{deep, {Name: "a"}, {Name: "z", Of: []api.Sort{}}, {Name: "list", Of: []api.Sort{{Name: "list", Of: []api.Sort{{Name: "b"}}}}}} {
		f := fun("f(x int) unit", unit)
		f.Result, f.Params[0].Sort = good, good
		p := made(t, s, program(unit, f))
		if got, _, _ := p.Fun(0); !sort.Same(got.Result, good) || !sort.Same(got.Params[0].Sort, good) {
			t.Errorf("P19.2: %v", got)
		}
	}
}

func TestNewOfManyNodes(t *testing.T) {
	s := under(t, "num")
	for _, c := range []struct {
		q    api.Program
		want error
	}{
		{program(many(1024), numbered(15, many(1024))...), nil}, {program(many(1), append(numbered(15, many(1024)), fun("f() int", many(1023)))...), nil}, {program(many(64), numbered(255, many(64))...), nil},
		{program(many(1), numbered(16, many(1024))...), fault.New(api.ErrLong)}, {program(many(1024), append(numbered(15, many(1024)), fun("f() int", many(1)))...), fault.New(api.ErrLong)},
		{program(many(65), numbered(255, many(64))...), fault.New(api.ErrLong)}, {program(many(1024), numbered(256, many(1024))...), fault.New(api.ErrLong)},
		{program(of("num.neg"), numbered(256, many(1024))...), fault.At(api.ErrCount, api.Place{})}, {program(many(1), numbered(257, of("x"))...), fault.New(api.ErrLong)}, {program(many(1), numbered(1<<16, many(1))...), fault.New(api.ErrLong)},
	} {
		p, e := prog.New(s, c.q)
		if c.want != nil {
			refused(t, "P19.1", fmt.Sprint(len(c.q.Funs), " functions"), p, e, c.want)
		} else if p == nil || e != nil {
			t.Errorf("P19.1: %d functions: %v", len(c.q.Funs), e)
		}
	}
}

func sameFun(a, b api.Fun) bool {
	param := func(x, y api.Param) bool { return x.Name == y.Name && sort.Same(x.Sort, y.Sort) }
	return a.Name == b.Name && slices.EqualFunc(a.Params, b.Params, param) && sort.Same(a.Result, b.Result) && tree.Same(a.Body, b.Body)
}

func samePlain(a, b api.Program) bool {
	return slices.EqualFunc(a.Funs, b.Funs, sameFun) && tree.Same(a.Main, b.Main)
}

func samePlaces(a, b []api.Place) bool {
	return slices.EqualFunc(a, b, func(x, y api.Place) bool { return x.Fun == y.Fun && slices.Equal(x.Path, y.Path) })
}

// sameNodes tells whether nodes are as a plain tree is.
func sameNodes(n api.Node, x api.Tree) bool {
	plain, e := node.Plain(node.Hold(n))
	return e == nil && tree.Same(plain, x)
}

func TestMainFunPlainAndSet(t *testing.T) {
	for name, s := range sets(t) {
		for i, q := range programs() {
			what := fmt.Sprintf("program %d under %s", i, name)
			p := made(t, s, q)
			if !sameNodes(p.Main(), q.Main) || p.Main() != p.Main() {
				t.Errorf("P19.2: %s: Main", what)
			}
			if p.Funs() != len(q.Funs) || p.Set() != s || !samePlain(p.Plain(), q) {
				t.Errorf("P19.2: %s: %d functions, Plain %.200v", what, p.Funs(), p.Plain())
			}
			for j, want := range q.Funs {
				f, n, ok := p.Fun(j)
				if !ok || !sameFun(f, want) || !sameNodes(n, want.Body) {
					t.Errorf("P19.2: %s: function %d: %.200v", what, j, f)
				}
				if _, again, _ := p.Fun(j); again != n {
					t.Errorf("P19.2: %s: function %d: other nodes", what, j)
				}
			}
			for _, j := range []int{-1, len(q.Funs), len(q.Funs) + 1, math.MinInt, math.MaxInt} {
				if f, n, ok := p.Fun(j); ok || n != nil || !reflect.DeepEqual(f, api.Fun{}) {
					t.Errorf("P19.2: %s: function %d: %v", what, j, f)
				}
			}
		}
	}
}

// spots are the places of a plain program's nodes, and the nodes, by the words of P19.3.
func spots(q api.Program) (places []api.Place, nodes []api.Tree) {
	for _, f := range append(slices.Clone(q.Funs), api.Fun{Body: q.Main}) {
		for path, x := range tree.Each(f.Body) {
			places, nodes = append(places, api.Place{Fun: f.Name, Path: path}), append(nodes, x)
		}
	}
	return places, nodes
}

func TestPlacesAndLost(t *testing.T) {
	for name, s := range sets(t) {
		for i, q := range programs() {
			p := made(t, s, q)
			places, nodes := spots(q)
			if got := p.Places(); !samePlaces(got, places) {
				t.Errorf("P19.3: program %d under %s: Places %.300v", i, name, got)
			}
			var lost []api.Place
			for j, at := range places {
				if _, ok := s.Row(nodes[j].Kind); !ok {
					lost = append(lost, at)
				}
			}
			if got := p.Lost(); !samePlaces(got, lost) {
				t.Errorf("P19.3: program %d under %s: Lost %.300v", i, name, got)
			}
		}
	}
	x := of("geo.far", of("num.neg", of("geo.near", of("geo.far"), number(1))), number(2))
	p := made(t, under(t, "num"), program(x, fun("z() int", of("no.body")), fun("a() int", of("num.neg", x))))
	want := []api.Place{
		{Fun: "z"}, {Fun: "a", Path: []int{0}}, {Fun: "a", Path: []int{0, 0, 0}}, {Fun: "a", Path: []int{0, 0, 0, 0}},
		{}, {Path: []int{0, 0}}, {Path: []int{0, 0, 0}},
	}
	if got := p.Lost(); !samePlaces(got, want) {
		t.Errorf("P19.3: Lost %v", got)
	}
}

func TestAtAndFrom(t *testing.T) {
	for name, s := range sets(t) {
		for i, q := range programs() {
			p := made(t, s, q)
			places, nodes := spots(q)
			for j, at := range places {
				what := fmt.Sprintf("program %d under %s at %v", i, name, at)
				n, ok := p.At(at)
				x := nodes[j]
				if !ok || n.Kind() != x.Kind || n.Num() != x.Num || n.Text() != x.Text || n.Len() != len(x.Kids) {
					t.Fatalf("P19.3: %s: %v", what, ok)
				}
				if from, ok := p.From(at); !ok || !samePlaces([]api.Place{from}, []api.Place{at}) {
					t.Errorf("P19.3: %s: From %v", what, from)
				}
				if _, ok := n.(api.Wrapped); ok {
					t.Errorf("P19.6: %s: a wrapper", what)
				}
				last := len(at.Path) - 1
				if last < 0 {
					if n != root(p, at.Fun) {
						t.Errorf("P19.3: %s: another root", what)
					}
				} else if above, _ := p.At(api.Place{Fun: at.Fun, Path: at.Path[:last]}); above.Kid(at.Path[last]) != n {
					t.Errorf("P19.3: %s: not the kid", what)
				}
			}
		}
	}
}

// root is what Main or Fun tells.
func root(p *prog.Prog, name string) api.Node {
	for i := range p.Funs() {
		if f, n, _ := p.Fun(i); f.Name == name {
			return n
		}
	}
	return p.Main()
}

func TestAtOfNone(t *testing.T) {
	p := made(t, under(t, "num"), program(of("num.neg", of("geo.far", number(1))), fun("f(x int) int", of("base.unit")), fun("g() int", of("geo.far", use("x"), use("y")))))
	none := []api.Place{
		{Fun: "h"}, {Fun: "x"}, {Fun: "F"}, {Fun: "f "}, {Fun: "-"}, {Fun: "\x00"}, {Fun: "1"}, {Fun: "main"}, {Fun: strings.Repeat("f", 1<<20)}, {Fun: "h", Path: []int{0}},
		{Fun: "f", Path: []int{0}}, {Fun: "f", Path: []int{-1}}, {Fun: "g", Path: []int{2}}, {Fun: "g", Path: []int{1, 0}}, {Fun: "g", Path: []int{2, 0}}, {Fun: "g", Path: []int{-1, 0}},
		{Path: []int{1}}, {Path: []int{-1}}, {Path: []int{0, 0, 0}}, {Path: []int{0, 1}}, {Path: []int{math.MaxInt}}, {Path: []int{math.MinInt, 0}}, {Path: make([]int, 1<<20)},
	}
	for _, at := range none {
		if n, ok := p.At(at); n != nil || ok {
			t.Errorf("P19.3: At %.60v: a node", fmt.Sprint(at))
		}
		if from, ok := p.From(at); ok || !reflect.DeepEqual(from, api.Place{}) {
			t.Errorf("P19.3: From %.60v: %v, %v", fmt.Sprint(at), from, ok)
		}
	}
	if n, ok := p.At(api.Place{Path: []int{}}); !ok || n != p.Main() {
		t.Errorf("P0.4: an empty path")
	}
}

func TestUnder(t *testing.T) {
	all := sets(t)
	for a, s := range all {
		for i, q := range light() {
			p := made(t, s, q)
			for b, other := range all {
				u, e := p.Under(other)
				if e != nil || u == nil || u.Set() != other || p.Set() != s || !samePlain(u.Plain(), q) || !prog.Same(p, u) {
					t.Fatalf("P19.4: program %d under %s, then %s: %v", i, a, b, e)
				}
				if !samePlaces(u.Lost(), made(t, other, q).Lost()) {
					t.Errorf("P19.4: program %d under %s, then %s: Lost %.200v", i, a, b, u.Lost())
				}
				back, e := u.Under(s)
				if e != nil || !prog.Same(back, p) || !samePlaces(back.Lost(), p.Lost()) {
					t.Errorf("P19.4: program %d under %s, then %s and back: %v", i, a, b, e)
				}
			}
		}
	}
}

func TestUnderOfWhatDoesNotFit(t *testing.T) {
	none, all := under(t, ""), under(t, allKits)
	for _, c := range []struct {
		q    api.Program
		want error
	}{
		{program(of("num.neg")), fault.At(api.ErrCount, api.Place{})}, {program(of("num.neg"), fun("f() int", of("geo.far", of("truth.not")))), fault.At(api.ErrCount, api.Place{Fun: "f", Path: []int{0}})},
		{program(of("geo.far", with("call.to", "1"))), fault.At(api.ErrFit, api.Place{Path: []int{0}})},
	} {
		p := made(t, none, c.q)
		u, e := p.Under(all)
		refused(t, "P19.4", fmt.Sprint(c.q), u, e, c.want)
		u, e = p.Under(nil)
		refused(t, "P19.4", fmt.Sprint(c.q, " under nil"), u, e, fault.New(api.ErrArg))
		if !samePlain(p.Plain(), c.q) || p.Set() != none {
			t.Errorf("P0.2: %v: another program behind an error", c.q)
		}
	}
	p := made(t, none, program(of("num.neg", of("geo.far"))))
	if _, ok := p.Main().(api.Opaque); !ok {
		t.Errorf("P19.4: nobody knows num.neg")
	}
	u, _ := p.Under(all)
	if s, ok := u.Main().(api.Strict); !ok || s.Op() != "num.neg" {
		t.Errorf("P19.4: num.neg is known")
	}
	if _, ok := p.Main().(api.Opaque); !ok {
		t.Errorf("P19.6: a program has changed")
	}
}

func TestSame(t *testing.T) {
	base := func() api.Program {
		return program(of("geo.far", number(1)), fun("f(x int, y list a) a", use("x")), fun("g() int", of("geo.far", number(1))))
	}
	others := []api.Program{base(), program(of("base.unit")), program(base().Main), program(base().Main, base().Funs[0]), program(base().Main, base().Funs[1], base().Funs[0])}
	for _, change := range []func(*api.Program){
		func(q *api.Program) { q.Funs[0].Name = "h" }, func(q *api.Program) { q.Funs[0].Params[0].Name = "z" }, func(q *api.Program) { q.Funs[0].Params[0].Sort = sortOf("text") },
		func(q *api.Program) { q.Funs[0].Params[1].Sort = sortOf("list b") }, func(q *api.Program) { q.Funs[0].Params = q.Funs[0].Params[:1] }, func(q *api.Program) { slices.Reverse(q.Funs[0].Params) },
		func(q *api.Program) { q.Funs[0].Result = sortOf("b") }, func(q *api.Program) { q.Funs[0].Result = sortOf("list a") }, func(q *api.Program) { q.Funs[0].Body = use("y") },
		func(q *api.Program) { q.Funs[1].Body.Kids[0].Num = 2 }, func(q *api.Program) { q.Funs[1].Body.Kids = nil }, func(q *api.Program) { q.Main.Kids[0].Num = 2 }, func(q *api.Program) { q.Main.Kind = "geo.near" },
		func(q *api.Program) { q.Main.Text = "x" }, func(q *api.Program) { q.Main.Kids = append(q.Main.Kids, number(1)) },
	} {
		q := base()
		change(&q)
		others = append(others, q)
	}
	s, other := under(t, ""), under(t, allKits)
	for i, x := range others {
		for j, y := range others {
			if got := prog.Same(made(t, s, x), made(t, other, y)); got != (i == j) {
				t.Errorf("P19.5: programs %d and %d: %v", i, j, got)
			}
		}
		p := made(t, s, x)
		if !prog.Same(p, p) || prog.Same(p, nil) || prog.Same(nil, p) {
			t.Errorf("P19.5: program %d and nil", i)
		}
	}
	if !prog.Same(nil, nil) {
		t.Errorf("P19.5: nil and nil")
	}
}
