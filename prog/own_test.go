package prog_test

import (
	"fmt"
	"reflect"
	"slices"
	"strings"
	"sync"
	"testing"

	"espalier/api"
	"espalier/fault"
	"espalier/prog"
	"espalier/set"
	"espalier/tree"
)

// look is all that a program tells.
func look(t *testing.T, p *prog.Prog) string {
	t.Helper()
	out := fmt.Sprintf("%v %v %v %d", p.Plain(), p.Lost(), p.Set().Kinds(), p.Funs())
	for i := range p.Funs() {
		f, n, ok := p.Fun(i)
		out += fmt.Sprintf("\n%v %s %v", f, n.Kind(), ok)
	}
	for _, at := range p.Places() {
		n, ok := p.At(at)
		if !ok {
			t.Fatalf("P19.3: no node at %v", at)
		}
		from, too := p.From(at)
		_, opaque := n.(api.Opaque)
		out += fmt.Sprintf("\n%v %s %d %q %d %v %v %v", at, n.Kind(), n.Num(), n.Text(), n.Len(), opaque, from, too)
	}
	return out
}

func TestNoProgram(t *testing.T) {
	unit := program(of("base.unit"))
	want := look(t, made(t, under(t, ""), unit))
	for what, p := range map[string]*prog.Prog{"nil": nil, "zero": {}, "new": new(prog.Prog)} {
		if got := look(t, p); got != want {
			t.Errorf("P19.6: %s: %s", what, got)
		}
		l, ok := p.Main().(api.Literal)
		if !ok || l.Worth() != api.Value(api.Unit{}) || !samePlain(p.Plain(), unit) || !samePlaces(p.Places(), []api.Place{{}}) || len(p.Lost()) != 0 {
			t.Errorf("P19.6: %s: main is not base.unit", what)
		}
		if p.Set() == nil || len(p.Set().Kits()) != 0 || len(p.Set().Plugins()) != 0 || p.Funs() != 0 {
			t.Errorf("P19.6: %s: its set is not empty", what)
		}
		for _, i := range []int{-1, 0, 1, 256} {
			if f, n, ok := p.Fun(i); ok || n != nil || !reflect.DeepEqual(f, api.Fun{}) {
				t.Errorf("P19.6: %s: function %d", what, i)
			}
		}
		for _, at := range []api.Place{{Fun: "f"}, {Fun: "f", Path: []int{0}}, {Path: []int{0}}, {Path: []int{-1}}} {
			n, ok := p.At(at)
			from, too := p.From(at)
			if n != nil || ok || too || !reflect.DeepEqual(from, api.Place{}) {
				t.Errorf("P19.6: %s: a node at %v", what, at)
			}
		}
		for name, s := range sets(t) {
			u, e := p.Under(s)
			if e != nil || u == nil || u.Set() != s || !prog.Same(u, p) && p != nil || !samePlain(u.Plain(), unit) {
				t.Errorf("P19.6: %s under %s: %v", what, name, e)
			}
		}
		u, e := p.Under(nil)
		refused(t, "P19.6", what+" under nil", u, e, fault.New(api.ErrArg))
		if again := made(t, p.Set(), p.Plain()); p != nil && !prog.Same(p, again) || (p == nil) == prog.Same(p, new(prog.Prog)) {
			t.Errorf("P19.6: %s: it is not the same as its like", what)
		}
	}
}

// spoilTree writes into all of a tree, and behind its lists.
func spoilTree(x api.Tree) {
	for i := range x.Kids {
		spoilTree(x.Kids[i])
	}
	for i := range x.Kids[:cap(x.Kids)] {
		x.Kids[:cap(x.Kids)][i] = with("spoilt.kid", "spoilt")
	}
}

func spoilSort(s api.Sort) {
	for i := range s.Of {
		spoilSort(s.Of[i])
	}
	for i := range s.Of[:cap(s.Of)] {
		s.Of[:cap(s.Of)][i] = api.Sort{Name: "spoilt"}
	}
}

func spoilFun(f api.Fun) {
	for _, p := range f.Params {
		spoilSort(p.Sort)
	}
	for i := range f.Params[:cap(f.Params)] {
		f.Params[:cap(f.Params)][i] = api.Param{Name: "spoilt"}
	}
	spoilSort(f.Result)
	spoilTree(f.Body)
}

func spoil(q api.Program) {
	for _, f := range q.Funs {
		spoilFun(f)
	}
	for i := range q.Funs[:cap(q.Funs)] {
		q.Funs[:cap(q.Funs)][i] = api.Fun{Name: "spoilt"}
	}
	spoilTree(q.Main)
}

func spoilPlace(at api.Place) {
	for i := range at.Path[:cap(at.Path)] {
		at.Path[:cap(at.Path)][i] = -7
	}
}

func copiedSort(s api.Sort) api.Sort {
	own := api.Sort{Name: s.Name}
	for _, of := range s.Of {
		own.Of = append(own.Of, copiedSort(of))
	}
	return own
}

// copied is a program in memory of its own, with spare room behind its lists.
func copied(q api.Program) api.Program {
	funs := make([]api.Fun, 0, len(q.Funs)+3)
	for _, f := range q.Funs {
		body, _ := tree.Copy(f.Body)
		g := api.Fun{Name: f.Name, Result: copiedSort(f.Result), Body: body, Params: make([]api.Param, 0, len(f.Params)+2)}
		for _, p := range f.Params {
			g.Params = append(g.Params, api.Param{Name: p.Name, Sort: copiedSort(p.Sort)})
		}
		funs = append(funs, g)
	}
	main, _ := tree.Copy(q.Main)
	return api.Program{Funs: funs, Main: main}
}

func TestWhatIsHandedInIsNotKept(t *testing.T) {
	for name, s := range sets(t) {
		for i, q := range light() {
			own := copied(q)
			p := made(t, s, own)
			if !samePlain(own, q) || slices.ContainsFunc(own.Funs[len(own.Funs):cap(own.Funs)], func(f api.Fun) bool { return f.Name != "" || f.Params != nil }) {
				t.Errorf("P19.6: program %d under %s: what is handed in is changed", i, name)
			}
			for _, f := range own.Funs {
				if slices.ContainsFunc(f.Params[len(f.Params):cap(f.Params)], func(x api.Param) bool { return x.Name != "" }) {
					t.Errorf("P19.6: program %d under %s: what is handed in is changed", i, name)
				}
			}
			before := look(t, p)
			spoil(own)
			if look(t, p) != before || !samePlain(p.Plain(), q) {
				t.Errorf("P19.6: program %d under %s is kept", i, name)
			}
		}
	}
}

func TestPlacesThatAreHandedIn(t *testing.T) {
	p := made(t, under(t, "num"), program(of("num.neg", of("geo.far", number(1)))))
	path := make([]int, 2, 8)
	path[:3][2] = 7
	_, _ = p.At(api.Place{Path: path})
	from, _ := p.From(api.Place{Path: path})
	if !slices.Equal(path[:8], []int{0, 0, 7, 0, 0, 0, 0, 0}) {
		t.Errorf("P19.6: a path is changed: %v", path[:8])
	}
	spoilPlace(from)
	if !slices.Equal(path[:8], []int{0, 0, 7, 0, 0, 0, 0, 0}) {
		t.Errorf("P0.3: From shares the path that is handed in")
	}
}

func TestAnswersAreTheCallersOwn(t *testing.T) {
	for name, s := range sets(t) {
		for i, q := range light() {
			what := fmt.Sprintf("program %d under %s", i, name)
			p := made(t, s, q)
			want := look(t, p)
			plain, other := p.Plain(), p.Plain()
			spoil(plain)
			if !samePlain(other, q) || look(t, p) != want {
				t.Errorf("P19.6: %s: Plain shares memory", what)
			}
			for j := range q.Funs {
				f, _, _ := p.Fun(j)
				g, _, _ := p.Fun(j)
				spoilFun(f)
				if !sameFun(g, q.Funs[j]) || look(t, p) != want {
					t.Errorf("P19.6: %s: function %d shares memory", what, j)
				}
			}
			for _, list := range [][]api.Place{p.Places(), p.Lost()} {
				for j, at := range list {
					rest := fmt.Sprint(list[:j], list[j+1:])
					old := slices.Clone(at.Path)
					spoilPlace(at)
					if fmt.Sprint(list[:j], list[j+1:]) != rest {
						t.Errorf("P0.3: %s: places share memory", what)
					}
					copy(at.Path, old)
				}
				clear(list[:cap(list)])
			}
			if look(t, p) != want {
				t.Errorf("P19.6: %s: another program behind what is answered", what)
			}
		}
	}
}

// TestListsOfOnePlain spoils one list of a plain program after the other.
func TestListsOfOnePlain(t *testing.T) {
	int2 := sortOf("list list int")
	f := fun("f(x int, y int) int", of("geo.far", number(1), number(2)))
	f.Params[0].Sort, f.Params[1].Sort, f.Result = int2, int2, int2
	g := f
	g.Name = "g"
	p := made(t, under(t, ""), program(f.Body, f, g))
	for _, spoilOne := range []func(*api.Program){
		func(q *api.Program) { spoilSort(q.Funs[0].Params[0].Sort); q.Funs[0].Params[0].Sort = int2 }, func(q *api.Program) { spoilSort(q.Funs[0].Result); q.Funs[0].Result = int2 },
		func(q *api.Program) { spoilTree(q.Funs[0].Body); q.Funs[0].Body = f.Body }, func(q *api.Program) { spoilTree(q.Main); q.Main = f.Body }, func(q *api.Program) { spoilFun(q.Funs[0]); q.Funs[0] = f },
	} {
		q := p.Plain()
		spoilOne(&q)
		if !samePlain(q, program(f.Body, f, g)) {
			t.Errorf("P0.3: lists of one answer share memory: %v", q)
		}
	}
}

func TestProgramsKnowNothingOfEachOther(t *testing.T) {
	s := under(t, "num")
	p, other := made(t, s, program(of("geo.far", number(1)), fun("f() int", number(1)))), made(t, s, program(of("num.neg", number(1)), fun("f() text", number(2))))
	before := look(t, p)
	_, _ = other.Under(under(t, allKits))
	_, _ = prog.New(s, program(of("num.neg")))
	_ = prog.Same(p, other)
	if look(t, p) != before || p.Main() == other.Main() {
		t.Errorf("P19.6: programs know of each other")
	}
}

func TestManyAtATime(t *testing.T) {
	s, other := under(t, "num", like("my.plus", "num.add")), under(t, allKits)
	q := light()[4]
	p := made(t, s, q)
	want := look(t, p)
	nodes := strings.Count(want, "\n")
	var w sync.WaitGroup
	for range 8 {
		w.Go(func() {
			for range 5 {
				u, e := p.Under(other)
				f, n, ok := p.Fun(1)
				if e != nil || !prog.Same(p, u) || !ok || f.Name != "g" || n.Kind() != "num.add" || p.Main().Kind() != "num.neg" || p.Set() != s || nodes == 0 {
					t.Error("P19.6: what is told hangs on others")
				}
				if look(t, p) != want || (*prog.Prog)(nil).Main().Kind() != "base.unit" || new(prog.Prog).Set() == (*set.Set)(nil) {
					t.Error("P19.6: what is told hangs on others")
				}
			}
		})
	}
	w.Wait()
	if look(t, p) != want {
		t.Error("P19.6: a program has changed")
	}
}
