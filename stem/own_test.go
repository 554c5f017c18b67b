package stem_test

import (
	"fmt"
	"reflect"
	"slices"
	"strings"
	"sync"
	"testing"

	"espalier/api"
	"espalier/fault"
	"espalier/set"
	"espalier/stem"
	"espalier/tree"
)

func TestUnder(t *testing.T) {
	all := sets(t)
	for a, s := range all {
		for i, x := range trees() {
			f := made(t, s, x)
			before := look(t, f)
			for b, other := range all {
				g, e := f.Under(other)
				if e != nil || g == nil {
					t.Fatalf("P18.4: tree %d under %s, then %s: %v", i, a, b, e)
				}
				if look(t, g) != look(t, made(t, other, x)) || g.Set() != other || f.Set() != s {
					t.Errorf("P18.4: tree %d under %s, then %s: another form than at once", i, a, b)
				}
				back, e := g.Under(s)
				if e != nil || look(t, back) != before || !tree.Same(back.Plain(), x) || look(t, f) != before {
					t.Errorf("P18.4: tree %d under %s, then %s and back: another form: %v", i, a, b, e)
				}
			}
		}
	}
}

func TestUnderOfWhatDoesNotFit(t *testing.T) {
	for i, x := range misfits() {
		if strings.HasPrefix(x.Kind, "base.") {
			continue
		}
		f := made(t, under(t, ""), x)
		before := look(t, f)
		all := under(t, allKits)
		g, e := f.Under(all)
		_, want := stem.New(all, x)
		if g != nil || want == nil || !fault.Same(e, want) {
			t.Errorf("P18.4: tree %d: %v, not %v; a form %v", i, e, want, g != nil)
		}
		g, e = f.Under(nil)
		told(t, "P18.4", fmt.Sprint("under nil: tree ", i), e, api.ErrArg)
		if g != nil || look(t, f) != before {
			t.Errorf("P0.2: tree %d: a form, or another one behind an error", i)
		}
	}
}

func TestKindsBecomeKnown(t *testing.T) {
	x := of("truth.not", of("num.neg", of("my.two", of("base.yes"))))
	f := made(t, under(t, "truth"), x)
	g, e := f.Under(under(t, "num", two("my.two")))
	if e != nil {
		t.Fatal(e)
	}
	if !samePaths(f.Lost(), [][]int{{0}, {0, 0}}) || !samePaths(g.Lost(), [][]int{{}}) {
		t.Errorf("P18.4: Lost %v, %v", f.Lost(), g.Lost())
	}
	n, _ := g.At([]int{0, 0})
	if _, ok := n.(api.Sugar); !ok {
		t.Errorf("P18.4: my.two is Sugar to a set that knows it")
	}
	n, _ = f.At([]int{0, 0})
	if _, ok := n.(api.Opaque); !ok {
		t.Errorf("P18.4: my.two is Opaque still to a set that does not")
	}
}

func TestKindsThatATreeHasNot(t *testing.T) {
	x := of("truth.not", of("geo.far", of("num.neg", number(1))))
	want := look(t, made(t, under(t, "truth num"), x))
	for what, s := range map[string]*set.Set{
		"all kits": under(t, allKits), "a plugin": under(t, "truth num", two("my.two")), "a plugin of the kit": under(t, "num truth words", like("geo.near", "words.rep")),
	} {
		if got := look(t, made(t, s, x)); got != want {
			t.Errorf("P18.4: %s: %s", what, got)
		}
	}
}

func TestSet(t *testing.T) {
	for name, s := range sets(t) {
		f := made(t, s, number(5))
		if f.Set() != s {
			t.Errorf("P18.4: %s: another set", name)
		}
		before := fmt.Sprint(s.Kits(), s.Kinds())
		_, _ = s.Less(s.Kits()...)
		_, _ = s.More(like("more.lists", "base.int"))
		if fmt.Sprint(f.Set().Kits(), f.Set().Kinds()) != before {
			t.Errorf("P18.1: %s: what a set knows changes", name)
		}
	}
}

func TestNoForm(t *testing.T) {
	s := under(t, allKits)
	for what, f := range map[string]*stem.Form{"nil": nil, "zero": {}, "new": new(stem.Form)} {
		if n := f.Root(); n != nil {
			t.Errorf("P0.1: %s: Root %v", what, n)
		}
		for _, path := range [][]int{nil, {}, {0}, {-1, 5}} {
			if n, ok := f.At(path); n != nil || ok {
				t.Errorf("P0.1: %s: At %v: %v, %v", what, path, n, ok)
			}
			for _, a := range []string{"Strict", "Opaque", "Wrapped", "strict", ""} {
				has, e := f.Has(path, a)
				told(t, "P0.1", what+": Has "+a, e, api.ErrArg)
				if has {
					t.Errorf("P0.1: %s: it has %q", what, a)
				}
			}
		}
		if x := f.Plain(); !reflect.DeepEqual(x, api.Tree{}) {
			t.Errorf("P0.1: %s: Plain %v", what, x)
		}
		if lost := f.Lost(); len(lost) != 0 {
			t.Errorf("P0.1: %s: Lost %v", what, lost)
		}
		if f.Set() != nil {
			t.Errorf("P0.1: %s: a set", what)
		}
		for _, other := range []*set.Set{nil, {}, s} {
			g, e := f.Under(other)
			told(t, "P0.1", what+": Under", e, api.ErrArg)
			if g != nil {
				t.Errorf("P0.1: %s: Under gives a form", what)
			}
		}
	}
}

// spoil writes into all of a tree, and behind its lists.
func spoil(x api.Tree) {
	for i := range x.Kids {
		spoil(x.Kids[i])
		x.Kids[i] = with("spoilt.kid", "spoilt")
	}
	more := x.Kids[:cap(x.Kids)]
	for i := range more {
		more[i] = with("spoilt.kid", "spoilt")
	}
}

func TestWhatIsHandedInIsNotKept(t *testing.T) {
	s := under(t, "truth num")
	for i := range trees() {
		x := trees()[i]
		kids := append(make([]api.Tree, 0, len(x.Kids)+3), x.Kids...)
		room := kids[:cap(kids)]
		x.Kids = kids
		f := made(t, s, x)
		if !tree.Same(x, trees()[i]) || slices.ContainsFunc(room[len(kids):], func(y api.Tree) bool { return y.Kind != "" }) {
			t.Errorf("P18.5: tree %d: what is handed in is changed", i)
		}
		before := look(t, f)
		// The trees of trees share lists: this one is spoilt in memory of its own.
		y, _ := tree.Copy(x)
		g := made(t, s, y)
		spoil(y)
		spoil(x)
		if !tree.Same(f.Plain(), trees()[i]) || look(t, f) != before || !tree.Same(g.Plain(), trees()[i]) || look(t, g) != before {
			t.Errorf("P18.5: tree %d is kept", i)
		}
	}
}

func TestPathsThatAreHandedIn(t *testing.T) {
	f := made(t, under(t, "truth"), of("truth.not", of("geo.far", of("base.yes"))))
	path := make([]int, 2, 8)
	path[:3][2] = 7
	_, _ = f.At(path)
	_, _ = f.Has(path, "Strict")
	if !slices.Equal(path[:8], []int{0, 0, 7, 0, 0, 0, 0, 0}) {
		t.Errorf("P18.5: a path is changed: %v", path[:8])
	}
}

func TestAnswersAreTheCallersOwn(t *testing.T) {
	for name, s := range sets(t) {
		for i, x := range trees() {
			f := made(t, s, x)
			want := look(t, f)
			lost, plain, other := f.Lost(), f.Plain(), f.Plain()
			for j, path := range lost {
				rest := fmt.Sprint(lost[j+1:])
				whole := path[:cap(path)]
				for k := range whole {
					whole[k] = -7
				}
				if fmt.Sprint(lost[j+1:]) != rest {
					t.Errorf("P0.3: tree %d under %s: paths share memory", i, name)
				}
			}
			_ = append(lost, []int{-7})
			clear(lost[:cap(lost)])
			spoil(plain)
			if look(t, f) != want || !tree.Same(f.Plain(), x) || !tree.Same(other, x) {
				t.Errorf("P18.5: tree %d under %s: what is answered is kept", i, name)
			}
		}
	}
}

func TestFormsKnowNothingOfEachOther(t *testing.T) {
	s := under(t, "truth")
	x, y := of("truth.not", of("geo.far")), of("truth.not", of("base.yes"))
	f, g := made(t, s, x), made(t, s, y)
	before := look(t, f)
	_, _ = g.Under(under(t, allKits))
	_, _ = g.Has(nil, "Strict")
	_, _ = f.Under(nil)
	_, _ = stem.New(s, of("truth.not"))
	if look(t, f) != before || f.Root() == g.Root() {
		t.Errorf("P18.5: forms know of each other")
	}
}

func TestManyAtATime(t *testing.T) {
	s, other := under(t, "truth num", two("my.two")), under(t, allKits)
	x := of("truth.not", of("geo.far", of("my.two", number(1)), of("no.body", of("base.yes"))))
	f := made(t, s, x)
	want, lost := look(t, f), f.Lost()
	var w sync.WaitGroup
	for range 8 {
		w.Go(func() {
			for range 20 {
				g, e := f.Under(other)
				n, ok := f.At([]int{0, 0})
				has, none := f.Has([]int{0, 1}, "Opaque")
				if e != nil || g.Set() != other || !ok || n.Kind() != "my.two" || !has || none != nil || f.Root().Len() != 1 || f.Set() != s {
					t.Error("P18.5: what is told hangs on others")
				}
				if sugar, ok := n.(api.Sugar); !ok || sugar.Spelt().Kind() != "base.frame" {
					t.Error("P18.5: a node of a form that others ask")
				}
				if !tree.Same(f.Plain(), x) || !samePaths(f.Lost(), lost) || fmt.Sprint(f.Lost()) == "" {
					t.Error("P18.5: what is told hangs on others")
				}
			}
		})
	}
	w.Wait()
	if look(t, f) != want {
		t.Error("P18.5: a form has changed")
	}
}
