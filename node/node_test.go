// The tests of P6.1 to P6.7, through the package's face alone.
package node_test

import (
	"errors"
	"fmt"
	"math"
	"reflect"
	"slices"
	"strings"
	"sync"
	"testing"

	"espalier/api"
	"espalier/fault"
	"espalier/node"
	"espalier/tree"
)

// leaf gives a tree of a kind alone.
func leaf(kind string) api.Tree { return api.Tree{Kind: kind} }

// made makes a node that may be made.
func made(t *testing.T, x api.Tree, kids ...*node.Handle) *node.Handle {
	t.Helper()
	h, e := node.Make(x, kids...)
	if e != nil || h == nil || h.Node() == nil {
		t.Fatalf("P6.3: %.40q, %d kids: %v", x.Kind, len(kids), e)
	}
	return h
}

// built makes the nodes of a tree of the kit base.
func built(t *testing.T, x api.Tree) *node.Handle {
	t.Helper()
	var kids []*node.Handle
	for _, kid := range x.Kids {
		kids = append(kids, built(t, kid))
	}
	return made(t, x, kids...)
}

func wrapped(t *testing.T, h *node.Handle, fun string, path ...int) *node.Handle {
	t.Helper()
	w, e := node.Wrap(h, api.Place{Fun: fun, Path: path})
	if e != nil || w == nil || w.Node() == nil {
		t.Fatalf("P6.4: Wrap at %s %v: %v", fun, path, e)
	}
	return w
}

func covered(t *testing.T, h *node.Handle) *node.Handle {
	t.Helper()
	c, e := node.Cover(h)
	if e != nil || c == nil || c.Node() == nil {
		t.Fatalf("P6.4: Cover: %v", e)
	}
	return c
}

func handles(n int, h *node.Handle) []*node.Handle {
	return slices.Repeat([]*node.Handle{h}, n)
}

// rows is the table of doc/06, by hand.
func rows() []api.Row {
	value := func() []string { return []string{"Literal", "Pure", "Total", "Sorted"} }
	return []api.Row{
		{Kind: "base.unit", Abilities: value()},
		{Kind: "base.yes", Abilities: value()},
		{Kind: "base.no", Abilities: value()},
		{Kind: "base.int", Num: true, Abilities: value()},
		{Kind: "base.text", Text: api.TextAny, Abilities: value()},
		{Kind: "base.var", Text: api.TextUse, Abilities: []string{"User", "Pure"}},
		{Kind: "base.frame", Min: 1, Max: 65, Abilities: []string{"Pure", "Total", "Framed"}},
	}
}

// names are the abilities in the order of doc/00.
func names() []string {
	return strings.Fields("Literal Strict Lazy Binder User Caller Pure Total Sorted Sugar Framed Wrapped Origin Opaque")
}

// noNames are texts that name no ability.
func noNames() []string {
	return []string{"", "literal", "LITERAL", "Literal ", " Literal", "Litera", "Literals", "Node", "Coded", "Located", "Raised", "Lacking", "worth", "Quiet", "Inner", "Pure Total", "Literal\x00", "base.int", strings.Repeat("Pure", 1<<18)}
}

// has asks for an ability by the two-valued assertion.
func has(n api.Node, ability string) bool {
	ok := false
	switch ability {
	case "Literal":
		_, ok = n.(api.Literal)
	case "Strict":
		_, ok = n.(api.Strict)
	case "Lazy":
		_, ok = n.(api.Lazy)
	case "Binder":
		_, ok = n.(api.Binder)
	case "User":
		_, ok = n.(api.User)
	case "Caller":
		_, ok = n.(api.Caller)
	case "Pure":
		_, ok = n.(api.Pure)
	case "Total":
		_, ok = n.(api.Total)
	case "Sorted":
		_, ok = n.(api.Sorted)
	case "Sugar":
		_, ok = n.(api.Sugar)
	case "Framed":
		_, ok = n.(api.Framed)
	case "Wrapped":
		_, ok = n.(api.Wrapped)
	case "Origin":
		_, ok = n.(api.Origin)
	case "Opaque":
		_, ok = n.(api.Opaque)
	}
	return ok
}

// one makes a node of each kind of the kit base, in the table's order.
func one(t *testing.T) []*node.Handle {
	t.Helper()
	a := made(t, leaf("base.unit"))
	return []*node.Handle{
		made(t, leaf("base.unit")), made(t, leaf("base.yes")), made(t, leaf("base.no")), made(t, api.Tree{Kind: "base.int", Num: 5}),
		made(t, api.Tree{Kind: "base.text", Text: "x"}), made(t, api.Tree{Kind: "base.var", Text: "x"}), made(t, leaf("base.frame"), a, a),
	}
}

// coded fails, unless an error has that number and nothing else that it tells.
func coded(t *testing.T, promise, what string, e error, want api.Errno) {
	t.Helper()
	var l api.Located
	if e == nil || fault.Code(e) != want || errors.As(e, &l) {
		t.Errorf("%s: %s: %v, not error %d alone", promise, what, e, want)
	}
}

func TestRows(t *testing.T) {
	got := node.Rows()
	if !reflect.DeepEqual(got, rows()) {
		t.Errorf("P6.1: %+v", got)
	}
}

func TestRowsAreTheCallersOwn(t *testing.T) {
	first, other := node.Rows(), node.Rows()
	for i := range first {
		list := first[i].Abilities
		list = append(list, "more")
		for j := range list {
			list[j] = "spoilt"
		}
		first[i] = api.Row{Kind: "spoilt"}
	}
	_ = append(first, api.Row{Kind: "more"})
	if !reflect.DeepEqual(other, rows()) || !reflect.DeepEqual(node.Rows(), rows()) {
		t.Errorf("P6.7: rows share memory")
	}
	whole := node.Rows()
	for i := range whole {
		_ = append(whole[i].Abilities, "a", "b", "c", "d")
		for j := range whole[i].Abilities {
			whole[i].Abilities[j] = "spoilt"
		}
		if !reflect.DeepEqual(whole[i+1:], rows()[i+1:]) {
			t.Errorf("P6.7: row %d shares memory with one behind it", i)
		}
	}
}

func TestNoHandle(t *testing.T) {
	for what, h := range map[string]*node.Handle{"nil": nil, "zero": {}, "new": new(node.Handle)} {
		if n := h.Node(); n != nil {
			t.Errorf("P6.2: %s: Node() %v", what, n)
		}
		if list := node.Abilities(h); len(list) != 0 {
			t.Errorf("P6.2: %s: Abilities %v", what, list)
		}
		for _, p := range []api.Place{{}, {Fun: "f", Path: []int{1}}, {Fun: "1"}} {
			w, e := node.Wrap(h, p)
			if w != nil {
				t.Errorf("P6.2: %s: Wrap gives a handle", what)
			}
			coded(t, "P6.2", what+": Wrap", e, api.ErrArg)
		}
		c, e := node.Cover(h)
		if c != nil {
			t.Errorf("P6.2: %s: Cover gives a handle", what)
		}
		coded(t, "P6.2", what+": Cover", e, api.ErrArg)
		c, e = node.Core(h)
		if c != nil {
			t.Errorf("P6.2: %s: Core gives a handle", what)
		}
		coded(t, "P6.2", what+": Core", e, api.ErrArg)
		x, e := node.Plain(h)
		if !reflect.DeepEqual(x, api.Tree{}) {
			t.Errorf("P6.2: %s: Plain gives %v", what, x)
		}
		coded(t, "P6.2", what+": Plain", e, api.ErrArg)
		for _, ability := range append(names(), noNames()...) {
			coded(t, "P6.2", what+": Must", node.Must(h, ability), api.ErrArg)
		}
	}
}

func TestNoHandleAsKid(t *testing.T) {
	a := made(t, leaf("base.unit"))
	for what, none := range map[string]*node.Handle{"nil": nil, "zero": {}} {
		for _, n := range []int{1, 2, 3, 65, 66, 1000} {
			for _, at := range []int{0, n / 2, n - 1} {
				kids := handles(n, a)
				kids[at] = none
				for _, kind := range []string{"base.frame", "base.unit", "base.int", "base.var"} {
					h, e := node.Make(api.Tree{Kind: kind, Num: 1, Text: strings.Repeat("-", 16385)}, kids...)
					if h != nil {
						t.Errorf("P6.2: %s of %d kids, %s at %d: a handle", kind, n, what, at)
					}
					coded(t, "P6.2", fmt.Sprintf("%s of %d kids, %s at %d", kind, n, what, at), e, api.ErrArg)
				}
				if h, e := node.Make(leaf("num.add"), kids...); h != nil || fault.Code(e) != api.ErrNone {
					t.Errorf("P6.3: ErrNone is ahead of a kid: %v", e)
				}
			}
		}
	}
}

func TestLiterals(t *testing.T) {
	for _, c := range []struct {
		tree  api.Tree
		worth api.Value
	}{
		{leaf("base.unit"), api.Unit{}}, {leaf("base.yes"), api.Truth(true)}, {leaf("base.no"), api.Truth(false)},
		{leaf("base.int"), api.Int(0)}, {api.Tree{Kind: "base.int", Num: 5}, api.Int(5)}, {api.Tree{Kind: "base.int", Num: -1}, api.Int(-1)},
		{api.Tree{Kind: "base.int", Num: math.MaxInt64}, api.Int(math.MaxInt64)}, {api.Tree{Kind: "base.int", Num: math.MinInt64}, api.Int(math.MinInt64)},
		{leaf("base.text"), api.Text("")}, {api.Tree{Kind: "base.text", Text: "x"}, api.Text("x")}, {api.Tree{Kind: "base.text", Text: "\x00\xff \n"}, api.Text("\x00\xff \n")},
		{api.Tree{Kind: "base.text", Text: strings.Repeat("\xff", 16384)}, api.Text(strings.Repeat("\xff", 16384))},
	} {
		n := made(t, c.tree).Node()
		what := fmt.Sprintf("%s %d %.10q", c.tree.Kind, c.tree.Num, c.tree.Text)
		l, ok := n.(api.Literal)
		if !ok || reflect.TypeOf(l.Worth()) != reflect.TypeOf(c.worth) || l.Worth() != c.worth {
			t.Errorf("P6.3: %s is not its value", what)
		}
		s, ok := n.(api.Sorted)
		if !ok || !reflect.DeepEqual(s.Signs(), api.Signature{Out: api.Sort{Name: c.worth.Sort()}}) {
			t.Errorf("P6.3: the sorts of %s", what)
		}
		x, ok := n.(api.Total)
		if !ok || !x.Sure() || !x.Quiet() {
			t.Errorf("P6.3: %s is sure and quiet", what)
		}
		if n.Kind() != c.tree.Kind || n.Num() != c.tree.Num || n.Text() != c.tree.Text || n.Len() != 0 || n.Kid(0) != nil {
			t.Errorf("P6.3: what %s is made of", what)
		}
	}
}

func TestSignsAreTheCallersOwn(t *testing.T) {
	s := made(t, leaf("base.int")).Node().(api.Sorted)
	first, other := s.Signs(), s.Signs()
	first.Ins = append(first.Ins, api.Sort{Name: "spoilt"})
	first.Out.Of = append(first.Out.Of, api.Sort{Name: "spoilt"})
	first.Bound.Of = append(first.Bound.Of, api.Sort{Name: "spoilt"})
	want := api.Signature{Out: api.Sort{Name: "int"}}
	if !reflect.DeepEqual(other, want) || !reflect.DeepEqual(s.Signs(), want) {
		t.Errorf("P6.7: %+v", s.Signs())
	}
}

func TestVariables(t *testing.T) {
	for _, use := range []string{"x", "x_1", "_", "A9", strings.Repeat("z", 32), "1", "9", "12", "64"} {
		n := made(t, api.Tree{Kind: "base.var", Text: use}).Node()
		u, ok := n.(api.User)
		if !ok || u.Uses() != use || n.Text() != use || n.Kind() != "base.var" || n.Num() != 0 || n.Len() != 0 {
			t.Errorf("P6.3: base.var %q", use)
		}
		if p, ok := n.(api.Pure); !ok || !p.Quiet() {
			t.Errorf("P6.3: base.var %q is quiet", use)
		}
		if _, ok := n.(api.Total); ok {
			t.Errorf("P6.3: base.var %q is not Total", use)
		}
	}
	for _, use := range []string{"", "65", "0", "01", "-1", "+1", "1x", "x y", " x", "x ", "ä", "x\x00", "100", "18446744073709551617", strings.Repeat("z", 33), strings.Repeat("z", 16384)} {
		h, e := node.Make(api.Tree{Kind: "base.var", Text: use})
		if h != nil {
			t.Errorf("P6.3: base.var %.40q: a handle", use)
		}
		coded(t, "P6.3", "base.var "+use, e, api.ErrFit)
	}
}

func TestFrames(t *testing.T) {
	for n := 1; n <= 65; n++ {
		var kids []*node.Handle
		for i := range n {
			kid := made(t, api.Tree{Kind: "base.int", Num: int64(i)})
			if i%3 == 1 {
				kid = covered(t, kid)
			}
			if i%3 == 2 {
				kid = wrapped(t, kid, "f", i)
			}
			kids = append(kids, kid)
		}
		f := made(t, leaf("base.frame"), kids...).Node()
		x, ok := f.(api.Framed)
		if !ok || x.Frames() != n-1 || f.Len() != n || f.Kind() != "base.frame" || f.Num() != 0 || f.Text() != "" {
			t.Errorf("P6.3: base.frame of %d kids", n)
		}
		if s, ok := f.(api.Total); !ok || !s.Sure() || !s.Quiet() {
			t.Errorf("P6.3: base.frame is sure and quiet")
		}
		for i, kid := range kids {
			if f.Kid(i) != kid.Node() || f.Kid(i) != f.Kid(i) {
				t.Errorf("P6.7: kid %d of %d", i, n)
			}
		}
		for _, i := range []int{-1, n, n + 1, math.MinInt, math.MaxInt} {
			if f.Kid(i) != nil {
				t.Errorf("P6.7: kid %d of %d", i, n)
			}
		}
	}
}

// asked is what Make must tell, by the words of P6.3, with kids that all hold nodes.
func asked(x api.Tree, kids int) api.Errno {
	at := slices.IndexFunc(rows(), func(r api.Row) bool { return r.Kind == x.Kind })
	if at < 0 {
		return api.ErrNone
	}
	if x.Kind == "base.frame" && (kids == 0 || kids > 65) || x.Kind != "base.frame" && kids > 0 {
		return api.ErrCount
	}
	if len(x.Text) > 16384 {
		return api.ErrLong
	}
	if x.Num != 0 && x.Kind != "base.int" {
		return api.ErrFit
	}
	uses := x.Text == "x" || x.Text == "64"
	if x.Kind == "base.var" && !uses || x.Kind != "base.var" && x.Kind != "base.text" && x.Text != "" {
		return api.ErrFit
	}
	return api.OK
}

func TestMakeOfAll(t *testing.T) {
	a := made(t, leaf("base.unit"))
	kinds := []string{"", ".", "base", "base.", ".int", "int", "base.in", "base.ints", "base.Int", "Base.int", " base.int", "base.int ", "base.int\x00", "base.none", "num.add", "base.list", "base.base.int", "bases.int", strings.Repeat("base.int", 1<<10)}
	for _, r := range rows() {
		kinds = append(kinds, r.Kind)
	}
	texts := []string{"", "x", "64", "65", "1x", "\xff", strings.Repeat("x", 16384), strings.Repeat("x", 16385), strings.Repeat("\x00", 1<<20)}
	for _, kind := range kinds {
		for _, n := range []int{0, 1, 2, 64, 65, 66, 1000} {
			for _, num := range []int64{0, 1, -1, math.MaxInt64, math.MinInt64} {
				for _, text := range texts {
					x := api.Tree{Kind: kind, Num: num, Text: text}
					what := fmt.Sprintf("%.20s of %d kids, %d, %d bytes %.5q", kind, n, num, len(text), text)
					h, e := node.Make(x, handles(n, a)...)
					want := asked(x, n)
					if want != api.OK {
						if h != nil {
							t.Errorf("P6.3: %s: a handle", what)
						}
						coded(t, "P6.3", what, e, want)
						continue
					}
					if e != nil || h == nil {
						t.Errorf("P6.3: %s: %v", what, e)
						continue
					}
					y := h.Node()
					if y.Kind() != kind || y.Num() != num || y.Text() != text || y.Len() != n {
						t.Errorf("P6.3: %s: what it is made of", what)
					}
				}
			}
		}
	}
}

func TestMakeLooksAtNoKidsOfTheTree(t *testing.T) {
	ring := make([]api.Tree, 1)
	ring[0] = api.Tree{Kind: "base.frame", Kids: ring}
	for _, kids := range [][]api.Tree{{leaf("base.unit")}, {leaf("no kind")}, make([]api.Tree, 1<<16), ring, {}} {
		n := made(t, api.Tree{Kind: "base.int", Num: 5, Kids: kids}).Node()
		if n.Len() != 0 || n.Kid(0) != nil {
			t.Errorf("P6.3: base.int has kids")
		}
		if h, e := node.Make(api.Tree{Kind: "base.frame", Kids: kids}); h != nil || fault.Code(e) != api.ErrCount {
			t.Errorf("P6.3: base.frame: %v", e)
		}
		a := made(t, leaf("base.yes"))
		if n := made(t, api.Tree{Kind: "base.frame", Kids: kids}, a).Node(); n.Len() != 1 || n.Kid(0) != a.Node() {
			t.Errorf("P6.3: the kids of base.frame")
		}
	}
}

func TestMakeKeepsNoList(t *testing.T) {
	a, b := made(t, leaf("base.yes")), made(t, leaf("base.no"))
	list := []*node.Handle{a, b, a, b}
	h := made(t, leaf("base.frame"), list[:2]...)
	if list[0] != a || list[1] != b || list[2] != a || list[3] != b {
		t.Errorf("P6.7: the list of kids has changed")
	}
	list[0], list[1], list[2] = b, nil, nil
	n := h.Node()
	if n.Len() != 2 || n.Kid(0) != a.Node() || n.Kid(1) != b.Node() || n.Kid(2) != nil {
		t.Errorf("P6.7: the list of kids is kept")
	}
	*a = node.Handle{}
	if n.Kid(0) == nil || n.Kid(0).Kind() != "base.yes" {
		t.Errorf("P6.7: the handle of a kid is kept")
	}
}

func TestWrappers(t *testing.T) {
	for i, h := range one(t) {
		n := h.Node()
		w, c := wrapped(t, h, "f", 1, 2), covered(t, h)
		for _, r := range []struct {
			what string
			h    *node.Handle
			from bool
		}{
			{"Wrap", w, true}, {"Cover", c, false}, {"a cover of Wrap", covered(t, w), false}, {"Wrap of a cover", wrapped(t, c, "g"), true}, {"Wrap twice", wrapped(t, w, ""), true}, {"Cover twice", covered(t, c), false},
		} {
			what, y := r.what, r.h.Node()
			if y.Kind() != n.Kind() || y.Num() != n.Num() || y.Text() != n.Text() || y.Len() != n.Len() {
				t.Errorf("P6.4: %s of %s: what it is made of", what, n.Kind())
			}
			for k := -1; k <= n.Len(); k++ {
				if y.Kid(k) != n.Kid(k) {
					t.Errorf("P6.4: %s of %s: kid %d", what, n.Kind(), k)
				}
			}
			if y == n || !has(y, "Wrapped") || has(y, "Origin") != r.from || has(y, "Opaque") {
				t.Errorf("P6.4: %s of %s: Wrapped, Origin", what, n.Kind())
			}
			for _, ability := range names()[:11] {
				if has(y, ability) {
					t.Errorf("P6.4: %s of %s has %s", what, n.Kind(), ability)
				}
			}
			k, e := node.Core(r.h)
			if e != nil || k == nil || k.Node() != n {
				t.Errorf("P6.4: the core of %s of row %d: %v", what, i, e)
			}
		}
		if w.Node().(api.Wrapped).Inner() != n || c.Node().(api.Wrapped).Inner() != n {
			t.Errorf("P6.4: Inner of %s", n.Kind())
		}
		if in := covered(t, w).Node().(api.Wrapped).Inner(); in != w.Node() {
			t.Errorf("P6.4: Inner of a wrapper around a wrapper")
		}
		if in := wrapped(t, c, "").Node().(api.Wrapped).Inner(); in != c.Node() {
			t.Errorf("P6.4: Inner of a wrapper around a cover")
		}
		if k, e := node.Core(h); e != nil || k.Node() != n {
			t.Errorf("P6.4: the core of what is not Wrapped is itself")
		}
	}
}

func TestPlaces(t *testing.T) {
	a := made(t, leaf("base.unit"))
	long := slices.Repeat([]int{1022}, 63)
	for _, p := range []api.Place{{}, {Fun: "f"}, {Path: []int{0}}, {Fun: "_9", Path: []int{1022, 0, 7}}, {Fun: strings.Repeat("z", 32), Path: long}} {
		w, e := node.Wrap(a, p)
		if e != nil || w == nil {
			t.Errorf("P6.4: %v: %v", p, e)
			continue
		}
		got := w.Node().(api.Origin).From()
		if got.Fun != p.Fun || !slices.Equal(got.Path, p.Path) {
			t.Errorf("P6.4: From() of %v is %v", p, got)
		}
	}
	for _, p := range []api.Place{{Fun: "1"}, {Fun: "f "}, {Fun: "f:"}, {Fun: strings.Repeat("z", 33)}, {Path: []int{-1}}, {Path: []int{1023}}, {Path: append(slices.Clone(long), 0)}, {Fun: "f", Path: []int{0, math.MaxInt}}, {Path: make([]int, 1<<20)}} {
		w, e := node.Wrap(a, p)
		if w != nil {
			t.Errorf("P6.4: %.40v: a handle", p)
		}
		coded(t, "P6.4", fmt.Sprintf("Wrap at %.40s", p.Fun), e, api.ErrArg)
	}
}

func TestPathsAreTheCallersOwn(t *testing.T) {
	a := made(t, leaf("base.unit"))
	path := []int{1, 2, 3, 4}
	w := wrapped(t, a, "f", path[:2]...)
	if !slices.Equal(path, []int{1, 2, 3, 4}) {
		t.Errorf("P6.7: the path has changed: %v", path)
	}
	path[0], path[2] = 9, 9
	o := w.Node().(api.Origin)
	first, other := o.From(), o.From()
	first.Path[1] = 7
	_ = append(first.Path, 8)
	if !slices.Equal(other.Path, []int{1, 2}) || !slices.Equal(o.From().Path, []int{1, 2}) {
		t.Errorf("P6.7: From() shares its path: %v", o.From())
	}
	_ = append(other.Path, 5)
	if more := append(o.From().Path, 6); more[2] != 6 || len(o.From().Path) != 2 {
		t.Errorf("P6.7: From() shares its spare room")
	}
	spare := make([]int, 0, 4)
	e := wrapped(t, a, "", spare...).Node().(api.Origin)
	_ = append(e.From().Path, 5)
	if spare[:1][0] != 0 {
		t.Errorf("P6.7: the spare room of a path is kept")
	}
	lack := node.Must(w, "Lazy").(api.Lacking)
	lack.Where().Path[0] = 7
	if !slices.Equal(lack.Where().Path, []int{1, 2}) || !slices.Equal(o.From().Path, []int{1, 2}) {
		t.Errorf("P6.7: an error shares its path")
	}
}

func TestAbilities(t *testing.T) {
	for i, h := range one(t) {
		row := rows()[i]
		if got := node.Abilities(h); !slices.Equal(got, row.Abilities) {
			t.Errorf("P6.5: %s: %v", row.Kind, got)
		}
		w, c := wrapped(t, h, "f"), covered(t, h)
		for want, list := range map[string][]*node.Handle{"Wrapped Origin": {w, wrapped(t, c, ""), wrapped(t, w, "")}, "Wrapped": {c, covered(t, c), covered(t, w)}} {
			for _, x := range list {
				if got := node.Abilities(x); !slices.Equal(got, strings.Fields(want)) {
					t.Errorf("P6.5: a wrapper of %s: %v, not %s", row.Kind, got, want)
				}
			}
		}
		for _, x := range []*node.Handle{h, w, c} {
			for _, ability := range names() {
				if has(x.Node(), ability) != slices.Contains(node.Abilities(x), ability) {
					t.Errorf("P6.5: %s: %s by assertion", row.Kind, ability)
				}
			}
			list := node.Abilities(x)
			want := slices.Clone(list)
			_ = append(list, "more")
			list[0] = "spoilt"
			if !slices.Equal(node.Abilities(x), want) {
				t.Errorf("P6.7: Abilities shares its list")
			}
		}
	}
}

// lacks fails, unless an error is a Lacking one that tells just this.
func lacks(t *testing.T, e error, kind, ability, text string, p api.Place) {
	t.Helper()
	l, ok := e.(api.Lacking)
	if !ok {
		t.Errorf("P6.5: %s, %s: %v is not Lacking", kind, ability, e)
		return
	}
	k, a := l.Lacks()
	if _, raised := e.(api.Raised); raised || l.Code() != api.ErrLack || k != kind || a != ability || l.Error() != text {
		t.Errorf("P6.5: %s, %s: %v", kind, ability, e)
	}
	if w := l.Where(); w.Fun != p.Fun || !slices.Equal(w.Path, p.Path) {
		t.Errorf("P6.5: %s, %s: at %v, not %v", kind, ability, w, p)
	}
}

func TestMust(t *testing.T) {
	for i, h := range one(t) {
		row := rows()[i]
		inner := wrapped(t, h, "f", 1)
		for _, c := range []struct {
			h     *node.Handle
			outer string
			place api.Place
			text  string
		}{
			{h, "", api.Place{}, "-"},
			{covered(t, h), "Wrapped", api.Place{}, "-"},
			{covered(t, covered(t, h)), "Wrapped", api.Place{}, "-"},
			{inner, "Wrapped Origin", api.Place{Fun: "f", Path: []int{1}}, "f:1"},
			{covered(t, inner), "Wrapped", api.Place{Fun: "f", Path: []int{1}}, "f:1"},
			{covered(t, covered(t, inner)), "Wrapped", api.Place{Fun: "f", Path: []int{1}}, "f:1"},
			{wrapped(t, inner, "g", 2, 0), "Wrapped Origin", api.Place{Fun: "g", Path: []int{2, 0}}, "g:2.0"},
			{covered(t, wrapped(t, covered(t, inner), "", 3)), "Wrapped", api.Place{Path: []int{3}}, "3"},
			{wrapped(t, inner, ""), "Wrapped Origin", api.Place{}, "-"},
		} {
			for _, ability := range names() {
				held := slices.Contains(row.Abilities, ability) || slices.Contains(strings.Fields(c.outer), ability)
				e := node.Must(c.h, ability)
				if held {
					if e != nil {
						t.Errorf("P6.5: %s, %s: %v", row.Kind, ability, e)
					}
					continue
				}
				lacks(t, e, row.Kind, ability, "error 13 at "+c.text+": "+row.Kind+" "+ability, c.place)
			}
			for _, ability := range noNames() {
				coded(t, "P6.5", row.Kind+": the ability "+ability, node.Must(c.h, ability), api.ErrArg)
			}
		}
	}
}

// wide gives a tree of so many nodes (66 or more), 3 deep.
func wide(n int) api.Tree {
	x := leaf("base.frame")
	for i := range 64 {
		kid := leaf("base.frame")
		for range (n-1)/64 - 1 {
			kid.Kids = append(kid.Kids, leaf("base.unit"))
		}
		if i < (n-1)%64 {
			kid.Kids = append(kid.Kids, leaf("base.yes"))
		}
		x.Kids = append(x.Kids, kid)
	}
	return x
}

// deep gives a tree that is so deep.
func deep(n int) api.Tree {
	x := api.Tree{Kind: "base.int", Num: int64(n)}
	for range n - 1 {
		x = api.Tree{Kind: "base.frame", Kids: []api.Tree{x}}
	}
	return x
}

// lettered gives a tree of texts of these lengths.
func lettered(lengths ...int) api.Tree {
	x := leaf("base.frame")
	for _, n := range lengths {
		x.Kids = append(x.Kids, api.Tree{Kind: "base.text", Text: strings.Repeat("x", n)})
	}
	return x
}

func TestPlain(t *testing.T) {
	mixed := api.Tree{Kind: "base.frame", Kids: []api.Tree{{Kind: "base.int", Num: -5}, {Kind: "base.frame", Kids: []api.Tree{{Kind: "base.text", Text: "a\xff"}, {Kind: "base.var", Text: "1"}}}, leaf("base.no")}}
	names := lettered(16384 - 64)
	for range 2 {
		names.Kids = append(names.Kids, api.Tree{Kind: "base.var", Text: strings.Repeat("v", 32)})
	}
	for what, x := range map[string]api.Tree{
		"one": leaf("base.unit"), "mixed": mixed, "1023 nodes": wide(1023), "1024 nodes": wide(1024), "63 deep": deep(63), "64 deep": deep(64),
		"16384 bytes": lettered(16384), "16384 bytes of two": lettered(1, 16383), "16384 bytes of three": names, "65 kids": lettered(make([]int, 65)...),
	} {
		if tree.May(x) != api.OK {
			t.Fatalf("P6.6: %s may not be", what)
		}
		h := built(t, x)
		got, e := node.Plain(h)
		if e != nil || !reflect.DeepEqual(got, x) {
			t.Errorf("P6.6: %s: %v", what, e)
		}
		around := covered(t, wrapped(t, h, "f", 1))
		if got, e := node.Plain(around); e != nil || !reflect.DeepEqual(got, x) {
			t.Errorf("P6.6: %s within wrappers: %v", what, e)
		}
	}
}

func TestPlainTooGreat(t *testing.T) {
	one := lettered(16384)
	one.Kids = append(one.Kids, api.Tree{Kind: "base.var", Text: "v"})
	for what, x := range map[string]api.Tree{
		"1025 nodes": wide(1025), "1100 nodes": wide(1100), "65 deep": deep(65), "66 deep": deep(66), "300 deep": deep(300),
		"16385 bytes of two": lettered(16384, 1), "16385 bytes of two, the less first": lettered(1, 16384), "16385 bytes with a use": one, "many bytes": lettered(16384, 16384, 16384),
	} {
		for _, h := range []*node.Handle{built(t, x), covered(t, built(t, x))} {
			got, e := node.Plain(h)
			if !reflect.DeepEqual(got, api.Tree{}) {
				t.Errorf("P6.6: %s: a tree beside the error", what)
			}
			coded(t, "P6.6", what, e, api.ErrLong)
		}
	}
}

func TestPlainOfWhatIsShared(t *testing.T) {
	h := made(t, leaf("base.unit"))
	for i := range 100 {
		h = made(t, leaf("base.frame"), handles(3, h)...)
		x, e := node.Plain(h)
		nodes, _, _ := tree.Size(x)
		if i < 5 && (e != nil || nodes != []int{4, 13, 40, 121, 364}[i]) {
			t.Errorf("P6.6: shared %d times: %d nodes, %v", i, nodes, e)
		}
		if i >= 5 {
			coded(t, "P6.6", fmt.Sprint("shared ", i, " times"), e, api.ErrLong)
		}
	}
}

func TestPlainSeesNoWrappers(t *testing.T) {
	x := api.Tree{Kind: "base.frame", Kids: []api.Tree{{Kind: "base.int", Num: 5}, {Kind: "base.frame", Kids: []api.Tree{{Kind: "base.text", Text: "x"}}}}}
	inner := wrapped(t, made(t, x.Kids[1].Kids[0]), "f")
	h := made(t, x, covered(t, made(t, x.Kids[0])), wrapped(t, covered(t, made(t, x.Kids[1], inner)), "g", 1))
	for range 200 {
		h = covered(t, wrapped(t, h, "f", 0))
	}
	if got, e := node.Plain(h); e != nil || !reflect.DeepEqual(got, x) {
		t.Errorf("P6.6: %v, %v", got, e)
	}
	unit := made(t, leaf("base.unit"))
	for range 64 {
		unit = covered(t, unit)
	}
	if got, e := node.Plain(unit); e != nil || !reflect.DeepEqual(got, leaf("base.unit")) {
		t.Errorf("P6.6: %v, %v", got, e)
	}
}

func TestPlainIsTheCallersOwn(t *testing.T) {
	x := deep(3)
	x.Kids = append(x.Kids, deep(2), leaf("base.yes"))
	h := built(t, x)
	first, _ := node.Plain(h)
	other, _ := node.Plain(h)
	for _, kids := range [][]api.Tree{first.Kids, first.Kids[0].Kids, first.Kids[1].Kids} {
		for i := range kids {
			_ = append(kids[i].Kids, leaf("more"))
			kids[i].Kind = "spoilt"
		}
		_ = append(kids, leaf("more"))
	}
	again, e := node.Plain(h)
	if e != nil || !reflect.DeepEqual(other, x) || !reflect.DeepEqual(again, x) {
		t.Errorf("P6.7: plain trees share memory")
	}
	a := made(t, leaf("base.unit"))
	f := made(t, leaf("base.frame"), a)
	twice, _ := node.Plain(made(t, leaf("base.frame"), f, f))
	twice.Kids[0].Kids[0].Kind = "spoilt"
	if twice.Kids[1].Kids[0].Kind != "base.unit" {
		t.Errorf("P6.7: two lists of one tree share memory")
	}
}

func TestManyWrappers(t *testing.T) {
	h := made(t, api.Tree{Kind: "base.int", Num: 5})
	x := wrapped(t, h, "deep", 7)
	for range 1 << 18 {
		x = covered(t, x)
	}
	if k, e := node.Core(x); e != nil || k.Node() != h.Node() {
		t.Errorf("P6.4: the core of many: %v", e)
	}
	if n := x.Node(); n.Kind() != "base.int" || n.Num() != 5 || n.Len() != 0 || n.Kid(0) != nil || n.Text() != "" {
		t.Errorf("P6.4: what many stand around")
	}
	if !slices.Equal(node.Abilities(x), []string{"Wrapped"}) || node.Must(x, "Literal") != nil {
		t.Errorf("P6.5: many wrappers")
	}
	lacks(t, node.Must(x, "Sugar"), "base.int", "Sugar", "error 13 at deep:7: base.int Sugar", api.Place{Fun: "deep", Path: []int{7}})
	if y, e := node.Plain(x); e != nil || y.Num != 5 {
		t.Errorf("P6.6: many wrappers: %v", e)
	}
}

func TestNodesByEquality(t *testing.T) {
	var all []api.Node
	for _, h := range one(t) {
		w, c := wrapped(t, h, "f", 1), covered(t, h)
		for _, x := range []*node.Handle{h, w, c} {
			if !reflect.TypeOf(x.Node()).Comparable() || x.Node() != x.Node() {
				t.Errorf("P6.7: a node of %s is not itself", x.Node().Kind())
			}
			all = append(all, x.Node())
		}
		if w.Node().(api.Wrapped).Inner() != h.Node() {
			t.Errorf("P6.7: the inner node of %s", h.Node().Kind())
		}
	}
	for i, a := range all {
		for j, b := range all {
			if (a == b) != (i == j) {
				t.Errorf("P6.7: the nodes %d and %d", i, j)
			}
		}
	}
}

func TestWhatFollows(t *testing.T) {
	for _, h := range one(t) {
		for _, x := range []*node.Handle{h, wrapped(t, h, ""), covered(t, h)} {
			n := x.Node()
			if has(n, "Total") && !has(n, "Pure") || has(n, "Origin") && !has(n, "Wrapped") {
				t.Errorf("P6.5: %s has the greater ability and not the lesser one", n.Kind())
			}
		}
	}
	for i, r := range node.Rows() {
		if got := node.Abilities(one(t)[i]); !slices.Equal(got, r.Abilities) {
			t.Errorf("P6.5: %s: %v, and its row tells %v", r.Kind, got, r.Abilities)
		}
	}
}

func TestFromManyGoroutines(t *testing.T) {
	x := wide(500)
	h := covered(t, wrapped(t, built(t, x), "f", 1, 2))
	var all sync.WaitGroup
	for range 8 {
		all.Go(func() {
			for range 20 {
				got, e := node.Plain(h)
				if e != nil || !reflect.DeepEqual(got, x) {
					t.Errorf("P6.7: Plain from several goroutines: %v", e)
				}
				lacks(t, node.Must(h, "Lazy"), "base.frame", "Lazy", "error 13 at f:1.2: base.frame Lazy", api.Place{Fun: "f", Path: []int{1, 2}})
				if w, e := node.Wrap(h, api.Place{}); e != nil || !slices.Equal(node.Abilities(w), []string{"Wrapped", "Origin"}) {
					t.Errorf("P6.7: Wrap from several goroutines: %v", e)
				}
			}
		})
	}
	all.Wait()
}

// Hold is what kits call beside the face.
func TestHold(t *testing.T) {
	if h := node.Hold(nil); h != nil {
		t.Errorf("P6.2: a handle of no node")
	}
	five := made(t, api.Tree{Kind: "base.int", Num: 5})
	for _, h := range []*node.Handle{five, covered(t, five), wrapped(t, covered(t, five), "f", 1)} {
		held := node.Hold(h.Node())
		if held == nil || held.Node() != h.Node() || !slices.Equal(node.Abilities(held), node.Abilities(h)) {
			t.Errorf("P6.2: a handle of another node")
		}
		core, e := node.Core(held)
		if e != nil || core.Node() != five.Node() || node.Must(held, "Literal") != nil {
			t.Errorf("P6.4: the core of a node that was held: %v", e)
		}
	}
}

// Nodes is what kits call beside the face.
func TestNodes(t *testing.T) {
	five := made(t, api.Tree{Kind: "base.int", Num: 5})
	hs := []*node.Handle{five, covered(t, five), five}
	l, ok := node.Nodes(hs)
	if !ok || len(l) != 3 || l[0] != five.Node() || l[1] != hs[1].Node() || l[2] != five.Node() {
		t.Errorf("P6.2: other nodes than the handles hold")
	}
	if l, ok := node.Nodes(nil); !ok || len(l) != 0 {
		t.Errorf("P6.2: nodes of no handles")
	}
	for _, none := range []*node.Handle{nil, {}} {
		if l, ok := node.Nodes([]*node.Handle{five, none}); ok || l != nil {
			t.Errorf("P6.2: nodes of a handle that holds none")
		}
	}
}
