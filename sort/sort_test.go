// The tests of P5.1 to P5.6, through the package's face alone.
package sort_test

import (
	"fmt"
	"slices"
	"strings"
	"sync"
	"testing"

	"espalier/api"
	"espalier/sort"
)

// leaf gives a sort of one Name.
func leaf(name string) api.Sort { return api.Sort{Name: name} }

// lists lays n lists around a sort of one Name.
func lists(n int, name string) api.Sort {
	s := leaf(name)
	for range n {
		s = api.Sort{Name: "list", Of: []api.Sort{s}}
	}
	return s
}

// parse gives the sort of a text, by a way of the test's own.
func parse(s string) api.Sort {
	words := strings.Fields(s)
	return lists(len(words)-1, words[len(words)-1])
}

// show writes a sort that may not be, too.
func show(s api.Sort) string {
	var b strings.Builder
	for n := 0; n < 70; n++ {
		b.WriteString(s.Name)
		if len(s.Of) != 1 {
			return fmt.Sprint(b.String(), strings.Repeat("!", len(s.Of)))
		}
		b.WriteString(" ")
		s = s.Of[0]
	}
	return b.String()
}

// ring gives a list's sort that lies in itself.
func ring(name string) api.Sort {
	of := make([]api.Sort, 1)
	of[0] = api.Sort{Name: name, Of: of}
	return of[0]
}

// mayNot gives sorts that may not be.
func mayNot() map[string]api.Sort {
	two := []api.Sort{leaf("int"), leaf("int")}
	wrong := map[string]api.Sort{
		"nothing": {}, "nothing with an Of": {Of: two[:1]}, "lost": leaf("lost"), "a great letter": leaf("A"), "two letters": leaf("ab"), "a digit": leaf("1"), "a blank": leaf(" "), "a letter and a blank": leaf("a "),
		"the byte below a": leaf("`"), "the byte above z": leaf("{"), "a byte above 127": leaf("\xe4"), "a letter beyond a to z": leaf("ä"), "nought": leaf("\x00"), "Int": leaf("Int"), "ints": leaf("ints"), "in": leaf("in"), "a list's text": leaf("list int"), "a very long name": leaf(strings.Repeat("a", 1<<20)),
		"list without Of": leaf("list"), "list with an empty Of": {Name: "list", Of: []api.Sort{}}, "list of two": {Name: "list", Of: two}, "list of nothing": {Name: "list", Of: []api.Sort{{}}}, "list of lost": lists(1, "lost"), "list of list without Of": lists(1, "list"), "list of many": {Name: "list", Of: make([]api.Sort, 1<<16)},
		"a list far in with two": {Name: "list", Of: []api.Sort{{Name: "list", Of: two}}}, "lists with two at the 65th": {},
		"65 lists": lists(65, "int"), "65 lists of a variable": lists(65, "a"), "65 lists without Of": lists(64, "list"), "64 lists of nothing": lists(64, ""), "1000 lists": lists(1000, "text"),
		"a ring": ring("list"), "a ring of int": ring("int"), "a ring of a": ring("a"),
	}
	for _, name := range []string{"unit", "truth", "int", "text", "a", "z"} {
		wrong[name+" with Of"] = api.Sort{Name: name, Of: two[:1]}
		wrong[name+" with Of of nothing"] = api.Sort{Name: name, Of: make([]api.Sort, 1)}
		wrong["list of "+name+" with Of"] = api.Sort{Name: "list", Of: []api.Sort{{Name: name, Of: two[:1]}}}
	}
	deep := api.Sort{Name: "list", Of: two}
	for range 63 {
		deep = api.Sort{Name: "list", Of: []api.Sort{deep}}
	}
	wrong["lists with two at the 65th"] = deep
	return wrong
}

// names are all Names that a sort without Of may have.
func names() []string {
	all := []string{"unit", "truth", "int", "text"}
	for c := 'a'; c <= 'z'; c++ {
		all = append(all, string(c))
	}
	return all
}

func TestMay(t *testing.T) {
	for name, s := range mayNot() {
		if e := sort.May(s); e != api.ErrSort {
			t.Errorf("P5.1: May of %s is %d", name, e)
		}
	}
	for _, name := range names() {
		for _, n := range []int{0, 1, 2, 63, 64} {
			if e := sort.May(lists(n, name)); e != api.OK {
				t.Errorf("P5.1: May of %d lists of %s is %d", n, name, e)
			}
		}
		if e := sort.May(api.Sort{Name: name, Of: make([]api.Sort, 0, 3)}); e != api.OK {
			t.Errorf("P5.1: May of %s with an empty Of is %d", name, e)
		}
	}
}

func TestSame(t *testing.T) {
	var all []api.Sort
	for _, name := range names() {
		for _, n := range []int{0, 1, 2, 64} {
			all = append(all, lists(n, name))
		}
	}
	for i, a := range all {
		for k, b := range all {
			if sort.Same(a, parse(show(b))) != (i == k) {
				t.Errorf("P5.1: Same(%s, %s) is %v", show(a), show(b), i != k)
			}
		}
	}
	if !sort.Same(leaf("int"), api.Sort{Name: "int", Of: []api.Sort{}}) {
		t.Error("P5.1: an empty Of and a nil one are not the same")
	}
	for name, s := range mayNot() {
		if sort.Same(s, s) || sort.Same(s, leaf("a")) || sort.Same(leaf("a"), s) || sort.Same(s, lists(64, "int")) {
			t.Errorf("P5.1: %s is the same as something", name)
		}
	}
}

func TestText(t *testing.T) {
	for name, s := range mayNot() {
		if text, e := sort.Text(s); text != "" || e != api.ErrSort {
			t.Errorf("P5.2: Text of %s is %q, %d", name, text, e)
		}
	}
	for _, name := range names() {
		for n := range 65 {
			want := strings.Repeat("list ", n) + name
			if text, e := sort.Text(lists(n, name)); text != want || e != api.OK {
				t.Errorf("P5.2: Text is %q, %d, not %q", text, e, want)
			}
			s, at, e := sort.Read(want)
			if show(s) != want || at != 0 || e != api.OK || !sort.Same(s, lists(n, name)) {
				t.Errorf("P5.2: Read(%q) is %s, %d, %d", want, show(s), at, e)
			}
		}
	}
}

func wantAmiss(t *testing.T, s string, at int, want api.Errno) {
	t.Helper()
	if x, a, e := sort.Read(s); a != at || e != want || x.Name != "" || x.Of != nil {
		t.Errorf("P5.2: Read(%.30q) is %s, %d, %d, not %d, %d", s, show(x), a, e, at, want)
	}
}

func TestReadSyntax(t *testing.T) {
	for s, at := range map[string]int{
		"": 0, " ": 0, "  ": 0, "A": 0, "aa": 0, "lists": 0, "lis": 0, "List": 0, "ints": 0, "int\n": 0, "\tint": 0, "int\x00": 0, "ä": 0, "\xff": 0, "0": 0, " int": 0, " a": 0, "list\ta": 0, "list,int": 0, "(int)": 0, "lost a": 0, "lost list": 0,
		"list": 4, "list ": 5, "list  a": 5, "list  ": 5, "list A": 5, "list lost": 5, "list lists a": 5, "list list": 9, "list list ": 10, "list list  int": 10, "list list list": 14,
		"int ": 4, "int a": 4, "int  ": 4, "int  a": 4, "int list": 4, "int list a": 4, "a ": 2, "a b": 2, "a b c": 2, "unit unit": 5, "truth ": 6, "text x": 5, "list a ": 7, "list a b": 7, "list int list": 9, "list text lost": 10,
		strings.Repeat("x", 1<<20+1): 0, "int" + strings.Repeat(" ", 1<<20): 4, strings.Repeat(" ", 1<<20): 0, "list " + strings.Repeat("a", 1<<20): 5,
	} {
		wantAmiss(t, s, at, api.ErrSyntax)
	}
}

func TestReadLong(t *testing.T) {
	list := func(n int) string { return strings.Repeat("list ", n) }
	for _, s := range []string{list(65) + "int", list(65) + "a", list(65), list(65) + "lost", list(65) + " ", list(65) + "list", list(66), list(66) + "a b", list(65) + "int int", list(65) + "\x00", list(1000) + "text", list(1 << 18)} {
		wantAmiss(t, s, 0, api.ErrLong)
	}
	// What is amiss ahead of the 65th, or lacks a word, is no text's form.
	wantAmiss(t, strings.TrimSuffix(list(65), " "), 324, api.ErrSyntax)
	wantAmiss(t, strings.TrimSuffix(list(64), " "), 319, api.ErrSyntax)
	wantAmiss(t, list(64), 320, api.ErrSyntax)
	wantAmiss(t, list(64)+"lost", 320, api.ErrSyntax)
	wantAmiss(t, list(64)+"lists int", 320, api.ErrSyntax)
	wantAmiss(t, list(64)+"int ", 324, api.ErrSyntax)
	wantAmiss(t, list(64)+"a list", 322, api.ErrSyntax)
	wantAmiss(t, list(30)+" "+list(40)+"a", 150, api.ErrSyntax)
	wantAmiss(t, "lost "+list(70)+"a", 0, api.ErrSyntax)
	wantAmiss(t, "int "+list(70)+"a", 4, api.ErrSyntax)
}

// TestReadAll reads all texts of some words: what is read is written again as
// it was; where something is amiss, what stands ahead can go on to a text, and
// with the word there it can't.
func TestReadAll(t *testing.T) {
	goesOn := func(words []string) bool {
		for i, w := range words {
			if w != "list" && (i < len(words)-1 || !slices.Contains(names(), w)) {
				return false
			}
		}
		return true
	}
	some := []string{"list", "int", "b", "", "B", "lost"}
	var read func(words []string)
	read = func(words []string) {
		if len(words) > 0 {
			text, at, first := strings.Join(words, " "), 0, 0
			for ; first < len(words) && goesOn(words[:first+1]); first++ {
				at += len(words[first]) + 1
			}
			switch {
			case first < len(words):
				wantAmiss(t, text, at, api.ErrSyntax)
			case words[len(words)-1] == "list":
				wantAmiss(t, text, len(text), api.ErrSyntax)
			default:
				if s, at, e := sort.Read(text); show(s) != text || at != 0 || e != api.OK {
					t.Errorf("P5.2: Read(%q) is %s, %d, %d", text, show(s), at, e)
				}
			}
		}
		if len(words) < 5 {
			for _, w := range some {
				read(append(slices.Clip(words), w))
			}
		}
	}
	read(nil)
}

// given writes what Unify answers.
func given(gs []api.Given) string {
	var out []string
	for _, g := range gs {
		out = append(out, g.Name+" is "+show(g.Sort))
	}
	return strings.Join(out, "; ")
}

func TestUnify(t *testing.T) {
	for _, x := range []struct{ a, b, want string }{
		{"list a", "list int", "a is int"}, {"a", "b", "b is a"}, {"a", "a", ""}, {"list b", "a", "a is list b"}, {"a", "list b", "a is list b"}, {"b", "list a", "b is list a"}, {"z", "y", "z is y"},
		{"int", "int", ""}, {"list text", "list text", ""}, {"m", "unit", "m is unit"}, {"truth", "q", "q is truth"}, {"list list a", "list b", "b is list a"}, {"list list b", "list a", "a is list b"}, {"list a", "list b", "b is a"}, {"list c", "list list list text", "c is list list text"},
		{"a", strings.Repeat("list ", 64) + "int", "a is " + strings.Repeat("list ", 64) + "int"}, {strings.Repeat("list ", 64) + "b", strings.Repeat("list ", 64) + "a", "b is a"}, {strings.Repeat("list ", 64) + "b", "list a", "a is " + strings.Repeat("list ", 63) + "b"},
	} {
		for range 2 {
			if gs, e := sort.Unify(parse(x.a), parse(x.b)); given(gs) != x.want || e != api.OK {
				t.Errorf("P5.3: Unify(%s, %s): %s, %d, not %s", x.a, x.b, given(gs), e, x.want)
			}
			x.a, x.b = x.b, x.a
		}
	}
	for _, x := range [][2]string{{"int", "text"}, {"a", "list a"}, {"list a", "list list a"}, {"z", "list list list z"}, {"int", "list int"}, {"list int", "list text"}, {"unit", "list a"}, {"list list a", "list truth"}, {"int", strings.Repeat("list ", 64) + "a"}, {"a", strings.Repeat("list ", 64) + "a"}} {
		for range 2 {
			if gs, e := sort.Unify(parse(x[0]), parse(x[1])); gs != nil || e != api.ErrSort {
				t.Errorf("P5.3: Unify(%s, %s): %s, %d", x[0], x[1], given(gs), e)
			}
			x[0], x[1] = x[1], x[0]
		}
	}
	for name, s := range mayNot() {
		for _, other := range []api.Sort{leaf("a"), lists(3, "int"), s} {
			if gs, e := sort.Unify(s, other); gs != nil || e != api.ErrSort {
				t.Errorf("P5.3: Unify with %s: %s, %d", name, given(gs), e)
			}
			if gs, e := sort.Unify(other, s); gs != nil || e != api.ErrSort {
				t.Errorf("P5.3: Unify with %s behind: %s, %d", name, given(gs), e)
			}
		}
	}
}

// small gives all sorts of few lists.
func small(most int, names ...string) []api.Sort {
	var all []api.Sort
	for n := range most + 1 {
		for _, name := range names {
			all = append(all, lists(n, name))
		}
	}
	return all
}

// choices goes over all ways to put ground sorts in the places of a, b and c.
func choices(do func([]api.Given)) {
	is := small(5, "int", "text")
	for _, a := range is {
		for _, b := range is {
			for _, c := range is {
				do([]api.Given{{Name: "a", Sort: a}, {Name: "b", Sort: b}, {Name: "c", Sort: c}})
			}
		}
	}
}

func apply(t *testing.T, s api.Sort, gs []api.Given) string {
	t.Helper()
	x, e := sort.Apply(s, gs...)
	if e != api.OK {
		t.Fatalf("P5.4: Apply(%s, %s) is %d", show(s), given(gs), e)
	}
	return show(x)
}

// TestUnifyAll holds Unify of all small sorts against all ways to make them the
// same: there is one, if there is one at all; what Unify answers makes them the
// same, has none of its variables in it, and every way goes through it.
func TestUnifyAll(t *testing.T) {
	all := small(2, "int", "text", "a", "b", "c")
	for _, a := range all {
		for _, b := range all {
			gs, e := sort.Unify(a, b)
			ways := 0
			choices(func(ground []api.Given) {
				if apply(t, a, ground) != apply(t, b, ground) {
					return
				}
				ways++
				for _, g := range gs {
					if apply(t, leaf(g.Name), ground) != apply(t, g.Sort, ground) {
						t.Fatalf("P5.3: Unify(%s, %s): %s leaves out %s", show(a), show(b), given(gs), given(ground))
					}
				}
			})
			if (e == api.OK) != (ways > 0) || e != api.OK && (e != api.ErrSort || gs != nil) {
				t.Fatalf("P5.3: Unify(%s, %s): %s, %d", show(a), show(b), given(gs), e)
			}
			if e == api.OK && apply(t, a, gs) != apply(t, b, gs) {
				t.Fatalf("P5.3: Unify(%s, %s): %s does not make them the same", show(a), show(b), given(gs))
			}
			for _, g := range gs {
				if apply(t, g.Sort, gs) != show(g.Sort) || g.Sort.Of == nil && len(g.Sort.Name) == 1 && g.Sort.Name > g.Name {
					t.Fatalf("P5.3: Unify(%s, %s): %s", show(a), show(b), given(gs))
				}
			}
		}
	}
}

func is(name, s string) api.Given { return api.Given{Name: name, Sort: parse(s)} }

func TestApply(t *testing.T) {
	for _, x := range []struct {
		s    string
		gs   []api.Given
		want string
	}{
		{"list a", []api.Given{is("a", "b"), is("b", "int")}, "list b"}, {"list a", []api.Given{is("b", "int"), is("a", "b")}, "list b"},
		{"a", nil, "a"}, {"a", []api.Given{}, "a"}, {"int", []api.Given{is("a", "text")}, "int"}, {"list unit", nil, "list unit"}, {"list b", []api.Given{is("a", "text")}, "list b"},
		{"a", []api.Given{is("a", "a")}, "a"}, {"a", []api.Given{is("a", "list a")}, "list a"}, {"list list a", []api.Given{is("a", "list a"), is("b", "a")}, "list list list a"},
		{"list z", []api.Given{is("a", "b"), is("z", "list list truth")}, "list list list truth"}, {"b", []api.Given{is("a", "b"), is("b", "a")}, "a"},
	} {
		if s, e := sort.Apply(parse(x.s), x.gs...); show(s) != x.want || e != api.OK {
			t.Errorf("P5.4: Apply(%s, %s) is %s, %d, not %s", x.s, given(x.gs), show(s), e, x.want)
		}
	}
	var all []api.Given
	for i, name := range names()[4:] {
		all = append(all, api.Given{Name: name, Sort: lists(i, name)})
	}
	for i, name := range names()[4:] {
		if s, e := sort.Apply(lists(1, name), all...); show(s) != show(lists(i+1, name)) || e != api.OK {
			t.Errorf("P5.4: Apply(list %s, all) is %s, %d", name, show(s), e)
		}
	}
}

func wantRefused(t *testing.T, what string, want api.Errno, s api.Sort, gs ...api.Given) {
	t.Helper()
	if x, e := sort.Apply(s, gs...); e != want || x.Name != "" || x.Of != nil {
		t.Errorf("P5.4: Apply of %s is %s, %d, not %d", what, show(x), e, want)
	}
}

func TestApplyRefused(t *testing.T) {
	ok := is("a", "int")
	for _, name := range []string{"", "A", "aa", "1", "int", "unit", "list", "list a", "`", "{", "ä", "\x00", " ", "a ", strings.Repeat("a", 1<<20)} {
		bad := api.Given{Name: name, Sort: leaf("int")}
		wantRefused(t, "Name "+name, api.ErrArg, leaf("a"), bad)
		wantRefused(t, "Name "+name+" behind", api.ErrArg, leaf("int"), ok, bad)
		wantRefused(t, "Name "+name+" with a Sort that may not be", api.ErrSort, leaf("a"), bad, api.Given{Name: "b"})
	}
	wantRefused(t, "a twice", api.ErrArg, leaf("a"), ok, ok)
	wantRefused(t, "b twice, not next to each other", api.ErrArg, leaf("a"), is("b", "int"), ok, is("b", "text"))
	wantRefused(t, "very many", api.ErrArg, leaf("a"), slices.Repeat([]api.Given{ok}, 1<<16)...)
	for name, s := range mayNot() {
		bad := api.Given{Name: "a", Sort: s}
		wantRefused(t, name, api.ErrSort, s)
		wantRefused(t, name+" and more amiss", api.ErrSort, s, ok, ok, api.Given{Name: "no", Sort: leaf("int")})
		wantRefused(t, "a Given of "+name, api.ErrSort, leaf("a"), bad)
		wantRefused(t, "a Given of "+name+" for no variable of it", api.ErrSort, leaf("int"), bad)
		wantRefused(t, "a Given of "+name+" behind two of one Name", api.ErrSort, leaf("a"), ok, ok, bad)
		wantRefused(t, "a Given of "+name+" ahead of two of one Name", api.ErrSort, lists(64, "b"), bad, ok, ok, api.Given{Name: "b", Sort: lists(9, "b")})
	}
}

func TestApplyLong(t *testing.T) {
	for n := range 65 {
		fits, beyond := api.Given{Name: "a", Sort: lists(64-n, "b")}, api.Given{Name: "a", Sort: lists(65-n, "b")}
		if s, e := sort.Apply(lists(n, "a"), fits); show(s) != show(lists(64, "b")) || e != api.OK {
			t.Errorf("P5.4: %d lists and %d are %s, %d", n, 64-n, show(s), e)
		}
		if n > 0 {
			wantRefused(t, "too many lists", api.ErrLong, lists(n, "a"), beyond)
			wantRefused(t, "too many lists, and a twice", api.ErrArg, lists(n, "a"), beyond, beyond)
			if s, e := sort.Apply(lists(n, "c"), beyond); show(s) != show(lists(n, "c")) || e != api.OK {
				t.Errorf("P5.4: what has no place is %s, %d", show(s), e)
			}
		}
	}
	wantRefused(t, "64 lists twice", api.ErrLong, lists(64, "a"), api.Given{Name: "a", Sort: lists(64, "a")})
}

func num(n int64) api.Plain        { return api.Plain{Kind: api.PInt, Num: n} }
func yes() api.Plain               { return api.Plain{Kind: api.PTruth, Num: 1} }
func unit() api.Plain              { return api.Plain{Kind: api.PUnit} }
func text(s string) api.Plain      { return api.Plain{Kind: api.PText, Text: s} }
func of(ps ...api.Plain) api.Plain { return api.Plain{Kind: api.PList, List: ps} }

// nested lays n lists around a plain value.
func nested(p api.Plain, n int) api.Plain {
	for range n {
		p = of(p)
	}
	return p
}

// plainRing gives a list that holds itself twice.
func plainRing() api.Plain {
	l := make([]api.Plain, 2)
	l[0] = of(l...)
	l[1] = of(l...)
	return of(l...)
}

// noValues gives plain values that may not be.
func noValues() map[string]api.Plain {
	return map[string]api.Plain{
		"nothing": {}, "kind 6": {Kind: 6}, "truth 2": {Kind: api.PTruth, Num: 2}, "unit with a Num": {Kind: api.PUnit, Num: 1}, "int with a Text": {Kind: api.PInt, Text: "x"}, "list with a Text": {Kind: api.PList, Text: "x"},
		"a list of nothing": of(api.Plain{}), "a list of unlike ones and nothing": of(num(1), yes(), api.Plain{}), "65 deep": nested(of(), 64), "int in 65 lists": nested(num(1), 65), "too great": of(slices.Repeat([]api.Plain{unit()}, 65536)...), "a text too great": text(strings.Repeat("x", 65536)), "a ring": plainRing(),
	}
}

func TestOf(t *testing.T) {
	empty := of()
	rows := []struct {
		p    api.Plain
		want string
	}{
		{unit(), "unit"}, {yes(), "truth"}, {api.Plain{Kind: api.PTruth}, "truth"}, {num(-5), "int"}, {num(0), "int"}, {text(""), "text"}, {text("list a"), "text"},
		{of(num(1), num(2)), "list int"}, {empty, "list a"}, {api.Plain{Kind: api.PList, List: make([]api.Plain, 0, 3)}, "list a"}, {of(empty, of(num(1))), "list list int"}, {of(of(num(1)), empty), "list list int"}, {of(empty, empty), "list list a"}, {of(of(empty), empty), "list list list a"}, {of(empty, of(empty), of(of(of(text("x"))), empty), empty), "list list list list text"},
		{of(of(of(), of(of())), of(of(of(yes()))), of()), "list list list list truth"}, {of(of(empty, of(empty)), of(of(of(empty)), empty)), "list list list list list a"}, {of(unit(), unit(), unit()), "list unit"},
		{nested(empty, 63), strings.Repeat("list ", 64) + "a"}, {nested(num(1), 64), strings.Repeat("list ", 64) + "int"}, {of(nested(empty, 62), nested(num(1), 63), empty), strings.Repeat("list ", 64) + "int"},
		{of(slices.Repeat([]api.Plain{empty}, 65535)...), "list list a"}, {of(append(slices.Repeat([]api.Plain{of(empty)}, 32000), of(of(unit())))...), "list list list unit"},
	}
	for _, x := range rows {
		if s, e := sort.Of(x.p); show(s) != x.want || e != api.OK {
			t.Errorf("P5.5: Of is %s, %d, not %s", show(s), e, x.want)
		}
		if !sort.Is(x.p, parse(x.want)) {
			t.Errorf("P5.5: what is of %s Is not", x.want)
		}
	}
	for _, p := range []api.Plain{
		of(num(1), yes()), of(num(1), text("")), of(unit(), empty), of(empty, unit()), of(of(num(1)), of(yes())), of(of(num(1)), empty, of(yes())), of(empty, of(of(num(1))), of(num(1))), of(of(empty), of(num(1))), of(of(num(1), unit())), of(nested(num(1), 63), nested(num(1), 62)), of(nested(num(1), 3), nested(empty, 3)), of(of(empty, num(1)), empty),
	} {
		if s, e := sort.Of(p); e != api.ErrSort || s.Name != "" || s.Of != nil {
			t.Errorf("P5.5: Of(%v) is %s, %d", p, show(s), e)
		}
	}
	for name, p := range noValues() {
		if s, e := sort.Of(p); e != api.ErrArg || s.Name != "" || s.Of != nil {
			t.Errorf("P5.5: Of(%s) is %s, %d", name, show(s), e)
		}
	}
}

func TestIs(t *testing.T) {
	empty := of()
	for _, x := range []struct {
		p    api.Plain
		s    string
		want bool
	}{
		{of(empty, of(num(1))), "list list a", true}, {of(of(num(1)), of(yes())), "list list a", false}, {num(5), "a", true}, {num(5), "int", true}, {num(5), "text", false}, {num(5), "list a", false}, {unit(), "unit", true}, {unit(), "truth", false}, {yes(), "truth", true}, {yes(), "int", false}, {text("int"), "text", true}, {text("int"), "int", false},
		{empty, "list int", true}, {empty, "list text", true}, {empty, "list list list unit", true}, {empty, "list a", true}, {empty, "a", true}, {empty, "z", true}, {empty, "unit", false}, {empty, strings.Repeat("list ", 64) + "int", true},
		{of(num(1)), "list int", true}, {of(num(1)), "list a", true}, {of(num(1)), "b", true}, {of(num(1)), "list text", false}, {of(num(1)), "list list a", false}, {of(num(1)), "int", false}, {of(num(1), yes()), "list a", false}, {of(num(1), yes()), "a", false}, {of(empty, of(num(1)), of(empty)), "a", false},
		{of(empty, empty), "list a", true}, {of(empty, empty), "list list list int", true}, {of(empty, of(num(1))), "list list text", false}, {of(empty, of(of())), "list list int", false}, {of(empty, of(of())), "list list list int", true},
		{nested(num(1), 64), strings.Repeat("list ", 64) + "int", true}, {nested(num(1), 64), "a", true}, {nested(num(1), 64), strings.Repeat("list ", 63) + "a", true}, {nested(num(1), 64), strings.Repeat("list ", 64) + "text", false}, {nested(empty, 63), strings.Repeat("list ", 64) + "truth", true},
	} {
		if got := sort.Is(x.p, parse(x.s)); got != x.want {
			t.Errorf("P5.5: Is(%v, %s) is %v", x.p, x.s, got)
		}
	}
	for name, p := range noValues() {
		for _, s := range []api.Sort{leaf("a"), lists(1, "a"), lists(64, "int"), leaf("unit")} {
			if sort.Is(p, s) {
				t.Errorf("P5.5: Is(%s, %s)", name, show(s))
			}
		}
	}
	for name, s := range mayNot() {
		if sort.Is(num(1), s) || sort.Is(empty, s) || sort.Is(of(num(1)), s) {
			t.Errorf("P5.5: something is of %s", name)
		}
	}
}

// isOf tells whether a value is of a ground sort, by the words of doc/00.
func isOf(p api.Plain, s api.Sort) bool {
	switch p.Kind {
	case api.PInt:
		return s.Name == "int"
	case api.PTruth:
		return s.Name == "truth"
	case api.PList:
		return s.Name == "list" && !slices.ContainsFunc(p.List, func(item api.Plain) bool { return !isOf(item, s.Of[0]) })
	}
	return false
}

// smallValues gives all values of an int, a truth and lists, so deep, of at most two items.
func smallValues(deep int) []api.Plain {
	all := []api.Plain{num(1), yes()}
	if deep == 0 {
		return all
	}
	all = append(all, of())
	items := smallValues(deep - 1)
	for _, a := range items {
		all = append(all, of(a))
		for _, b := range items {
			all = append(all, of(a, b))
		}
	}
	return all
}

// TestValuesAll holds Of and Is of all small values against all sorts that they
// are of.
func TestValuesAll(t *testing.T) {
	sorts := append(small(4, "int", "truth", "text"), small(3, "a", "b")...)
	into := small(6, "int", "truth", "text", "unit")
	for _, p := range smallValues(3) {
		s, e := sort.Of(p)
		if hasSort := slices.ContainsFunc(into, func(g api.Sort) bool { return isOf(p, g) }); hasSort != (e == api.OK) {
			t.Fatalf("P5.5: Of(%v) is %s, %d", p, show(s), e)
		}
		for _, x := range sorts {
			want := false
			for _, g := range into {
				ground, _ := sort.Apply(x, api.Given{Name: "a", Sort: g}, api.Given{Name: "b", Sort: g})
				want = want || isOf(p, ground)
			}
			if got := sort.Is(p, x); got != want {
				t.Fatalf("P5.5: Is(%v, %s) is %v", p, show(x), got)
			}
		}
		for _, g := range into {
			if _, apart := sort.Unify(s, g); e == api.OK && isOf(p, g) != (apart == api.OK) {
				t.Fatalf("P5.5: Of(%v) is %s, and it is of %s: %v", p, show(s), show(g), isOf(p, g))
			}
		}
	}
}

// scribble writes into all lists of a sort, and behind them.
func scribble(s api.Sort) {
	for _, x := range s.Of {
		scribble(x)
	}
	for i := range s.Of {
		s.Of[i] = leaf("lost")
	}
	if cap(s.Of) > len(s.Of) {
		s.Of[:cap(s.Of)][len(s.Of)] = leaf("lost")
	}
}

func TestNewMemory(t *testing.T) {
	a, b := lists(3, "a"), lists(1, "b")
	arg := api.Given{Name: "a", Sort: lists(2, "int")}
	p := of(of(), of(num(1)))
	makers := map[string]func() api.Sort{
		"Read":                        func() api.Sort { s, _, _ := sort.Read("list list a"); return s },
		"Unify":                       func() api.Sort { gs, _ := sort.Unify(a, b); return gs[0].Sort },
		"Apply":                       func() api.Sort { s, _ := sort.Apply(a, arg); return s },
		"Apply of what stays":         func() api.Sort { s, _ := sort.Apply(a); return s },
		"Apply in a variable's place": func() api.Sort { s, _ := sort.Apply(leaf("a"), arg); return s },
		"Of":                          func() api.Sort { s, _ := sort.Of(p); return s },
	}
	for name, do := range makers {
		first, second := do(), do()
		want := show(first)
		scribble(first)
		if got := show(second); got != want {
			t.Errorf("P5.6: another answer of %s became %s", name, got)
		}
		if got := show(do()); got != want {
			t.Errorf("P5.6: a later answer of %s is %s", name, got)
		}
	}
	if show(a) != "list list list a" || show(b) != "list b" || show(arg.Sort) != "list list int" || len(p.List) != 2 || len(p.List[1].List) != 1 {
		t.Error("P5.6: what was handed in is changed")
	}
	gs, _ := sort.Unify(a, b)
	_ = append(gs[:0], api.Given{Name: "lost"})
	if gs, _ := sort.Unify(a, b); given(gs) != "b is list list a" {
		t.Errorf("P5.6: a later answer of Unify is %s", given(gs))
	}
}

func TestNothingChanged(t *testing.T) {
	room := make([]api.Given, 2, 4)
	room[0], room[1] = is("a", "list b"), is("b", "int")
	spare := make([]api.Sort, 1, 3)
	spare[0] = leaf("a")
	s := api.Sort{Name: "list", Of: spare}
	sort.Apply(s, room...)
	sort.Unify(s, leaf("b"))
	sort.Text(s)
	sort.Is(of(num(1)), s)
	if given(room) != "a is list b; b is int" || room[:4][2].Name != "" || room[:4][3].Name != "" || show(s) != "list a" || spare[:3][1].Name != "" || spare[:3][2].Name != "" {
		t.Error("P5.6: what was handed in is changed")
	}
	kept, _ := sort.Apply(s)
	got, _ := sort.Apply(leaf("a"), room[0])
	gs, _ := sort.Unify(s, leaf("b"))
	spare[0], room[0].Sort.Of[0] = leaf("lost"), leaf("lost")
	if show(kept) != "list a" || show(got) != "list b" || given(gs) != "b is list a" {
		t.Error("P5.6: what was handed in is kept")
	}
}

func TestManyAtATime(t *testing.T) {
	var wg sync.WaitGroup
	for range 8 {
		wg.Go(func() {
			for range 200 {
				gs, _ := sort.Unify(lists(3, "b"), lists(1, "a"))
				s, _ := sort.Of(of(of(), of(num(1)), of()))
				x, _, _ := sort.Read("list list z")
				if given(gs) != "a is list list b" || show(s) != "list list int" || show(x) != "list list z" || !sort.Is(of(), lists(1, "c")) {
					t.Error("P5.6: an answer hangs on other calls")
				}
			}
		})
	}
	wg.Wait()
}
