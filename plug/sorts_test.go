package plug_test

import (
	"math/rand/v2"
	"slices"
	"strconv"
	"strings"
	"testing"

	"espalier/api"
	"espalier/craft"
	"espalier/fault"
	"espalier/kit"
	"espalier/node"
	"espalier/part"
)

func TestSorts(t *testing.T) {
	ps := []api.Plugin{
		neither(), {Kind: "my.let", Like: "bind.let"}, {Kind: "my.map", Like: "list.map"},
		plugin("my.hidden", "1", "> int", "Sugar"), plugin("my.idle", "1", "> int", "Sorted"), plugin("my.bare", "1", "> int", "Pure Total"),
		plugin("my.pair", "list.of($1, $2)", "a, a > list a", "Sorted Sugar"), plugin("my.any", "guard.raise(base.text)", "> a", "Sorted Sugar"),
	}
	for _, c := range []struct {
		template, signature string
		want                api.Errno
	}{
		// Uses, and sorts of their own.
		{"$1", "int > int", api.OK}, {"$1", "a > a", api.OK}, {"$1", "a > b", api.ErrSort}, {"$1", "a > int", api.ErrSort}, {"$1", "int > a", api.ErrSort}, {"$2", "a, b > b", api.OK}, {"$2", "a, b > a", api.ErrSort}, {"$1", "list a > list a", api.OK}, {"$1", "a > list a", api.ErrSort},
		{"truth.same($1, $2)", "a, a > truth", api.OK}, {"truth.same($1, $2)", "a, b > truth", api.ErrSort}, {"truth.same($1, 5)", "a > truth", api.ErrSort}, {"num.neg($1)", "a > int", api.ErrSort}, {"list.of($1, $2)", "list a, list b > list list a", api.ErrSort},
		// Literals, and operations from the left.
		{"5", "> int", api.OK}, {"unit", "> unit", api.OK}, {"yes", "> truth", api.OK}, {"base.text:x", "> text", api.OK}, {"5", "> text", api.ErrSort}, {"num.add(1, yes)", "> int", api.ErrSort}, {"num.less(1, 2)", "> truth", api.OK}, {"truth.if(yes, 1, unit)", "> int", api.ErrSort}, {"truth.if(1, 1, 1)", "> int", api.ErrSort},
		// Each node's variables are its own, for all of its kids.
		{"truth.and(truth.same(1, 2), truth.same(yes, no))", "> truth", api.OK}, {"truth.same(truth.same(1, 2), truth.same(yes, yes))", "> truth", api.OK}, {"list.at(list.of(list.of(1), list.of()), 0)", "> list int", api.OK}, {"list.of(1, yes)", "> list int", api.ErrSort}, {"list.of(1, list.of())", "> list int", api.ErrSort},
		// Rest.
		{"list.of()", "> list a", api.OK}, {"list.of()", "> list list text", api.OK}, {"list.of()", "> a", api.ErrSort}, {"list.of(1, 2, 3, 4, $1)", "int > list int", api.OK}, {"list.of(1, 2, 3, 4, $1)", "text > list int", api.ErrSort}, {"num.sum(1, 2, $1)", "int > int", api.OK}, {"num.sum(1, 2, $1, 4)", "text > int", api.ErrSort}, {"words.all()", "> text", api.OK}, {"words.all(base.text, 1)", "> text", api.ErrSort},
		// What is found out later holds ahead, too; none has itself in it.
		{"bind.let:x(list.of(), list.add($x, 1))", "> list int", api.OK}, {"bind.let:x(list.of(), truth.same(list.add($x, 1), list.add($x, 2)))", "> truth", api.OK}, {"bind.let:x(list.of(), truth.same(list.add($x, 1), list.add($x, yes)))", "> truth", api.ErrSort}, {"bind.let:x(list.of(), list.of($x, list.add($x, 1), list.add($x, yes)))", "> list list int", api.ErrSort},
		{"bind.let:x(list.of(), list.add($x, $x))", "> list list a", api.ErrSort}, {"bind.let:x(list.of(), list.add($x, list.of($x)))", "> list a", api.ErrSort}, {"bind.let:x(guard.raise(base.text), truth.same($x, list.of($x)))", "> truth", api.ErrSort}, {"bind.let:x(guard.raise(base.text), truth.same($x, $x))", "> truth", api.OK},
		{"bind.let:x(list.at(list.of(), 0), bind.let:y(list.at(list.of(), 0), flow.seq(truth.same($x, $y), flow.seq(num.neg($y), $x))))", "> int", api.OK}, {"bind.let:x(list.at(list.of(), 0), bind.let:y(list.at(list.of(), 0), flow.seq(truth.same($x, $y), flow.seq(num.neg($y), $x))))", "> text", api.ErrSort},
		// Bound, under what has been found out so far.
		{"list.map:x($1, num.neg($x))", "list int > list int", api.OK}, {"list.map:x($1, num.neg($x))", "list a > list int", api.ErrSort}, {"list.map:x($1, list.of($x))", "list a > list list a", api.OK}, {"list.map:x($x, $x)", "> list a", api.ErrName}, {"list.keep:x($1, $x)", "list truth > list truth", api.OK}, {"list.keep:x($1, $x)", "list int > list int", api.ErrSort},
		{"list.map:x(list.of(1), list.map:y(list.of($x), truth.same($x, $y)))", "> list list truth", api.OK}, {"guard.catch:e($1, words.size($e))", "int > int", api.OK}, {"guard.catch:e($1, $e)", "int > int", api.ErrSort}, {"my.map:x($1, list.of($x))", "list a > list list a", api.OK}, {"my.let:x(1, list.of($x))", "> list int", api.OK}, {"my.let:x(1, list.of($x))", "> list text", api.ErrSort},
		// A Binder without sorts.
		{"call.by:f(1, list.of($f))", "> list int", api.OK}, {"call.by:f(1, list.of($f))", "> list truth", api.ErrSort}, {"call.by:f($1, call.by:f(list.of($f), $f))", "a > list a", api.OK}, {"call.by:f(num.neg(yes), 1)", "> int", api.ErrSort},
		// Frames: the numbers alone.
		{"base.frame($1, list.of($1))", "int > list int", api.OK}, {"base.frame(yes, list.of($1))", "int > list int", api.ErrSort}, {"base.frame(yes, list.of($1))", "int > list truth", api.OK}, {"base.frame($1)", "int > int", api.ErrSort}, {"base.frame(1, $2)", "int, int > int", api.ErrSort}, {"base.frame(1, 2, $2)", "> int", api.OK}, {"base.frame(5)", "> int", api.OK}, {"base.frame(num.neg(yes), 5)", "> int", api.ErrSort},
		{"base.frame(1, yes, base.frame($2, $1, truth.if($1, $2, 0)))", "> int", api.OK}, {"base.frame(1, yes, base.frame($2, $1, truth.if($2, $2, 0)))", "> int", api.ErrSort}, {"bind.let:x(1, base.frame($x, num.neg($1)))", "> int", api.OK},
		// Sugar of kits: by its sorts, or by what it stands for.
		{"num.inc($1)", "int > int", api.OK}, {"num.inc(yes)", "> int", api.ErrSort}, {"flow.twice($1)", "a > a", api.OK}, {"flow.all($1, $2)", "a, b > b", api.OK}, {"flow.all($1, $2)", "a, b > a", api.ErrSort}, {"flow.all(num.neg(yes), 1)", "> int", api.ErrSort}, {"flow.all($1)", "a > a", api.OK},
		{"bind.where:x(1, yes)", "> int", api.OK}, {"bind.where:x(1, num.neg(yes))", "> int", api.ErrSort}, {"bind.let:x(yes, bind.where:x($x, 1))", "> int", api.OK}, {"bind.let:x(yes, bind.where:x($x, 1))", "> truth", api.ErrSort}, {"bind.let:x(yes, bind.star:x y($x, 1, $x))", "> truth", api.OK}, {"bind.let:x(yes, bind.star:x y(1, $x, list.of($x)))", "> list int", api.OK}, {"bind.star:(5)", "> int", api.OK}, {"bind.star:a b(1, yes, unit)", "> unit", api.OK}, {"bind.star:a b(1, num.neg(yes), unit)", "> unit", api.ErrSort},
		// Plugins: by their sorts, or not at all.
		{"my.neither(yes, $1)", "truth > truth", api.OK}, {"my.neither(yes, $1)", "int > truth", api.ErrSort}, {"my.pair($1, $1)", "a > list a", api.OK}, {"my.pair(my.pair(1, 2), my.pair(3, 4))", "> list list int", api.OK}, {"my.pair(1, yes)", "> list int", api.ErrSort}, {"truth.if(my.any, my.any, 5)", "> int", api.OK}, {"my.any", "> q", api.OK},
		{"my.hidden", "> int", api.ErrSort}, {"list.of(my.hidden)", "> list int", api.ErrSort}, {"my.idle", "> int", api.ErrSort}, {"flow.seq(my.idle, 5)", "> int", api.ErrSort}, {"my.bare", "> int", api.ErrSort}, {"flow.all(5, my.bare)", "> int", api.ErrSort}, {"base.frame(my.idle, 5)", "> int", api.ErrSort},
	} {
		p := plugin("my.x", c.template, c.signature, "")
		e := laden(t, ps...).Add(p)
		if fault.Code(e) != c.want {
			t.Errorf("P16.2: %s: %s: %v, not %d", c.template, c.signature, e, c.want)
		}
		if c.want == api.ErrSort {
			told(t, "P16.2", c.template, e, c.want)
		}
	}
}

// TestLongSorts: sorts may be of any length between the ones that are told.
func TestLongSorts(t *testing.T) {
	up, down := strings.Repeat("list.of(", 31), strings.Repeat("list.at(", 31)
	long := strings.Repeat("list ", 60) + "a"
	template := down + up + "$1" + strings.Repeat(")", 31) + strings.Repeat(", 0)", 31)
	told(t, "P16.2", "91 lists", laden(t).Add(plugin("my.x", template, long+" > "+long, "")), api.OK)
	told(t, "P16.2", "91 lists, and less", laden(t).Add(plugin("my.x", template, long+" > list "+long, "")), api.ErrSort)
	s := laden(t, plugin("my.up", "guard.raise(base.text)", "a > "+strings.Repeat("list ", 64)+"a", "Sorted Sugar"), plugin("my.down", "guard.raise(base.text)", strings.Repeat("list ", 64)+"a > a", "Sorted Sugar"))
	template = strings.Repeat("my.down(", 31) + strings.Repeat("my.up(", 31) + "$1" + strings.Repeat(")", 62)
	told(t, "P16.2", "1984 lists", s.Add(plugin("my.x", template, "a > a", "")), api.OK)
	told(t, "P16.2", "1984 lists, and 64", s.Add(plugin("my.y", template, "a > "+strings.Repeat("list ", 64)+"a", "")), api.ErrSort)
}

// TestGreatTemplates: as many nodes as may be, each of which binds or unifies.
func TestGreatTemplates(t *testing.T) {
	names := make([]string, 1022)
	star := api.Tree{Kind: "bind.star", Kids: []api.Tree{leaf("base.unit")}}
	for i := range names {
		names[i] = "v" + strconv.Itoa(i)
		star.Kids = append(star.Kids, parse("list.of()"))
	}
	star.Text = strings.Join(names, " ")
	of := api.Tree{Kind: "list.of"}
	all := api.Tree{Kind: "flow.all"}
	for range 1023 {
		of.Kids = append(of.Kids, parse("list.of()"))
		all.Kids = append(all.Kids, parse("$1"))
	}
	for _, c := range []struct {
		template  api.Tree
		signature string
	}{
		{star, "> list a"}, {of, "> list list a"}, {all, "a > a"},
	} {
		p := plugin("my.x", "unit", c.signature, "")
		p.Template = c.template
		told(t, "P16.2", c.template.Kind, laden(t).Add(p), api.OK)
		p.Signature.Out = sorted("unit")
		told(t, "P16.2", c.template.Kind, laden(t).Add(p), api.ErrSort)
	}
}

// TestSugarOfAKit: whether a kind is a kit's or a plugin's hangs on the shelf: this kit's nodes are another shelf's plugins.
func TestSugarOfAKit(t *testing.T) {
	other := laden(t, plugin("toy.hidden", "list.of($1, $1)", "a > list a", "Sugar"), plugin("toy.idle", "1", "> int", "Pure Sorted"))
	toy, e := kit.New("toy", []api.Row{{Kind: "toy.hidden", Min: 1, Max: 1, Abilities: []string{"Sugar"}}, {Kind: "toy.idle", Abilities: []string{"Pure", "Sorted"}}}, func(x api.Tree, kids ...*node.Handle) *node.Handle {
		h, _ := other.Make(x, kids...)
		return h
	})
	if e != nil {
		t.Fatal(e)
	}
	for _, c := range []struct {
		template, signature string
		want                api.Errno
	}{
		{"toy.hidden($1)", "a > list a", api.OK}, {"toy.hidden($1)", "a > list list a", api.ErrSort}, {"toy.hidden(toy.hidden(5))", "> list list int", api.OK}, {"toy.idle", "> int", api.ErrSort},
	} {
		told(t, "P16.2", c.template, shelf(t, toy).Add(plugin("my.x", c.template, c.signature, "Sugar")), c.want)
		told(t, "P16.2", c.template+" of a plugin", other.Add(plugin("my.y"+strconv.Itoa(len(other.Kinds())), c.template, c.signature, "Sugar")), api.ErrSort)
	}
}

// binding is a Binder without sorts whose kid 0 the name is bound in.
type binding struct{ part.Base }

func (*binding) Binds() (string, int) { return "x", 0 }

// wordy tells sorts that are fewer than its kids.
type wordy struct {
	part.Base
	part.Sorted
}

func (*wordy) Op() string { return "toy.few" }

func TestSortsOfOtherKits(t *testing.T) {
	toy := craft.Kit("toy", []craft.Kind{
		{Name: "toy.first", Min: 1, Max: 2, Has: "Binder", Make: func(b part.Base, _ part.Sorted) api.Node { return &binding{b} }},
		{Name: "toy.few", Max: -1, Has: "Strict Sorted", Signs: "int > list a", Make: func(b part.Base, s part.Sorted) api.Node { return &wordy{b, s} }},
	})
	for _, c := range []struct {
		template, signature string
		want                api.Errno
	}{
		{"toy.first(5, yes)", "> int", api.OK}, {"toy.first($x)", "> int", api.ErrSort}, {"toy.few(1, yes, 3)", "> list text", api.OK}, {"toy.few(yes, yes, 3)", "> list text", api.ErrSort}, {"toy.few()", "> list text", api.OK},
	} {
		told(t, "P16.2", c.template, shelf(t, toy).Add(plugin("my.x", c.template, c.signature, "")), c.want)
	}
}

// term is a sort by another way than the program's: a graph whose variables are written over.
type term struct {
	name string
	of   *term
	is   *term
}

func (x *term) now() *term {
	for x.is != nil {
		x = x.is
	}
	return x
}

func (x *term) has(v *term) bool {
	x = x.now()
	return x == v || x.of != nil && x.of.has(v)
}

func same(a, b *term) bool {
	a, b = a.now(), b.now()
	switch {
	case a == b:
		return true
	case a.name == "" && !b.has(a):
		a.is = b
		return true
	case b.name == "" && !a.has(b):
		b.is = a
		return true
	}
	return a.name != "" && a.name == b.name && (a.of == nil || same(a.of, b.of))
}

func termOf(s api.Sort, letters map[string]*term) *term {
	if len(s.Of) == 1 {
		return &term{name: "list", of: termOf(s.Of[0], letters)}
	}
	if len(s.Name) > 1 {
		return &term{name: s.Name}
	}
	if letters[s.Name] == nil {
		letters[s.Name] = &term{}
	}
	return letters[s.Name]
}

// table is the signatures of some kinds as their chapters have them; `;` ahead of what is bound.
var table = map[string]string{
	"base.unit": "> unit", "base.yes": "> truth", "base.int": "> int", "base.text": "> text", "num.add": "int, int > int", "num.less": "int, int > truth", "num.inc": "int > int", "num.sum": "int .. > int",
	"truth.not": "truth > truth", "truth.same": "a, a > truth", "truth.if": "truth, a, a > a", "words.of": "int > text", "list.of": "a .. > list a", "list.at": "list a, int > a", "list.join": "list a, list a > list a", "list.add": "list a, a > list a",
	"list.map": "list a, b > list b; a", "list.keep": "list a, truth > list a; a", "bind.let": "a, b > b; a", "flow.seq": "a, b > b", "flow.twice": "a > a", "guard.raise": "text > a", "guard.try": "a, a > a", "guard.catch": "a, a > a; text",
	"my.pair": "a, a > list a", "my.map": "list a, b > list b; a",
}

// reckoned sorts a plain tree by another way.
func reckoned(x api.Tree, in map[string]*term) (*term, bool) {
	with := func(name string, sort *term) map[string]*term {
		inner := map[string]*term{name: sort}
		for n, s := range in {
			if n != name {
				inner[n] = s
			}
		}
		return inner
	}
	switch x.Kind {
	case "base.var":
		s, ok := in[x.Text]
		return s, ok
	case "base.frame":
		inner := map[string]*term{}
		last := len(x.Kids) - 1
		for i, kid := range x.Kids[:last] {
			s, ok := reckoned(kid, in)
			if !ok {
				return nil, false
			}
			inner[strconv.Itoa(i+1)] = s
		}
		return reckoned(x.Kids[last], inner)
	case "bind.where", "call.by":
		value, body := x.Kids[0], x.Kids[1]
		if x.Kind == "bind.where" {
			value, body = body, value
		}
		s, ok := reckoned(value, in)
		if !ok {
			return nil, false
		}
		return reckoned(body, with(x.Text, s))
	case "flow.all":
		var s *term
		for _, kid := range x.Kids {
			ok := false
			if s, ok = reckoned(kid, in); !ok {
				return nil, false
			}
		}
		return s, true
	}
	letters := map[string]*term{}
	text, bound, binds := strings.Cut(table[x.Kind], ";")
	rest := strings.Contains(text, "..")
	g := signs(strings.ReplaceAll(text, "..", ""))
	for i, kid := range x.Kids {
		inner := in
		if binds && i == 1 {
			inner = with(x.Text, termOf(sorted(bound), letters))
		}
		s, ok := reckoned(kid, inner)
		if rest {
			i = 0
		}
		if !ok || !same(s, termOf(g.Ins[i], letters)) {
			return nil, false
		}
	}
	return termOf(g.Out, letters), true
}

// grow gives a tree of about so many nodes in which nothing is used that nobody binds.
func grow(r *rand.Rand, size int, names []string) api.Tree {
	kinds := []string{"num.add", "num.less", "num.inc", "num.sum", "truth.not", "truth.same", "truth.if", "words.of", "list.of", "list.of", "list.at", "list.join", "list.add", "list.map", "list.keep", "bind.let", "bind.let", "flow.seq", "flow.twice", "guard.raise", "guard.try", "guard.catch", "my.pair", "my.map", "base.frame", "bind.where", "call.by", "flow.all"}
	if size <= 1 {
		if len(names) > 0 && r.IntN(3) > 0 {
			return api.Tree{Kind: "base.var", Text: names[r.IntN(len(names))]}
		}
		return leaf([]string{"base.unit", "base.yes", "base.int", "base.text", "base.int", "list.of"}[r.IntN(6)])
	}
	x := leaf(kinds[r.IntN(len(kinds))])
	text, _, binds := strings.Cut(table[x.Kind], ";")
	n := strings.Count(text, ",") + 1
	switch x.Kind {
	case "num.sum", "list.of", "flow.all":
		n = 1 + r.IntN(3)
	case "base.frame":
		n = 1 + r.IntN(3)
	case "bind.where", "call.by":
		n = 2
	}
	if binds || x.Kind == "bind.where" || x.Kind == "call.by" {
		x.Text = []string{"x", "y", "z"}[r.IntN(3)]
	}
	for i := range n {
		in := names
		if x.Text != "" && i == 1 && x.Kind != "bind.where" {
			in = append(slices.Clone(names), x.Text)
		}
		if x.Kind == "base.frame" && i == n-1 {
			in = nil
			for j := range i {
				in = append(in, strconv.Itoa(j+1))
			}
		}
		x.Kids = append(x.Kids, grow(r, (size-1)/n+r.IntN(2), in))
	}
	return x
}

// TestSortsByAnotherWay holds what Add says of many trees against another way to sort them.
func TestSortsByAnotherWay(t *testing.T) {
	r := rand.New(rand.NewPCG(16, 7))
	outs := []string{"int", "truth", "text", "unit", "a", "b", "list a", "list int", "list list int", "c"}
	count := map[bool]int{}
	base := []api.Plugin{plugin("my.pair", "list.of($1, $2)", "a, a > list a", "Sorted Sugar"), {Kind: "my.map", Like: "list.map"}}
	s := laden(t, base...)
	for range 40_000 {
		p := api.Plugin{Kind: "my.x", Arity: 2, Template: grow(r, 1+r.IntN(9), []string{"1", "2"})}
		p.Signature = api.Signature{Ins: []api.Sort{sorted(outs[r.IntN(len(outs)-1)]), sorted(outs[r.IntN(len(outs)-1)])}, Out: sorted(outs[r.IntN(len(outs))])}
		letters := map[string]*term{"a": {name: "A"}, "b": {name: "B"}, "c": {name: "C"}}
		got, ok := reckoned(p.Template, map[string]*term{"1": termOf(p.Signature.Ins[0], letters), "2": termOf(p.Signature.Ins[1], letters)})
		ok = ok && same(got, termOf(p.Signature.Out, letters))
		e := s.Add(p)
		if (e == nil) != ok || e != nil && fault.Code(e) != api.ErrSort {
			t.Fatalf("P16.2: %v: %v: %v, and by another way %v", p.Template, p.Signature, e, ok)
		}
		count[ok]++
		if ok {
			s = laden(t, base...)
		}
	}
	if count[true] < 500 {
		t.Errorf("too few that are sorted: %v", count)
	}
}
