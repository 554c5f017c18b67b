package plug_test

import (
	"math"
	"reflect"
	"slices"
	"strconv"
	"strings"
	"testing"

	"espalier/api"
	"espalier/call"
	"espalier/craft"
	"espalier/fault"
	"espalier/kit"
	"espalier/list"
	"espalier/node"
	"espalier/num"
	"espalier/part"
	"espalier/plug"
	"espalier/truth"
)

// refused fails, unless a plugin is refused by that error, and nothing has changed.
func refused(t *testing.T, s *plug.Shelf, what string, p api.Plugin, want api.Errno, path ...int) {
	t.Helper()
	kinds := s.Kinds()
	row, known := s.Row(p.Kind)
	e := s.Add(p)
	if path == nil {
		told(t, "P16.2", what, e, want)
	} else {
		toldAt(t, "P16.2", what, e, want, path...)
	}
	again, still := s.Row(p.Kind)
	if !slices.Equal(s.Kinds(), kinds) || known != still || !reflect.DeepEqual(row, again) {
		t.Errorf("P0.2: %s: refused, and something has changed", what)
	}
}

func TestExamples(t *testing.T) {
	s := shelf(t, truth.Kit(), list.Kit())
	if e := s.Add(neither()); e != nil {
		t.Fatalf("P16.2: my.neither: %v", e)
	}
	refused(t, s, "the same again", neither(), api.ErrTwice)
	other := func(how func(*api.Plugin)) api.Plugin {
		p := neither()
		p.Kind = "my.other"
		how(&p)
		return p
	}
	refused(t, s, "as truth.x", other(func(p *api.Plugin) { p.Kind = "truth.x" }), api.ErrTwice)
	refused(t, s, "with V(3)", other(func(p *api.Plugin) { p.Template.Kids[0].Kids[1].Text = "3" }), api.ErrName, 0, 1)
	refused(t, s, "with Out int", other(func(p *api.Plugin) { p.Signature.Out = sorted("int") }), api.ErrSort)
	refused(t, s, "with Has Total", other(func(p *api.Plugin) { p.Has = []string{"Total"} }), api.ErrArg)
	refused(t, s, "my.at", plugin("my.at", "list.at($1, 0)", "list a > a", "Pure Total"), api.ErrLack, []int{}...)
	refused(t, s, "my.at of list b", plugin("my.at", "list.at($1, 0)", "list b > a", "Pure"), api.ErrSort)
	refused(t, s, "my.none", plugin("my.other", "my.none", "> unit", ""), api.ErrNone, []int{}...)
	if e := s.Add(plugin("my.at", "list.at($1, 0)", "list a > a", "Sorted")); e != nil {
		t.Errorf("P16.2: with Has Sorted alone: %v", e)
	}
	if n := made(t, s, leaf("my.at"), units(1)...); abilities(n) != "Sorted" {
		t.Errorf("P16.3: its node has %s", abilities(n))
	}
	s = shelf(t, num.Kit(), call.Kit())
	refused(t, s, "a template of call.to", plugin("my.call", "call.to:f", "> unit", ""), api.ErrFit, []int{}...)
	for _, c := range []struct {
		p    api.Plugin
		want api.Errno
	}{
		{api.Plugin{Kind: "my.plus", Like: "num.add"}, api.OK}, {api.Plugin{Kind: "my.more", Like: "num.add", Arity: 1}, api.ErrArg}, {api.Plugin{Kind: "my.more", Like: "num.inc"}, api.ErrArg},
		{api.Plugin{Kind: "my.more", Like: "no.kind"}, api.ErrNone}, {api.Plugin{Kind: "my.more", Like: "my.plus"}, api.OK},
	} {
		told(t, "P16.2", c.p.Kind+" like "+c.p.Like, s.Add(c.p), c.want)
	}
	for _, kind := range []string{"my.plus", "my.more"} {
		if n := made(t, s, leaf(kind), units(2)...).(api.Strict); n.Op() != "num.add" || n.Kind() != kind {
			t.Errorf("P16.3: %s does %s", n.Kind(), n.Op())
		}
	}
}

// TestStepsOneByOne mends a plugin with all faults step by step: the first that is left is told.
func TestStepsOneByOne(t *testing.T) {
	s := laden(t, neither())
	p := api.Plugin{Kind: "My.other", Arity: 17, Template: parse("num.sum(num.none(A.b), num.neg, call.to:f, $3)"), Signature: signs("lost > lost"), Has: []string{"Total", "Pure"}}
	p.Signature.Rest, p.Signature.Bound = true, sorted("int")
	path := func(p ...int) []int { return append([]int{}, p...) }
	for _, c := range []struct {
		mend func()
		want api.Errno
		path []int
	}{
		{func() {}, api.ErrName, nil},
		{func() { p.Kind = "truth.other" }, api.ErrTwice, nil}, {func() { p.Kind = "base.other" }, api.ErrTwice, nil}, {func() { p.Kind = "my.neither" }, api.ErrTwice, nil},
		{func() { p.Kind = "my.other" }, api.ErrCount, nil}, {func() { p.Arity = 1 }, api.ErrCount, nil}, {func() { p.Signature.Rest, p.Arity = false, 2 }, api.ErrCount, nil},
		{func() { p.Arity = 1 }, api.ErrSort, nil}, {func() { p.Signature.Ins[0] = sorted("int") }, api.ErrSort, nil}, {func() { p.Signature.Out = sorted("text") }, api.ErrSort, nil},
		{func() { p.Signature.Bound = api.Sort{} }, api.ErrArg, nil}, {func() { p.Has = []string{"Total"} }, api.ErrArg, nil},
		{func() { p.Has = []string{"Pure", "Total"} }, api.ErrName, nil},
		{func() { p.Template.Kids[0].Kids = nil }, api.ErrNone, path(0)},
		{func() { p.Template.Kids[0] = parse("unit") }, api.ErrCount, path(1)},
		{func() { p.Template.Kids[1] = parse("num.neg($1)") }, api.ErrFit, path(2)},
		{func() { p.Template.Kids[2] = parse("num.neg(num.neg(call.by:f(1, $y)))") }, api.ErrName, path(2, 0, 0, 1)},
		{func() { p.Template.Kids[2] = parse("num.neg(num.neg(call.by:f(1, $f)))") }, api.ErrName, path(3)},
		{func() { p.Template.Kids[3] = parse("$1") }, api.ErrSort, nil},
		{func() { p.Template.Kids[0] = parse("1") }, api.ErrSort, nil},
		{func() { p.Signature.Out = sorted("int") }, api.ErrLack, path(2, 0, 0)},
		{func() { p.Template.Kids[2] = parse("1") }, api.ErrLack, path()},
		{func() { p.Has = []string{"Pure", "Sugar"} }, api.OK, nil},
	} {
		c.mend()
		if c.want == api.OK {
			told(t, "P16.2", "all is mended", s.Add(p), api.OK)
		} else {
			refused(t, s, strconv.Itoa(int(c.want)), p, c.want, c.path...)
		}
	}
}

func TestKindsNames(t *testing.T) {
	s := laden(t, neither())
	for kind, want := range map[string]api.Errno{
		"": api.ErrName, "my": api.ErrName, "my.": api.ErrName, ".my": api.ErrName, "my.x.y": api.ErrName, "My.x": api.ErrName, "my.x ": api.ErrName, "my.1": api.ErrName, "a." + strings.Repeat("b", 17): api.ErrName, "base": api.ErrName,
		"base.x": api.ErrTwice, "base.int": api.ErrTwice, "num.x": api.ErrTwice, "num.add": api.ErrTwice, "guard.x": api.ErrTwice, "my.neither": api.ErrTwice,
	} {
		for _, p := range []api.Plugin{{Kind: kind, Like: "no.kind"}, {Kind: kind, Like: "num.add"}, {Kind: kind, Arity: -1}, plugin(kind, "unit", "> unit", "Sugar")} {
			refused(t, s, kind, p, want)
		}
	}
	long := strings.Repeat("z", 16)
	for _, kind := range []string{"my.other", "neither.my", "num1.add", "basex.int", "nu.m", long + "." + long} {
		told(t, "P16.2", kind, s.Add(api.Plugin{Kind: kind, Like: "num.add"}), api.OK)
		told(t, "P16.2", kind+" again", s.Add(api.Plugin{Kind: kind, Like: "num.add"}), api.ErrTwice)
	}
	// What is known to no kit is not taken.
	told(t, "P16.2", "num.add without the kit", shelf(t).Add(plugin("num.add", "unit", "> unit", "")), api.OK)
}

func TestManyPlugins(t *testing.T) {
	s := shelf(t, num.Kit())
	for i := range 64 {
		p := api.Plugin{Kind: "my.k" + strconv.Itoa(i), Like: "num.add"}
		if i%2 == 0 {
			p = plugin(p.Kind, "unit", "> unit", "Sugar")
		}
		told(t, "P16.2", p.Kind, s.Add(p), api.OK)
		told(t, "P16.2", "no name", s.Add(api.Plugin{Kind: "x"}), api.ErrName)
	}
	refused(t, s, "the 65th", plugin("my.more", "unit", "> unit", "Sugar"), api.ErrLong)
	refused(t, s, "the 65th, by likeness", api.Plugin{Kind: "my.more", Like: "no.kind", Arity: 1}, api.ErrLong)
	refused(t, s, "one that is there", api.Plugin{Kind: "my.k5", Like: "num.add"}, api.ErrTwice)
	refused(t, s, "one of a kit", api.Plugin{Kind: "num.x"}, api.ErrTwice)
	refused(t, s, "no name", api.Plugin{Kind: "My.more"}, api.ErrName)
	if n := len(s.Kinds()); n != 7+15+64 {
		t.Errorf("P16.4: %d kinds", n)
	}
}

func TestLikenessRefused(t *testing.T) {
	s := laden(t, neither(), plugin("my.bare", "unit", "> unit", ""), api.Plugin{Kind: "my.not", Like: "truth.not"})
	for _, k := range append(kits(), kit.Base()) {
		for _, r := range k.Rows() {
			want := api.ErrArg
			for _, a := range []string{"Literal", "Strict", "Lazy"} {
				if slices.Contains(r.Abilities, a) {
					want = api.OK
				}
			}
			if slices.Contains(r.Abilities, "Binder") && !slices.Contains(r.Abilities, "Caller") {
				want = api.OK
			}
			told(t, "P16.2", "like "+r.Kind, laden(t).Add(api.Plugin{Kind: "my.x", Like: r.Kind}), want)
		}
	}
	for _, kind := range []string{"no.kind", "my.x", "my.other", "num", "num.", "num.none", "base.none", " num.add", "NUM.ADD", "my.notx", "\x00"} {
		refused(t, s, "like "+kind, api.Plugin{Kind: "my.x", Like: kind}, api.ErrNone)
		refused(t, s, "like "+kind+" and more", api.Plugin{Kind: "my.x", Like: kind, Arity: 5, Has: []string{"Pure"}}, api.ErrNone)
	}
	for _, kind := range []string{"my.neither", "my.bare", "call.by", "call.to", "base.var", "base.frame", "num.sum", "bind.where", "flow.twice"} {
		refused(t, s, "like "+kind, api.Plugin{Kind: "my.x", Like: kind}, api.ErrArg)
	}
	more := map[string]func(*api.Plugin){
		"Arity": func(p *api.Plugin) { p.Arity = 1 }, "Arity below 0": func(p *api.Plugin) { p.Arity = -1 }, "Has": func(p *api.Plugin) { p.Has = []string{"Strict"} }, "Has of nothing": func(p *api.Plugin) { p.Has = []string{""} },
		"a Kind": func(p *api.Plugin) { p.Template.Kind = "x" }, "a Num": func(p *api.Plugin) { p.Template.Num = math.MinInt64 }, "a Text": func(p *api.Plugin) { p.Template.Text = "\x00" }, "Kids": func(p *api.Plugin) { p.Template.Kids = make([]api.Tree, 1) },
		"Ins": func(p *api.Plugin) { p.Signature.Ins = make([]api.Sort, 1) }, "Rest": func(p *api.Plugin) { p.Signature.Rest = true },
		"Out": func(p *api.Plugin) { p.Signature.Out = sorted("int") }, "Out of something": func(p *api.Plugin) { p.Signature.Out.Of = make([]api.Sort, 1) }, "Bound": func(p *api.Plugin) { p.Signature.Bound.Name = "x" }, "Bound of something": func(p *api.Plugin) { p.Signature.Bound.Of = make([]api.Sort, 1) },
	}
	for what, lay := range more {
		p := api.Plugin{Kind: "my.x", Like: "my.not"}
		lay(&p)
		refused(t, s, what, p, api.ErrArg)
	}
	empty := api.Plugin{Kind: "my.x", Like: "my.not", Template: api.Tree{Kids: []api.Tree{}}, Has: []string{}}
	empty.Signature = api.Signature{Ins: []api.Sort{}, Out: api.Sort{Of: []api.Sort{}}, Bound: api.Sort{Of: []api.Sort{}}}
	told(t, "P0.4", "empty lists", s.Add(empty), api.OK)
}

func TestSignatures(t *testing.T) {
	s := laden(t)
	deep := func(n int) api.Sort { return sorted(strings.Repeat("list ", n) + "int") }
	for what, c := range map[string]struct {
		lay  func(*api.Plugin)
		want api.Errno
	}{
		"Arity -1":       {func(p *api.Plugin) { p.Arity = -1 }, api.ErrCount},
		"Arity least":    {func(p *api.Plugin) { p.Arity = math.MinInt }, api.ErrCount},
		"Arity greatest": {func(p *api.Plugin) { p.Arity = math.MaxInt }, api.ErrCount},
		"Arity 17":       {func(p *api.Plugin) { p.Arity, p.Signature.Ins = 17, slices.Repeat([]api.Sort{deep(0)}, 17) }, api.ErrCount},
		"Arity 16":       {func(p *api.Plugin) { p.Arity, p.Signature.Ins = 16, slices.Repeat([]api.Sort{deep(0)}, 16) }, api.OK},
		"too few Ins":    {func(p *api.Plugin) { p.Arity = 2 }, api.ErrCount},
		"too many Ins":   {func(p *api.Plugin) { p.Signature.Ins = make([]api.Sort, 2) }, api.ErrCount},
		"no Ins":         {func(p *api.Plugin) { p.Signature.Ins = nil }, api.ErrCount},
		"Rest":           {func(p *api.Plugin) { p.Signature.Rest = true }, api.ErrCount},
		"nothing in Ins": {func(p *api.Plugin) { p.Signature.Ins[0] = api.Sort{} }, api.ErrSort},
		"lost in Ins":    {func(p *api.Plugin) { p.Signature.Ins[0].Name = "lost" }, api.ErrSort},
		"a capital":      {func(p *api.Plugin) { p.Signature.Ins[0].Name = "A" }, api.ErrSort},
		"list of none":   {func(p *api.Plugin) { p.Signature.Ins[0].Name = "list" }, api.ErrSort},
		"65 lists":       {func(p *api.Plugin) { p.Signature.Ins[0] = deep(65) }, api.ErrSort},
		"64 lists":       {func(p *api.Plugin) { p.Signature.Ins[0] = deep(64) }, api.OK},
		"no Out":         {func(p *api.Plugin) { p.Signature.Out = api.Sort{} }, api.ErrSort},
		"Out of 65":      {func(p *api.Plugin) { p.Signature.Out = deep(65) }, api.ErrSort},
		"int of int":     {func(p *api.Plugin) { p.Signature.Out.Of = make([]api.Sort, 1) }, api.ErrSort},
		"Bound":          {func(p *api.Plugin) { p.Signature.Bound = sorted("int") }, api.ErrSort},
		"Bound lost":     {func(p *api.Plugin) { p.Signature.Bound.Name = "lost" }, api.ErrSort},
		"Bound of":       {func(p *api.Plugin) { p.Signature.Bound.Of = make([]api.Sort, 1) }, api.ErrSort},
		"empty lists":    {func(p *api.Plugin) { p.Signature.Bound.Of, p.Signature.Out.Of = []api.Sort{}, []api.Sort{} }, api.OK},
	} {
		p := plugin("my.five", "5", "int > int", "Sugar")
		c.lay(&p)
		if c.want == api.OK {
			p.Kind = "my.five" + strconv.Itoa(len(s.Kinds()))
			told(t, "P16.2", what, s.Add(p), api.OK)
		} else {
			refused(t, s, what, p, c.want)
			p.Template, p.Has = parse("A.b"), []string{"Sugar", "Pure"}
			refused(t, s, what+", ahead of Has and Template", p, c.want)
		}
	}
}

func TestHas(t *testing.T) {
	names := []string{"Pure", "Total", "Sorted", "Sugar", "Strict", "Literal", "Opaque", "Wrapped", "", "pure", "Pure Total", "Sugar "}
	lists := [][]string{nil, {}}
	for n, from := 0, 0; n < 3; n++ {
		to := len(lists)
		for _, l := range lists[from:to] {
			for _, name := range names {
				lists = append(lists, append(slices.Clone(l), name))
			}
		}
		from = to
	}
	lists = append(lists, []string{"Pure", "Total", "Sorted", "Sugar"}, []string{"Pure", "Total", "Sugar", "Sorted"}, []string{"Pure", "Total", "Sorted", "Sugar", "Sugar"}, slices.Repeat([]string{"Pure"}, 1<<16))
	may := strings.Split("|Pure|Pure Total|Sorted|Pure Sorted|Pure Total Sorted|Sugar|Pure Sugar|Pure Total Sugar|Sorted Sugar|Pure Sorted Sugar|Pure Total Sorted Sugar", "|")
	for _, has := range lists {
		s := shelf(t)
		p := plugin("my.five", "5", "> int", "")
		p.Has = has
		want := api.ErrArg
		if slices.ContainsFunc(may, func(m string) bool { return slices.Equal(strings.Fields(m), has) }) {
			want = api.OK
		}
		told(t, "P16.2", "Has "+strings.Join(has[:min(5, len(has))], "+"), s.Add(p), want)
	}
}

func TestTemplatesNodes(t *testing.T) {
	s := laden(t, neither(), api.Plugin{Kind: "my.not", Like: "truth.not"})
	for _, c := range []struct {
		template string
		want     api.Errno
		path     []int
	}{
		{"my.none", api.ErrNone, []int{}}, {"my.x", api.ErrNone, []int{}}, {"base.none", api.ErrNone, []int{}}, {"truth.not(my.later(yes))", api.ErrNone, []int{0}}, {"truth.not(no.body(A.b))", api.ErrName, nil}, {"A.b", api.ErrName, nil}, {"", api.ErrName, nil},
		{"truth.not(my.not(yes, no.body))", api.ErrCount, []int{0}}, {"truth.and(yes, my.neither(no.body))", api.ErrCount, []int{1}}, {"truth.and(yes(no.body), no.body)", api.ErrCount, []int{0}}, {"truth.and(no.body, yes(no.body))", api.ErrNone, []int{0}},
		{"truth.same(call.to:f, no.body)", api.ErrFit, []int{0}}, {"truth.same(1, call.to:f(no.body))", api.ErrFit, []int{1}}, {"truth.same(no.body, call.to:f)", api.ErrNone, []int{0}}, {"call.to", api.ErrFit, []int{}}, {"call.to:f(call.to:f, 1)", api.ErrFit, []int{}},
		{"truth.same(base.unit:x, 1)", api.ErrFit, []int{0}}, {"truth.same(1, base.var:)", api.ErrFit, []int{1}}, {"bind.star:a(1, 2, 3)", api.ErrFit, []int{}}, {"truth.same(bind.let:x(1, 2), bind.let(1, 2))", api.ErrFit, []int{1}},
		{"truth.same:x(1, 2, 3)", api.ErrCount, []int{}}, {"truth.same(1, call.by:f(1))", api.ErrCount, []int{1}},
	} {
		p := plugin("my.x", c.template, "> truth", "")
		refused(t, s, c.template, p, c.want, c.path...)
		p.Signature.Out, p.Has = sorted("int"), []string{"Pure", "Total"}
		refused(t, s, c.template+", ahead of its sort", p, c.want, c.path...)
	}
	for _, template := range []string{"call.by:f(1, yes)", "my.not(my.neither(yes, no))", "bind.star:(yes)", "truth.same(call.by:f(base.text, $f), base.text:\x00 )"} {
		told(t, "P16.2", template, laden(t, neither(), api.Plugin{Kind: "my.not", Like: "truth.not"}).Add(plugin("my.x", template, "> truth", "")), api.OK)
	}
	great := plugin("my.x", "unit", "> unit", "")
	great.Template.Kids = slices.Repeat([]api.Tree{leaf("no.body")}, 1024)
	refused(t, s, "1025 nodes", great, api.ErrLong)
	great.Template.Kids = great.Template.Kids[1:]
	refused(t, s, "1024 nodes", great, api.ErrCount, []int{}...)
	ring := make([]api.Tree, 1)
	ring[0] = api.Tree{Kind: "num.neg", Kids: ring}
	great.Template = ring[0]
	refused(t, s, "a ring", great, api.ErrLong)
	great.Template = parse(strings.Repeat("num.neg(", 64) + "1" + strings.Repeat(")", 64))
	refused(t, s, "65 deep", great, api.ErrLong)
	great.Template = api.Tree{Kind: "base.text", Text: strings.Repeat("x", 16385)}
	refused(t, s, "many bytes", great, api.ErrLong)
	great.Template, great.Signature.Out = api.Tree{Kind: "base.text", Text: strings.Repeat("x", 16384)}, sorted("text")
	told(t, "P16.2", "as many bytes as may be", s.Add(great), api.OK)
}

func TestFreeUses(t *testing.T) {
	s := laden(t, api.Plugin{Kind: "my.let", Like: "bind.let"}, api.Plugin{Kind: "my.map", Like: "list.map"})
	for _, c := range []struct {
		template string
		path     []int
	}{
		{"$x", []int{}}, {"$3", []int{}}, {"$64", []int{}}, {"list.of($1, $2, $3)", []int{2}}, {"list.of($1, $y, $x)", []int{1}}, {"list.of(list.of($2, $12), $x)", []int{0, 1}},
		{"bind.let:x($x, $x)", []int{0}}, {"bind.let:x(1, $y)", []int{1}}, {"list.of(bind.let:x(1, $x), $x)", []int{1}}, {"bind.let:x(1, bind.let:y($y, $x))", []int{1, 0}}, {"my.let:x($x, $x)", []int{0}},
		{"list.map:x($x, $x)", []int{0}}, {"my.map:x(list.of($x), $x)", []int{0, 0}}, {"list.keep:x(list.of(1), $y)", []int{1}}, {"guard.catch:e($e, $e)", []int{0}}, {"call.by:f($f, $f)", []int{0}},
		{"bind.where:x($x, 1)", []int{0}}, {"bind.where:x(1, $x)", []int{1}}, {"bind.star:x y(1, $x, 3)", []int{1}}, {"bind.star:x(1, $x)", []int{1}}, {"bind.let:z(1, bind.where:x($z, $x))", []int{1, 1}},
		{"base.frame($x)", []int{0}}, {"base.frame(1, $x)", []int{1}}, {"base.frame($3, $1)", []int{0}}, {"bind.let:x(1, base.frame($x))", []int{1, 0}}, {"bind.let:x(1, base.frame($x, $x))", []int{1, 1}}, {"base.frame(1, $1, base.frame($3, $1))", []int{2, 0}},
		{"base.frame(1, 2, 3, list.of($4, $3))", []int{3, 0}}, {"base.frame(1, 2, 3, list.of($3, base.frame($3, $3)))", []int{3, 1, 1}}, {"list.map:x(list.of(1), base.frame(list.of($x), $x))", []int{1, 1}},
	} {
		refused(t, s, c.template, plugin("my.x", c.template, "a, int > unit", ""), api.ErrName, c.path...)
	}
	for _, template := range []string{
		"$1", "$2", "list.of($2, $2)", "bind.let:x(1, $x)", "bind.let:x($2, bind.let:x(list.of($x), $x))", "bind.let:x(1, bind.let:y(2, num.add($x, $y)))", "my.let:x(1, $x)", "my.map:x(list.of(1), $x)", "list.map:x(list.of(1), $x)",
		"guard.catch:e(base.text, $e)", "call.by:f(1, $f)", "bind.let:x(1, bind.where:y($x, $x))", "bind.let:x(1, bind.star:x y($x, $x, $x))", "bind.let:x(1, base.frame($x, $1))", "base.frame(1, 2, 3, $3)",
		"base.frame($2, bind.let:x($1, $x))", "base.frame(bind.let:x(1, $x), $1)", "base.frame(1, 2, 3, base.frame($3, $1))", "list.map:x(list.of(1), base.frame($x, $1))", "unit",
	} {
		ok := false
		for _, out := range []string{"a", "int", "text", "list int", "list list int", "unit"} {
			s := laden(t, api.Plugin{Kind: "my.let", Like: "bind.let"}, api.Plugin{Kind: "my.map", Like: "list.map"})
			e := s.Add(plugin("my.x", template, "a, int > "+out, ""))
			ok = ok || e == nil
			if e != nil && fault.Code(e) != api.ErrSort {
				t.Errorf("P16.2: %s: %v", template, e)
			}
		}
		if !ok {
			t.Errorf("P16.2: %s: there is no sort", template)
		}
	}
	// A number that a frame lets through to nobody is free, and one of the plugin's; sorting finds nothing for it.
	refused(t, s, "a frame of one", plugin("my.x", "base.frame($1)", "a, int > a", ""), api.ErrSort)
	refused(t, s, "a frame of two", plugin("my.x", "base.frame($1, $2)", "a, int > int", ""), api.ErrSort)
}

func TestArities(t *testing.T) {
	for n := range 17 {
		uses := make([]string, n)
		for i := range uses {
			uses[i] = "$" + strconv.Itoa(i+1)
		}
		signature := strings.Join(slices.Repeat([]string{"int"}, n), ", ") + " > list int"
		p := plugin("my.x", "list.of("+strings.Join(uses, ", ")+")", signature, "Pure Sorted Sugar")
		s := laden(t)
		told(t, "P16.2", signature, s.Add(p), api.OK)
		p.Kind, p.Template.Kids = "my.y", append(p.Template.Kids, parse("$"+strconv.Itoa(n+1)))
		refused(t, s, signature+", one use more", p, api.ErrName, n)
		var kids []*node.Handle
		for i := range n {
			kids = append(kids, number(int64(i)))
		}
		x := made(t, s, leaf("my.x"), kids...)
		f, ok := x.(api.Sugar).Spelt().(api.Framed)
		if !ok || f.Frames() != n || f.Kind() != "base.frame" || f.Kid(n).Len() != n || f.Kid(n+1) != nil {
			t.Fatalf("P16.3: of %d: %v", n, f)
		}
		for i := range n {
			if f.Kid(i) != kids[i].Node() || x.Kid(i) != kids[i].Node() || f.Kid(n).Kid(i).Text() != strconv.Itoa(i+1) {
				t.Errorf("P16.3: of %d: the kid %d", n, i)
			}
		}
		if got := x.(api.Sorted).Signs(); len(got.Ins) != n || got.Rest || got.Bound.Name != "" || len(got.Out.Of) != 1 {
			t.Errorf("P16.3: of %d: %v", n, got)
		}
	}
}

func TestLacks(t *testing.T) {
	s := laden(t, neither(), plugin("my.pure", "num.add($1, 1)", "int > int", "Pure Sorted Sugar"), plugin("my.loud", "num.add($1, 1)", "int > int", "Sorted Sugar"),
		api.Plugin{Kind: "my.emit", Like: "flow.emit"}, api.Plugin{Kind: "my.max", Like: "num.max"})
	for _, c := range []struct {
		template, signature string
		pure, total         []int // where it lacks; nil: nowhere
	}{
		{"$1", "int > int", nil, nil}, {"5", "> int", nil, nil}, {"num.max($1, 5)", "int > int", nil, nil}, {"my.max($1, 5)", "int > int", nil, nil}, {"base.frame($1, $1)", "int > int", nil, nil}, {"bind.let:x($1, $x)", "int > int", nil, nil},
		{"num.add($1, 5)", "int > int", nil, []int{}}, {"num.max(num.add($1, 1), num.add($1, 1))", "int > int", nil, []int{0}}, {"num.max($1, num.max(1, num.neg($1)))", "int > int", nil, []int{1, 1}}, {"num.max(1, num.inc($1))", "int > int", nil, []int{1}}, {"num.max(1, my.pure($1))", "int > int", nil, []int{1}},
		{"flow.emit($1)", "a > a", []int{}, []int{}}, {"my.emit($1)", "a > a", []int{}, []int{}}, {"flow.seq(num.neg(1), flow.emit($1))", "a > a", []int{1}, []int{0}}, {"flow.all(flow.twice($1), guard.raise(base.text))", "a > b", []int{1}, []int{1}}, {"truth.not(my.neither($1, truth.same(my.loud(1), 2)))", "truth > truth", []int{0, 1, 0}, []int{0, 1, 0}},
		{"call.by:f($1, $f)", "int > int", []int{}, []int{}}, {"list.map:x(list.of($1), $x)", "int > list int", nil, []int{}}, {"list.keep:x($1, guard.try(no, truth.same($x, flow.emit(1))))", "list int > list int", []int{1, 1, 1}, []int{1, 1, 1}},
		{"num.max(flow.emit($1), flow.emit(1))", "int > int", []int{0}, []int{0}},
	} {
		for _, has := range []string{"", "Sorted Sugar", "Pure", "Pure Sorted", "Pure Sugar", "Pure Total", "Pure Total Sorted Sugar"} {
			what := c.template + " has " + has
			at := c.pure
			if !strings.Contains(has, "Pure") {
				at = nil
			} else if at == nil && strings.Contains(has, "Total") {
				at = c.total
			}
			p := plugin("my.x", c.template, c.signature, has)
			if at == nil {
				told(t, "P16.2", what, laden(t, neither(), plugin("my.pure", "num.add($1, 1)", "int > int", "Pure Sorted Sugar"), plugin("my.loud", "num.add($1, 1)", "int > int", "Sorted Sugar"), api.Plugin{Kind: "my.emit", Like: "flow.emit"}, api.Plugin{Kind: "my.max", Like: "num.max"}).Add(p), api.OK)
			} else {
				refused(t, s, what, p, api.ErrLack, at...)
			}
		}
	}
}

// nosy has a part of each ability beside its own doubts.
type nosy struct {
	part.Base
	part.Sorted
	quiet, sure bool
}

func (n *nosy) Op() string  { return n.Does() }
func (n *nosy) Quiet() bool { return n.quiet }
func (n *nosy) Sure() bool  { return n.sure }

// rude panics, whatever its sorts or its doing are asked.
type rude struct{ part.Base }

func (r *rude) Op() string           { return r.Does() }
func (r *rude) Quiet() bool          { panic("not told") }
func (r *rude) Signs() api.Signature { panic("not told") }

func toys() *kit.Kit {
	nosily := func(quiet, sure bool) func(part.Base, part.Sorted) api.Node {
		return func(b part.Base, s part.Sorted) api.Node { return &nosy{b, s, quiet, sure} }
	}
	const has = "Strict Pure Total Sorted"
	return craft.Kit("toy", []craft.Kind{
		{Name: "toy.loud", Has: has, Signs: " > int", Make: nosily(false, true)},
		{Name: "toy.unsure", Has: has, Signs: " > int", Make: nosily(true, false)},
		{Name: "toy.sure", Has: has, Signs: " > int", Make: nosily(true, true)},
		{Name: "toy.rude", Has: "Strict Pure Sorted", Make: func(b part.Base, _ part.Sorted) api.Node { return &rude{b} }},
		{Name: "toy.other", Has: "Lazy", Make: nosily(true, true)},
		{Name: "toy.panic", Has: has, Make: func(part.Base, part.Sorted) api.Node { panic("not made") }},
	})
}

// TestAsked: not that a node has the ability counts, but what it tells by it.
func TestAsked(t *testing.T) {
	s := shelf(t, toys(), num.Kit())
	lack := func(template, has string, path ...int) {
		t.Helper()
		refused(t, s, template, plugin("my.x", template, "> int", has), api.ErrLack, append([]int{}, path...)...)
	}
	lack("toy.loud", "Pure")
	lack("toy.loud", "Pure Total")
	lack("toy.unsure", "Pure Total")
	lack("num.max(toy.sure, num.max(toy.unsure, toy.loud))", "Pure Total", 1, 1)
	lack("num.max(toy.sure, num.max(toy.unsure, toy.sure))", "Pure Total", 1, 0)
	told(t, "P16.2", "toy.loud", s.Add(plugin("my.a", "toy.loud", "> int", "Sugar")), api.OK)
	told(t, "P16.2", "toy.unsure", s.Add(plugin("my.b", "toy.unsure", "> int", "Pure Sugar")), api.OK)
	told(t, "P16.2", "toy.sure", s.Add(plugin("my.c", "toy.sure", "> int", "Pure Total Sugar")), api.OK)
	// By likeness each tells what the one that it is like tells.
	for _, kind := range []string{"toy.loud", "toy.unsure", "toy.sure"} {
		if e := s.Add(api.Plugin{Kind: "my." + kind[4:], Like: kind}); e != nil {
			t.Fatal(e)
		}
		x, ok := made(t, s, leaf("my."+kind[4:])).(api.Total)
		if !ok || x.Quiet() != (kind != "toy.loud") || x.Sure() != (kind != "toy.unsure") {
			t.Errorf("P16.3: like %s", kind)
		}
	}
}

// TestBrokenKits: kits that do not hold to what they say are an error, and no panic.
func TestBrokenKits(t *testing.T) {
	s := shelf(t, toys())
	for _, kind := range []string{"toy.rude", "toy.other", "toy.panic"} {
		p := plugin("my.x", kind, "> int", "Pure")
		kinds := s.Kinds()
		if e := s.Add(p); e == nil || !slices.Equal(s.Kinds(), kinds) {
			t.Errorf("P0.1: a template of %s: %v", kind, e)
		}
		if _, e := s.Tree(leaf(kind)); e == nil && kind != "toy.rude" {
			t.Errorf("P0.1: a tree of %s: %v", kind, e)
		}
	}
	if e := s.Add(api.Plugin{Kind: "my.panic", Like: "toy.panic"}); e != nil {
		t.Fatal(e)
	}
	if h, e := s.Make(leaf("my.panic")); h != nil || fault.Code(e) != api.ErrArg {
		t.Errorf("P0.1: like toy.panic: %v", e)
	}
}
