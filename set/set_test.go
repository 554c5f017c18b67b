// The tests of P17.1 to P17.8, through the package's face.
package set_test

import (
	"errors"
	"fmt"
	"reflect"
	"slices"
	"strconv"
	"strings"
	"testing"

	"espalier/api"
	"espalier/fault"
	"espalier/kit"
	"espalier/set"
)

func of(kind string, kids ...api.Tree) api.Tree { return api.Tree{Kind: kind, Kids: kids} }

func with(kind, text string, kids ...api.Tree) api.Tree {
	return api.Tree{Kind: kind, Text: text, Kids: kids}
}

func number(n int64) api.Tree { return api.Tree{Kind: "base.int", Num: n} }

func use(name string) api.Tree { return with("base.var", name) }

// sorted reads a sort, `list int`.
func sorted(text string) api.Sort {
	words := strings.Fields(text)
	s := api.Sort{Name: words[len(words)-1]}
	for range len(words) - 1 {
		s = api.Sort{Name: "list", Of: []api.Sort{s}}
	}
	return s
}

// plugin is one with a template; ins are its sorts, with commas between them.
func plugin(kind string, template api.Tree, ins, out, has string) api.Plugin {
	p := api.Plugin{Kind: kind, Template: template, Has: strings.Fields(has)}
	p.Signature.Out = sorted(out)
	for in := range strings.SplitSeq(ins, ",") {
		if in != "" {
			p.Signature.Ins = append(p.Signature.Ins, sorted(in))
		}
	}
	p.Arity = len(p.Signature.Ins)
	return p
}

// two is the kid, added to itself.
func two() api.Plugin {
	return plugin("my.two", of("num.add", use("1"), use("1")), "int", "int", "Pure Sorted Sugar")
}

// at is an item of a list.
func at() api.Plugin {
	return plugin("my.at", of("list.at", use("1"), use("2")), "list a,int", "a", "Pure Sorted Sugar")
}

func like(kind, other string) api.Plugin { return api.Plugin{Kind: kind, Like: other} }

func made(t *testing.T, kits string, ps ...api.Plugin) *set.Set {
	t.Helper()
	s, e := set.New(strings.Fields(kits), ps...)
	if e != nil || s == nil {
		t.Fatalf("P17.2: %s: %v", kits, e)
	}
	return s
}

const allKits = "num truth words list bind call flow guard"

// told fails, unless an error is that number and tells nothing else, and a set is there just without one.
func told(t *testing.T, promise, what string, s *set.Set, e error, want api.Errno) {
	t.Helper()
	var l api.Located
	if want == api.OK && e != nil || want != api.OK && (e == nil || fault.Code(e) != want || errors.As(e, &l)) {
		t.Errorf("%s: %s: %v, not error %d alone", promise, what, e, want)
	}
	if (s == nil) != (e != nil) {
		t.Errorf("P0.2: %s: a set beside %v", what, e)
	}
}

// toldAt fails, unless an error is that number at that path of a template.
func toldAt(t *testing.T, promise, what string, s *set.Set, e error, want api.Errno, path ...int) {
	t.Helper()
	if s != nil || !fault.Same(e, fault.At(want, api.Place{Path: path})) {
		t.Errorf("%s: %s: %v, not error %d at %v", promise, what, e, want, path)
	}
}

// look is all that a set tells of itself.
func look(s *set.Set) string {
	out := fmt.Sprint(s.Kits(), s.Kinds(), s.Plugins())
	for _, kind := range s.Kinds() {
		row, ok := s.Row(kind)
		out += fmt.Sprint(row, ok)
		for _, a := range abilities() {
			out += fmt.Sprint(s.Can(kind, a))
		}
	}
	return out
}

func abilities() []string {
	return []string{"Literal", "Strict", "Lazy", "Binder", "User", "Caller", "Pure", "Total", "Sorted", "Sugar", "Framed", "Wrapped", "Origin", "Opaque"}
}

func TestNames(t *testing.T) {
	names := set.Names()
	if !slices.Equal(names, strings.Fields(allKits)) {
		t.Fatalf("P17.1: %v", names)
	}
	names[0] = "spoilt"
	_ = append(names[:1], "spoilt")
	if !slices.Equal(set.Names(), strings.Fields(allKits)) {
		t.Errorf("P17.8: lists of names share memory")
	}
}

func TestNew(t *testing.T) {
	for _, c := range []struct {
		kits string
		want api.Errno
	}{
		{"", api.OK}, {"num", api.OK}, {"flow num", api.OK}, {allKits, api.OK}, {"guard flow call bind list words truth num", api.OK},
		{"geo", api.ErrNone}, {"base", api.ErrNone}, {"num base", api.ErrNone}, {"Num", api.ErrNone}, {"nu", api.ErrNone}, {"num.add", api.ErrNone}, {"plug", api.ErrNone},
		{"num num", api.ErrTwice}, {"num truth num", api.ErrTwice}, {allKits + " guard", api.ErrTwice}, {allKits + " geo", api.ErrNone},
		{"num num geo", api.ErrTwice}, {"geo num num", api.ErrNone}, {"num geo num", api.ErrNone}, {"geo geo", api.ErrNone}, {"base base", api.ErrNone},
	} {
		s, e := set.New(strings.Fields(c.kits))
		told(t, "P17.2", c.kits, s, e, c.want)
		// Kits are gone over ahead of plugins.
		if c.want != api.OK {
			s, e = set.New(strings.Fields(c.kits), api.Plugin{}, like("my.x", "no.kind"))
			told(t, "P17.2", c.kits+" with plugins", s, e, c.want)
		}
	}
	for _, kits := range [][]string{{""}, {"num", ""}, {" num"}, {"num truth"}, {"num\x00"}} {
		s, e := set.New(kits)
		told(t, "P17.2", strings.Join(kits, ","), s, e, api.ErrNone)
	}
	s, e := set.New(slices.Repeat([]string{"num"}, 1<<20))
	told(t, "P17.2", "very many", s, e, api.ErrTwice)
	for _, kits := range [][]string{nil, {}} {
		s, e := set.New(kits, []api.Plugin{}...)
		told(t, "P0.4", "empty lists", s, e, api.OK)
	}
}

func TestNewWithPlugins(t *testing.T) {
	refused := func(what, kits string, want api.Errno, ps ...api.Plugin) {
		t.Helper()
		s, e := set.New(strings.Fields(kits), ps...)
		told(t, "P17.2", what, s, e, want)
	}
	refusedAt := func(what, kits string, want api.Errno, path []int, ps ...api.Plugin) {
		t.Helper()
		s, e := set.New(strings.Fields(kits), ps...)
		toldAt(t, "P17.2", what, s, e, want, path...)
	}
	refusedAt("a plugin over num.add", "", api.ErrNone, nil, two())
	refusedAt("a plugin over num.add", "truth words list bind call flow guard", api.ErrNone, nil, two())
	refused("a plugin over num.add", "num", api.OK, two())
	refused("no kind's name", "num", api.ErrName, two(), like("my", "num.add"))
	refused("of a kit of the set", "num", api.ErrTwice, like("num.x", "num.add"))
	refused("of the kit base", "num", api.ErrTwice, like("base.x", "num.add"))
	refused("of a kit that is not in the set", "num", api.OK, like("words.x", "num.add"))
	refused("twice", "num", api.ErrTwice, two(), like("my.x", "num.add"), two())
	refused("like a kind of a kit that is not in the set", "num", api.ErrNone, like("my.x", "words.of"))
	refused("like one that comes later", "num", api.ErrNone, like("my.x", "my.y"), like("my.y", "num.add"))
	refused("like one ahead", "num", api.OK, like("my.y", "num.add"), like("my.x", "my.y"))
	refused("like what nothing may be like", "num", api.ErrArg, like("my.x", "num.inc"))
	refusedAt("over one that comes later", "num", api.ErrNone, []int{1}, plugin("my.x", of("num.add", number(1), of("my.y", number(1), number(2))), "", "int", ""), like("my.y", "num.add"))
	refused("over one ahead", "num", api.OK, like("my.y", "num.add"), plugin("my.x", of("num.add", number(1), of("my.y", number(1), number(2))), "", "int", ""))
	refusedAt("what does not fit", "num", api.ErrCount, []int{0}, plugin("my.x", of("num.neg", of("num.neg")), "", "int", ""))
	refusedAt("a free use", "num", api.ErrName, []int{0}, plugin("my.x", of("num.neg", use("2")), "int", "int", ""))
	refused("other sorts", "num", api.ErrSort, plugin("my.x", of("num.neg", use("1")), "int", "text", ""))
	refusedAt("not total", "num", api.ErrLack, nil, plugin("my.x", of("num.neg", use("1")), "int", "int", "Pure Total"))
	refused("the first one's", "num", api.ErrArg, like("my.x", "num.inc"), like("my", "num.add"))
	refused("the first one's", "num", api.ErrName, like("my", "num.add"), like("my.x", "num.inc"))

	var many []api.Plugin
	for i := range 64 {
		many = append(many, like("my.k"+strconv.Itoa(i), "num.add"))
	}
	refused("64", "num", api.OK, many...)
	refused("65", "num", api.ErrLong, append(many, two())...)
	refused("65, of which one is twice", "num", api.ErrTwice, append(many, many[7])...)
	// The order of kits says nothing.
	for _, kits := range []string{"num list", "list num"} {
		refused(kits, kits, api.OK, two(), at())
	}
}

// rows are those of the kits, by the kits themselves.
func rows(names []string) []api.Row {
	all := kit.Base().Rows()
	for _, name := range names {
		all = append(all, kits()[name].kit().Rows()...)
	}
	return all
}

// TestKitsAndKinds goes over all choices of kits, each from the last one to the first.
func TestKitsAndKinds(t *testing.T) {
	for choice := range 256 {
		var names []string
		for i, name := range set.Names() {
			if choice>>i&1 == 1 {
				names = append(names, name)
			}
		}
		reverse := slices.Clone(names)
		slices.Reverse(reverse)
		s, e := set.New(reverse)
		if e != nil {
			t.Fatal(reverse, e)
		}
		if got := s.Kits(); !slices.Equal(got, names) {
			t.Errorf("P17.3: %v, not %v", got, names)
		}
		var kinds []string
		for _, r := range rows(names) {
			kinds = append(kinds, r.Kind)
			if got, ok := s.Row(r.Kind); !ok || !reflect.DeepEqual(got, r) {
				t.Errorf("P17.3: %v, not %v", got, r)
			}
			for _, a := range abilities() {
				if s.Can(r.Kind, a) != slices.Contains(r.Abilities, a) {
					t.Errorf("P17.3: Can(%s, %s)", r.Kind, a)
				}
			}
		}
		if got := s.Kinds(); !slices.Equal(got, kinds) {
			t.Errorf("P17.3: %v, not %v", got, kinds)
		}
		for _, r := range rows(set.Names()) {
			if !slices.Contains(kinds, r.Kind) {
				unknown(t, s, r.Kind)
			}
		}
		for _, kind := range []string{"", "num", "num.", ".add", "num.none", "base.none", "geo.far", "num.add ", "NUM.ADD", "my.two", "base"} {
			unknown(t, s, kind)
		}
		if len(s.Plugins()) != 0 {
			t.Errorf("P17.3: plugins of a set without any")
		}
	}
}

// unknown fails, if a set tells something of a kind.
func unknown(t *testing.T, s *set.Set, kind string) {
	t.Helper()
	if r, ok := s.Row(kind); ok || !reflect.DeepEqual(r, api.Row{}) {
		t.Errorf("P17.3: %q: %v, %v", kind, r, ok)
	}
	for _, a := range abilities() {
		if s.Can(kind, a) {
			t.Errorf("P17.3: Can(%q, %s)", kind, a)
		}
	}
}

func TestCan(t *testing.T) {
	s := made(t, "num list", two(), at(), like("my.map", "list.map"), plugin("my.bare", number(5), "", "int", ""), plugin("my.sure", number(5), "", "int", "Pure Total"))
	for kind, want := range map[string]string{
		"my.two": "Pure Sorted Sugar", "my.at": "Pure Sorted Sugar", "my.map": "Lazy Binder Pure Sorted", "my.bare": "", "my.sure": "Pure Total",
		"num.add": "Strict Pure Sorted", "num.min": "Strict Pure Total Sorted", "num.sum": "Pure Sorted Sugar", "list.keep": "Lazy Binder Pure Total Sorted", "base.var": "User Pure", "base.frame": "Pure Total Framed", "base.int": "Literal Pure Total Sorted",
		"geo.far": "", "bind.let": "", "call.by": "", "my.none": "",
	} {
		for _, a := range abilities() {
			if got := s.Can(kind, a); got != slices.Contains(strings.Fields(want), a) {
				t.Errorf("P17.3: Can(%s, %s) is %v", kind, a, got)
			}
		}
		for _, a := range []string{"", "strict", "pure", "Pure ", "Pure Sorted", "Node", "Worth", "*"} {
			if s.Can(kind, a) {
				t.Errorf("P17.3: Can(%s, %q)", kind, a)
			}
		}
	}
	if s := made(t, allKits); !s.Can("call.by", "Binder") || !s.Can("call.by", "Caller") || !s.Can("bind.star", "Sugar") || !s.Can("guard.catch", "Lazy") || s.Can("call.to", "Pure") {
		t.Errorf("P17.3: what nodes of all kits can do")
	}
}

func TestPlugins(t *testing.T) {
	ps := []api.Plugin{at(), two(), like("a.plus", "num.add"), like("my.more", "a.plus"), plugin("words.five", number(5), "", "int", "")}
	s := made(t, "num list", ps...)
	if got := s.Plugins(); fmt.Sprint(got) != fmt.Sprint(ps) {
		t.Errorf("P17.3: %v, not %v", got, ps)
	}
	kinds := s.Kinds()
	if got := kinds[len(kinds)-5:]; !slices.Equal(got, []string{"my.at", "my.two", "a.plus", "my.more", "words.five"}) || len(kinds) != 7+15+10+5 {
		t.Errorf("P17.3: %v", kinds)
	}
	for _, r := range []api.Row{
		{Kind: "my.at", Min: 2, Max: 2, Abilities: []string{"Pure", "Sorted", "Sugar"}}, {Kind: "my.two", Min: 1, Max: 1, Abilities: []string{"Pure", "Sorted", "Sugar"}},
		{Kind: "a.plus", Min: 2, Max: 2, Abilities: []string{"Strict", "Pure", "Sorted"}}, {Kind: "my.more", Min: 2, Max: 2, Abilities: []string{"Strict", "Pure", "Sorted"}}, {Kind: "words.five"},
	} {
		if got, ok := s.Row(r.Kind); !ok || fmt.Sprint(got) != fmt.Sprint(r) {
			t.Errorf("P17.3: %v, not %v", got, r)
		}
	}
}
