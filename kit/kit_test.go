// The tests of P7.1 to P7.7, through the package's face alone.
package kit_test

import (
	"errors"
	"fmt"
	"math"
	"reflect"
	"slices"
	"strings"
	"sync"
	"testing"

	"espalier/api"
	"espalier/fault"
	"espalier/kit"
	"espalier/node"
)

// named are the abilities that a row may name, all are those of doc/00: both in its order.
func named() []string {
	return strings.Fields("Literal Strict Lazy Binder User Caller Pure Total Sorted Sugar Framed")
}

func all() []string { return append(named(), "Wrapped", "Origin", "Opaque") }

// some gives the abilities whose bits are set, and whether a row may name them.
func some(bits int) ([]string, bool) {
	var list []string
	for i, a := range named() {
		if bits>>i&1 == 1 {
			list = append(list, a)
		}
	}
	return list, slices.Contains(list, "Pure") || !slices.Contains(list, "Total")
}

// subsets is how many lists there are that are some of the abilities.
const subsets = 1 << 11

func values() []string { return strings.Fields("Literal Pure Total Sorted") }

// told fails, unless an error is that number and nothing else; of OK: unless there is none.
func told(t *testing.T, promise, what string, e error, want api.Errno) {
	t.Helper()
	if want == api.OK {
		if e != nil {
			t.Errorf("%s: %s: %v", promise, what, e)
		}
		return
	}
	var l api.Located
	if c, ok := e.(api.Coded); !ok || c.Code() != want || errors.As(e, &l) {
		t.Errorf("%s: %s: %v, not error %d alone", promise, what, e, want)
	}
}

// made is a maker of the kit base's nodes.
func made(t api.Tree, kids ...*node.Handle) *node.Handle {
	h, _ := node.Make(t, kids...)
	return h
}

func leaf(kind string) api.Tree { return api.Tree{Kind: kind} }

func unit() *node.Handle { return made(leaf("base.unit")) }

func number(n int64) *node.Handle { return made(api.Tree{Kind: "base.int", Num: n}) }

func covered(h *node.Handle) *node.Handle {
	c, _ := node.Cover(h)
	return c
}

func wrapped(h *node.Handle) *node.Handle {
	w, _ := node.Wrap(h, api.Place{Fun: "f", Path: []int{1}})
	return w
}

// kits gives a kit that may be, with the name of its first row's kit.
func kits(t *testing.T, m kit.Maker, rows ...api.Row) *kit.Kit {
	t.Helper()
	name, _, _ := strings.Cut(rows[0].Kind, ".")
	k, e := kit.New(name, rows, m)
	if e != nil || k == nil {
		t.Fatalf("P7.3: %v: %v", rows, e)
	}
	return k
}

func TestMay(t *testing.T) {
	for _, c := range []struct {
		row  api.Row
		want api.Errno
	}{
		{api.Row{Kind: "a.b", Min: 1, Max: 0}, api.ErrCount},
		{api.Row{Kind: "a.b", Abilities: []string{"Total", "Sorted"}}, api.ErrArg},
		{api.Row{Kind: "a.b", Abilities: []string{"Sorted", "Pure"}}, api.ErrArg},
		{api.Row{Kind: "a.b", Max: -1, Text: api.TextNames}, api.ErrArg},
		{api.Row{}, api.ErrName}, {api.Row{Kind: "a"}, api.ErrName}, {api.Row{Kind: "a."}, api.ErrName}, {api.Row{Kind: ".b"}, api.ErrName},
		{api.Row{Kind: "a.b.c"}, api.ErrName}, {api.Row{Kind: "A.b"}, api.ErrName}, {api.Row{Kind: "a.1b"}, api.ErrName}, {api.Row{Kind: "a.b "}, api.ErrName},
		{api.Row{Kind: "a." + strings.Repeat("b", 17)}, api.ErrName}, {api.Row{Kind: strings.Repeat("a", 1<<20)}, api.ErrName}, {api.Row{Kind: "a.\xff"}, api.ErrName},
		{api.Row{Kind: strings.Repeat("a", 16) + "." + strings.Repeat("9b", 8)}, api.ErrName},
		{api.Row{Kind: strings.Repeat("a", 16) + "." + strings.Repeat("b9", 8)}, api.OK}, {api.Row{Kind: "a.b"}, api.OK},
		{api.Row{Kind: "a.b", Min: -1, Max: -1}, api.ErrCount}, {api.Row{Kind: "a.b", Min: -1}, api.ErrCount}, {api.Row{Kind: "a.b", Min: math.MinInt, Max: 5}, api.ErrCount},
		{api.Row{Kind: "a.b", Max: -2}, api.ErrCount}, {api.Row{Kind: "a.b", Max: math.MinInt}, api.ErrCount}, {api.Row{Kind: "a.b", Max: 1023}, api.OK},
		{api.Row{Kind: "a.b", Max: 1024}, api.ErrCount}, {api.Row{Kind: "a.b", Max: math.MaxInt}, api.ErrCount},
		{api.Row{Kind: "a.b", Min: 1023, Max: 1023}, api.OK}, {api.Row{Kind: "a.b", Min: 1023, Max: 1022}, api.ErrCount}, {api.Row{Kind: "a.b", Min: 1024, Max: 1024}, api.ErrCount},
		{api.Row{Kind: "a.b", Min: 1024, Max: -1}, api.OK}, {api.Row{Kind: "a.b", Min: math.MaxInt, Max: -1}, api.OK}, {api.Row{Kind: "a.b", Max: -1}, api.OK},
		{api.Row{Kind: "a.b", Text: -1}, api.ErrArg}, {api.Row{Kind: "a.b", Text: 5}, api.ErrArg}, {api.Row{Kind: "a.b", Text: math.MinInt}, api.ErrArg}, {api.Row{Kind: "a.b", Text: math.MaxInt}, api.ErrArg},
		{api.Row{Kind: "a.b", Text: api.TextAny}, api.OK}, {api.Row{Kind: "a.b", Text: api.TextName}, api.OK}, {api.Row{Kind: "a.b", Text: api.TextUse}, api.OK},
		{api.Row{Kind: "a.b", Max: 1, Text: api.TextNames}, api.ErrArg}, {api.Row{Kind: "a.b", Min: 1, Max: 1, Text: api.TextNames}, api.OK}, {api.Row{Kind: "a.b", Min: 1, Max: -1, Text: api.TextNames}, api.OK},
		{api.Row{Kind: "a.b", Num: true, Abilities: []string{}}, api.OK},
	} {
		told(t, "P7.1", fmt.Sprintf("%.60q", fmt.Sprint(c.row)), kit.May(c.row), c.want)
	}
}

func TestMayOfAbilities(t *testing.T) {
	may := func(list ...string) error { return kit.May(api.Row{Kind: "a.b", Abilities: list}) }
	for bits := range subsets {
		list, ok := some(bits)
		want := api.OK
		if !ok {
			want = api.ErrArg
		}
		told(t, "P7.1", fmt.Sprint(list), may(list...), want)
	}
	for i, a := range named() {
		told(t, "P7.1", a+" twice", may(a, a), api.ErrArg)
		for _, b := range named()[:i] {
			told(t, "P7.1", a+" ahead of "+b, may(a, b), api.ErrArg)
			told(t, "P7.1", a+" ahead of "+b, may("Literal", a, b), api.ErrArg)
		}
	}
	for _, no := range append(all()[11:], "", "literal", "Literal ", "Litera", "Literals", "Node", "worth", "Pure Total", "Pure\x00", strings.Repeat("Pure", 1<<18)) {
		for _, list := range [][]string{{no}, {"Literal", no}, {no, "Framed"}, {"Pure", "Total", no}, append(named(), no)} {
			told(t, "P7.1", fmt.Sprintf("%.20q among abilities", no), may(list...), api.ErrArg)
		}
	}
	told(t, "P7.1", "a long list", may(slices.Repeat([]string{"Pure"}, 1<<20)...), api.ErrArg)
}

// The rows and trees below have each amiss thing or not: the answer is the first one.

func TestOrderOfMay(t *testing.T) {
	for bits := range 16 {
		r, want := api.Row{Kind: "a.b", Min: 1, Max: 2, Text: api.TextName, Abilities: []string{"Pure"}}, api.OK
		if bits&1 != 0 {
			r.Abilities, want = []string{"Total"}, api.ErrArg
		}
		if bits&2 != 0 {
			r.Text, want = 5, api.ErrArg
		}
		if bits&4 != 0 {
			r.Max, want = 0, api.ErrCount
		}
		if bits&8 != 0 {
			r.Kind, want = "a", api.ErrName
		}
		told(t, "P7.1", fmt.Sprint(r), kit.May(r), want)
		told(t, "P7.2", fmt.Sprint(r), kit.Fits(r, api.Tree{Kind: r.Kind, Text: "x", Kids: make([]api.Tree, 1)}), want)
		_, e := kit.New("a", []api.Row{r}, made)
		told(t, "P7.3", fmt.Sprint(r), e, want)
	}
}

func TestOrderOfFits(t *testing.T) {
	for bits := range 64 {
		r := api.Row{Kind: "a.b", Min: 1, Max: 2, Text: api.TextName}
		x, want := api.Tree{Kind: "a.b", Text: "x", Kids: make([]api.Tree, 1)}, api.OK
		if bits&1 != 0 {
			x.Text, want = "1x", api.ErrFit
		}
		if bits&2 != 0 {
			x.Num, want = -1, api.ErrFit
		}
		if bits&4 != 0 {
			x.Text, want = strings.Repeat("x", 16385), api.ErrLong
		}
		if bits&8 != 0 {
			x.Kids, want = nil, api.ErrCount
		}
		if bits&16 != 0 {
			x.Kind, want = "a.c", api.ErrName
		}
		if bits&32 != 0 {
			r.Text, want = -1, api.ErrArg
		}
		told(t, "P7.2", fmt.Sprintf("faults %06b", bits), kit.Fits(r, x), want)
	}
}

func TestFits(t *testing.T) {
	r := api.Row{Kind: "a.b", Min: 1, Max: 2, Text: api.TextName}
	kids := make([]api.Tree, 3)
	for _, c := range []struct {
		tree api.Tree
		want api.Errno
	}{
		{api.Tree{Kind: "a.b", Text: "x1", Kids: kids[:1]}, api.OK}, {api.Tree{Kind: "a.b", Text: "x1", Kids: kids[:2]}, api.OK},
		{api.Tree{Kind: "a.b", Text: "1x", Kids: kids[:1]}, api.ErrFit}, {api.Tree{Kind: "a.b", Kids: kids[:1]}, api.ErrFit},
		{api.Tree{Kind: "a.b", Text: "x1", Kids: kids}, api.ErrCount}, {api.Tree{Kind: "a.b", Text: "x1"}, api.ErrCount},
		{api.Tree{Kind: "a.b", Text: "x1", Num: 5, Kids: kids[:1]}, api.ErrFit}, {api.Tree{Kind: "a.b", Text: "x1", Num: math.MinInt64, Kids: kids[:1]}, api.ErrFit},
		{api.Tree{Text: "x1", Kids: kids[:1]}, api.ErrName}, {api.Tree{Kind: "a.bb", Text: "x1", Kids: kids[:1]}, api.ErrName}, {api.Tree{Kind: "A.b", Text: "x1", Kids: kids[:1]}, api.ErrName},
	} {
		told(t, "P7.2", fmt.Sprint(c.tree), kit.Fits(r, c.tree), c.want)
	}
	told(t, "P7.2", "the zero row, the zero tree", kit.Fits(api.Row{}, api.Tree{}), api.ErrName)
	for _, n := range []int64{0, 1, -1, math.MaxInt64, math.MinInt64} {
		told(t, "P7.2", "a Num", kit.Fits(api.Row{Kind: "a.b", Num: true}, api.Tree{Kind: "a.b", Num: n}), api.OK)
	}
}

func TestFitsCountsKids(t *testing.T) {
	kids := make([]api.Tree, 1<<20)
	for _, c := range []struct {
		min, max, kids int
		want           api.Errno
	}{
		{0, 0, 0, api.OK}, {0, 0, 1, api.ErrCount}, {1, 1, 0, api.ErrCount}, {3, 5, 2, api.ErrCount}, {3, 5, 3, api.OK}, {3, 5, 5, api.OK}, {3, 5, 6, api.ErrCount},
		{0, 1023, 1023, api.OK}, {0, 1023, 1024, api.ErrCount}, {0, -1, 0, api.OK}, {0, -1, 1024, api.OK}, {0, -1, 1 << 20, api.OK}, {2, -1, 1, api.ErrCount}, {2, -1, 2, api.OK},
		{math.MaxInt, -1, 1 << 20, api.ErrCount}, {1 << 20, -1, 1 << 20, api.OK}, {1<<20 + 1, -1, 1 << 20, api.ErrCount},
	} {
		what := fmt.Sprintf("%d kids of %d to %d", c.kids, c.min, c.max)
		told(t, "P7.2", what, kit.Fits(api.Row{Kind: "a.b", Min: c.min, Max: c.max}, api.Tree{Kind: "a.b", Kids: kids[:c.kids]}), c.want)
	}
	ring := []api.Tree{{Kind: "no kind"}}
	ring[0].Kids = ring
	told(t, "P7.2", "a ring below", kit.Fits(api.Row{Kind: "a.b", Max: 1}, api.Tree{Kind: "a.b", Kids: ring}), api.OK)
}

// words gives n names with a blank between each two.
func words(n int) string { return strings.Join(slices.Repeat([]string{"x1"}, n), " ") }

func TestFitsOfText(t *testing.T) {
	for _, c := range []struct {
		text, kids int
		is         string
		want       api.Errno
	}{
		{api.TextNone, 0, "", api.OK}, {api.TextNone, 0, " ", api.ErrFit}, {api.TextNone, 2, "x", api.ErrFit}, {api.TextNone, 0, "\x00", api.ErrFit},
		{api.TextNone, 0, strings.Repeat("x", 16384), api.ErrFit}, {api.TextNone, 0, strings.Repeat("x", 16385), api.ErrLong},
		{api.TextAny, 0, "", api.OK}, {api.TextAny, 1, "\x00\xff \n", api.OK}, {api.TextAny, 0, strings.Repeat("\xff", 16384), api.OK}, {api.TextAny, 0, strings.Repeat("\xff", 16385), api.ErrLong}, {api.TextAny, 0, strings.Repeat("é", 8193), api.ErrLong},
		{api.TextName, 0, "x", api.OK}, {api.TextName, 3, "_A9", api.OK}, {api.TextName, 0, "", api.ErrFit}, {api.TextName, 0, "x y", api.ErrFit}, {api.TextName, 0, "5", api.ErrFit}, {api.TextName, 0, strings.Repeat("x", 32), api.OK}, {api.TextName, 0, strings.Repeat("x", 33), api.ErrFit}, {api.TextName, 0, strings.Repeat("x", 16385), api.ErrLong},
		{api.TextNames, 1, "", api.OK}, {api.TextNames, 1, "x", api.ErrFit}, {api.TextNames, 1, " ", api.ErrFit}, {api.TextNames, 2, "x", api.OK}, {api.TextNames, 2, "", api.ErrFit}, {api.TextNames, 2, "x y", api.ErrFit}, {api.TextNames, 2, "1", api.ErrFit},
		{api.TextNames, 3, "x y", api.OK}, {api.TextNames, 3, "x x", api.OK}, {api.TextNames, 3, "x  y", api.ErrFit}, {api.TextNames, 3, " x y", api.ErrFit}, {api.TextNames, 3, "x y ", api.ErrFit}, {api.TextNames, 3, "x\ty", api.ErrFit}, {api.TextNames, 3, "x", api.ErrFit}, {api.TextNames, 3, "x y z", api.ErrFit}, {api.TextNames, 4, "x  y", api.ErrFit},
		{api.TextNames, 1023, words(1022), api.OK}, {api.TextNames, 1023, words(1021), api.ErrFit}, {api.TextNames, 1023, words(1023), api.ErrFit}, {api.TextNames, 5462, words(5461), api.OK}, {api.TextNames, 5463, words(5462), api.ErrLong}, {api.TextNames, 0, "", api.ErrCount},
		{api.TextUse, 0, "x", api.OK}, {api.TextUse, 0, "1", api.OK}, {api.TextUse, 0, "64", api.OK}, {api.TextUse, 0, "65", api.ErrFit}, {api.TextUse, 0, "0", api.ErrFit}, {api.TextUse, 0, "01", api.ErrFit}, {api.TextUse, 0, "", api.ErrFit}, {api.TextUse, 0, "1x", api.ErrFit}, {api.TextUse, 0, "x y", api.ErrFit}, {api.TextUse, 0, strings.Repeat("1", 16385), api.ErrLong},
	} {
		r := api.Row{Kind: "a.b", Max: -1, Text: c.text}
		if c.text == api.TextNames {
			r.Min = 1
		}
		x := api.Tree{Kind: "a.b", Text: c.is, Kids: make([]api.Tree, c.kids)}
		told(t, "P7.2", fmt.Sprintf("Text %d, %d kids, %.20q", c.text, c.kids, c.is), kit.Fits(r, x), c.want)
	}
}

func TestNew(t *testing.T) {
	row, bad := api.Row{Kind: "a.b"}, api.Row{Kind: "a.c", Min: -1}
	for _, c := range []struct {
		name  string
		rows  []api.Row
		maker kit.Maker
		want  api.Errno
	}{
		{"a", []api.Row{{Kind: "b.c"}}, made, api.ErrName}, {"a", nil, made, api.ErrArg}, {"a", []api.Row{}, made, api.ErrArg}, {"a", []api.Row{row}, nil, api.ErrArg},
		{"", nil, nil, api.ErrArg}, {"", nil, made, api.ErrArg}, {"", []api.Row{bad}, nil, api.ErrArg},
		{"", []api.Row{row}, made, api.ErrName}, {"A", []api.Row{row}, made, api.ErrName}, {"a.b", []api.Row{row}, made, api.ErrName}, {"1a", []api.Row{bad}, made, api.ErrName}, {strings.Repeat("a", 17), []api.Row{bad}, made, api.ErrName}, {strings.Repeat("a", 1<<20), []api.Row{row}, made, api.ErrName},
		{"a", []api.Row{bad}, made, api.ErrCount}, {"b", []api.Row{bad}, made, api.ErrCount}, {"b", []api.Row{row, bad}, made, api.ErrName}, {"a", []api.Row{row, bad}, made, api.ErrCount},
		{"a", []api.Row{row, row}, made, api.ErrTwice}, {"a", []api.Row{row, row, bad}, made, api.ErrTwice}, {"a", []api.Row{row, bad, row}, made, api.ErrCount}, {"a", []api.Row{row, {Kind: "b.b"}, row}, made, api.ErrName},
		{"a", []api.Row{row, {Kind: "a.b", Num: true}}, made, api.ErrTwice}, {"a", []api.Row{row, {Kind: "a.b", Max: -2}}, made, api.ErrCount}, {"a", []api.Row{row, {Kind: "a.bb"}, {Kind: "a.b"}}, made, api.ErrTwice},
		{"a", []api.Row{{Kind: "a"}}, made, api.ErrName}, {"a", []api.Row{{Kind: "aa.b"}}, made, api.ErrName}, {"a", []api.Row{row, {Kind: "a.c", Abilities: []string{"Opaque"}}}, made, api.ErrArg},
		{"a", []api.Row{row}, made, api.OK}, {"a", []api.Row{row, {Kind: "a.a"}}, made, api.OK}, {strings.Repeat("a", 16), []api.Row{{Kind: strings.Repeat("a", 16) + ".b"}}, made, api.OK},
	} {
		k, e := kit.New(c.name, c.rows, c.maker)
		what := fmt.Sprintf("New(%.20q, %d rows)", c.name, len(c.rows))
		told(t, "P7.3", what, e, c.want)
		if (k == nil) != (c.want != api.OK) {
			t.Errorf("P7.3: %s: a kit beside %v: %v", what, e, k != nil)
		}
	}
}

func sample() []api.Row {
	return []api.Row{
		{Kind: "base.yes", Abilities: []string{"Literal", "Pure", "Total", "Sorted"}},
		{Kind: "base.frame", Min: 1, Max: 3, Abilities: []string{"Pure", "Total", "Framed"}},
		{Kind: "base.a", Max: -1, Num: true, Text: api.TextAny},
	}
}

func TestRows(t *testing.T) {
	k := kits(t, made, sample()...)
	if k.Name() != "base" || !reflect.DeepEqual(k.Rows(), sample()) {
		t.Errorf("P7.4: %s: %v", k.Name(), k.Rows())
	}
	for _, want := range sample() {
		if got, ok := k.Row(want.Kind); !ok || !reflect.DeepEqual(got, want) {
			t.Errorf("P7.4: %s: %v, %v", want.Kind, got, ok)
		}
	}
	for _, kind := range []string{"", "base", "yes", "base.ye", "base.yes ", "Base.yes", "base.no", "num.yes", strings.Repeat("base.yes", 1<<17)} {
		if got, ok := k.Row(kind); ok || !reflect.DeepEqual(got, api.Row{}) {
			t.Errorf("P7.4: %.20q: %v, %v", kind, got, ok)
		}
	}
	var many []api.Row
	for i := range 5000 {
		many = append(many, api.Row{Kind: fmt.Sprint("a.x", 4999-i), Max: i % 1000})
	}
	if k := kits(t, made, many...); k.Name() != "a" || !reflect.DeepEqual(k.Rows(), many) {
		t.Errorf("P7.4: many rows are not in their order")
	}
}

func TestRowsAreTheCallersOwn(t *testing.T) {
	list := append(sample(), api.Row{Kind: "base.spare", Abilities: []string{}})[:3]
	k := kits(t, made, list...)
	if !reflect.DeepEqual(list, sample()) || list[:4][3].Kind != "base.spare" {
		t.Errorf("P7.6: New has changed its rows")
	}
	spoil := func(rows []api.Row) {
		for i := range rows {
			for j := range rows[i].Abilities {
				rows[i].Abilities[j] = "Spoilt"
			}
			_ = append(rows[i].Abilities, "More", "More")
			rows[i] = api.Row{Kind: "spoilt"}
		}
		_ = append(rows, api.Row{Kind: "more"})
	}
	right := func(what string) {
		t.Helper()
		if !reflect.DeepEqual(k.Rows(), sample()) {
			t.Errorf("P7.6: %s: rows share memory: %v", what, k.Rows())
		}
		for _, want := range sample() {
			if got, _ := k.Row(want.Kind); !reflect.DeepEqual(got, want) {
				t.Errorf("P7.6: %s: a row shares memory: %v", what, got)
			}
		}
		h, e := k.Make(leaf("base.yes"))
		if e != nil || h == nil {
			t.Errorf("P7.6: %s: Make: %v", what, e)
		}
	}
	spoil(list)
	right("what was handed in")
	first, other := k.Rows(), k.Rows()
	spoil(first)
	if !reflect.DeepEqual(other, sample()) {
		t.Errorf("P7.6: two answers of Rows share memory")
	}
	right("Rows")
	one, _ := k.Row("base.yes")
	two, _ := k.Row("base.yes")
	spoil([]api.Row{one})
	if !reflect.DeepEqual(two, sample()[0]) {
		t.Errorf("P7.6: two answers of Row share memory")
	}
	right("Row")
	rows := k.Rows()
	_ = append(rows[0].Abilities, "x", "x", "x", "x")
	rows[0].Abilities[0] = "Spoilt"
	if !reflect.DeepEqual(rows[1:], sample()[1:]) {
		t.Errorf("P7.6: lists of one answer share memory")
	}
}

// One list as the abilities of several rows stays with each of them what it was.
func TestSharedLists(t *testing.T) {
	list := values()
	k := kits(t, made, api.Row{Kind: "base.yes", Abilities: list}, api.Row{Kind: "base.no", Abilities: list})
	rows := k.Rows()
	rows[0].Abilities[0] = "Spoilt"
	if !slices.Equal(rows[1].Abilities, values()) || !slices.Equal(list, values()) {
		t.Errorf("P7.6: rows of one list share it")
	}
}

func TestNoKit(t *testing.T) {
	for what, k := range map[string]*kit.Kit{"nil": nil, "zero": {}} {
		if n := k.Name(); n != "" {
			t.Errorf("P0.1: %s: Name %q", what, n)
		}
		if rows := k.Rows(); len(rows) != 0 {
			t.Errorf("P0.1: %s: Rows %v", what, rows)
		}
		for _, kind := range []string{"", "base.int", "a.b"} {
			if r, ok := k.Row(kind); ok || !reflect.DeepEqual(r, api.Row{}) {
				t.Errorf("P0.1: %s: Row(%q) %v", what, kind, r)
			}
			for _, kids := range [][]*node.Handle{nil, {nil}, {unit()}} {
				h, e := k.Make(leaf(kind), kids...)
				if h != nil {
					t.Errorf("P0.1: %s: Make gives a handle", what)
				}
				told(t, "P0.1", what+": Make", e, api.ErrArg)
			}
		}
	}
}

// refused fails, unless Make answers nothing but that error, without a call of the maker.
func refused(t *testing.T, k *kit.Kit, calls *int, x api.Tree, want api.Errno, kids ...*node.Handle) {
	t.Helper()
	*calls = 0
	h, e := k.Make(x, kids...)
	what := fmt.Sprintf("%s, %d kids", x.Kind, len(kids))
	if h != nil || *calls != 0 {
		t.Errorf("P7.5: %s: a handle: %v; %d calls of the maker", what, h != nil, *calls)
	}
	told(t, "P7.5", what, e, want)
}

func TestOrderOfMake(t *testing.T) {
	calls := 0
	k := kits(t, func(x api.Tree, kids ...*node.Handle) *node.Handle {
		calls++
		return made(x, kids...)
	}, api.Row{Kind: "base.frame", Min: 2, Max: 2, Abilities: []string{"Pure", "Total", "Framed"}})
	for bits := range 1 << 6 {
		x, kids, want := leaf("base.frame"), []*node.Handle{unit(), unit()}, api.OK
		if bits&1 != 0 {
			x.Text, want = "x", api.ErrFit
		}
		if bits&2 != 0 {
			x.Num, want = 1, api.ErrFit
		}
		if bits&4 != 0 {
			x.Text, want = strings.Repeat("x", 16385), api.ErrLong
		}
		if bits&8 != 0 {
			kids, want = append(kids, unit()), api.ErrCount
		}
		if bits&16 != 0 {
			kids[1], want = []*node.Handle{nil, {}}[bits%2], api.ErrArg
		}
		if bits&32 != 0 {
			x.Kind, want = []string{"base.unit", "", "base.frames"}[bits%3], api.ErrNone
		}
		if want != api.OK {
			refused(t, k, &calls, x, want, kids...)
			continue
		}
		calls = 0
		if h, e := k.Make(x, kids...); h == nil || e != nil || calls != 1 {
			t.Errorf("P7.5: Make: %v, %d calls of the maker", e, calls)
		}
	}
	for i := range 3 {
		kids := []*node.Handle{unit(), unit(), unit()}
		kids[i] = nil
		refused(t, k, &calls, leaf("base.frame"), api.ErrArg, kids...)
	}
	refused(t, k, &calls, leaf("base.frame"), api.ErrCount)
	refused(t, k, &calls, leaf("base.frame"), api.ErrCount, unit())
	refused(t, k, &calls, leaf("base.frame"), api.ErrCount, slices.Repeat([]*node.Handle{unit()}, 1<<20)...)
}

func TestWhatTheMakerIsHanded(t *testing.T) {
	var gotTree api.Tree
	var gotKids []*node.Handle
	var answer *node.Handle
	k := kits(t, func(x api.Tree, kids ...*node.Handle) *node.Handle {
		gotTree, gotKids = x, slices.Clone(kids)
		answer = made(x, kids...)
		for i := range kids {
			kids[i] = nil
		}
		_ = append(kids, unit(), unit())
		return answer
	}, api.Row{Kind: "base.frame", Min: 1, Max: 3, Abilities: []string{"Pure", "Total", "Framed"}}, api.Row{Kind: "base.int", Num: true, Abilities: values()})
	below := []api.Tree{{Kind: "no kind", Num: 5}, {}}
	all := []*node.Handle{unit(), wrapped(unit()), covered(number(5)), unit()}
	want := slices.Clone(all)
	for n := 1; n <= 3; n++ {
		h, e := k.Make(api.Tree{Kind: "base.frame", Kids: below}, all[:n]...)
		if e != nil || h == nil || h != answer {
			t.Errorf("P7.5: %d kids: not the maker's handle: %v", n, e)
			continue
		}
		if gotTree.Kind != "base.frame" || gotTree.Num != 0 || gotTree.Text != "" || len(gotTree.Kids) != 0 || !slices.Equal(gotKids, want[:n]) {
			t.Errorf("P7.5: the maker is handed %v and %d kids", gotTree, len(gotKids))
		}
		if !slices.Equal(all, want) {
			t.Errorf("P7.5: the maker's kids are in the caller's memory")
		}
		for i, kid := range want[:n] {
			if h.Node().Kid(i) != kid.Node() {
				t.Errorf("P7.5: kid %d of %d", i, n)
			}
		}
	}
	if !reflect.DeepEqual(below, []api.Tree{{Kind: "no kind", Num: 5}, {}}) {
		t.Errorf("P7.6: the tree's kids have changed")
	}
	h, e := k.Make(api.Tree{Kind: "base.int", Num: -7, Kids: below})
	if e != nil || h != answer || gotTree.Num != -7 || len(gotTree.Kids) != 0 || len(gotKids) != 0 {
		t.Errorf("P7.5: base.int: %v, %v", gotTree, e)
	}
}

// What the maker does to the caller's list behind its back is not what was handed in.
func TestKidsThatChange(t *testing.T) {
	list := []*node.Handle{unit()}
	first := list[0]
	k := kits(t, func(x api.Tree, kids ...*node.Handle) *node.Handle {
		list[0] = unit()
		return made(x, kids...)
	}, sample()[1])
	h, e := k.Make(leaf("base.frame"), list...)
	if e != nil || h.Node().Kid(0) != first.Node() {
		t.Errorf("P7.5: %v", e)
	}
}

func TestMakersThatFail(t *testing.T) {
	var none map[string]int
	var empty []int
	var nothing api.Node
	makers := map[string]kit.Maker{
		"text":    func(api.Tree, ...*node.Handle) *node.Handle { panic("broken") },
		"nil":     func(api.Tree, ...*node.Handle) *node.Handle { panic(nil) },
		"error":   func(api.Tree, ...*node.Handle) *node.Handle { panic(fault.New(api.ErrFit)) },
		"list":    func(api.Tree, ...*node.Handle) *node.Handle { panic([]int{1}) },
		"map":     func(api.Tree, ...*node.Handle) *node.Handle { none["x"] = 1; return nil },
		"index":   func(x api.Tree, _ ...*node.Handle) *node.Handle { return number(int64(empty[len(x.Kind)])) },
		"no node": func(api.Tree, ...*node.Handle) *node.Handle { return number(nothing.Num()) },
		"asserted": func(api.Tree, ...*node.Handle) *node.Handle {
			return number(int64(len(unit().Node().(api.Lazy).Way())))
		},
		"deferred": func(x api.Tree, kids ...*node.Handle) (h *node.Handle) {
			defer func() { panic("late") }()
			return made(x, kids...)
		},
		"behind its answer": func(x api.Tree, kids ...*node.Handle) (h *node.Handle) {
			h = made(x, kids...)
			panic(h)
		},
		"answers nil":           func(api.Tree, ...*node.Handle) *node.Handle { return nil },
		"answers a zero handle": func(api.Tree, ...*node.Handle) *node.Handle { return &node.Handle{} },
	}
	for what, m := range makers {
		calls := 0
		k := kits(t, func(x api.Tree, kids ...*node.Handle) *node.Handle {
			calls++
			return m(x, kids...)
		}, sample()...)
		for range 2 {
			h, e := k.Make(leaf("base.yes"))
			if h != nil {
				t.Errorf("P7.5: %s: a handle", what)
			}
			told(t, "P7.5", what, e, api.ErrArg)
		}
		if calls != 2 {
			t.Errorf("P7.5: %s: %d calls of the maker", what, calls)
		}
	}
	sound := false
	k := kits(t, func(x api.Tree, kids ...*node.Handle) *node.Handle {
		if !sound {
			panic("not yet")
		}
		return made(x, kids...)
	}, sample()...)
	_, e := k.Make(leaf("base.yes"))
	told(t, "P7.5", "ahead", e, api.ErrArg)
	sound = true
	if h, e := k.Make(leaf("base.yes")); h == nil || e != nil {
		t.Errorf("P7.6: a maker that failed once is refused: %v", e)
	}
}

func TestAnotherNode(t *testing.T) {
	a, b, w := number(1), number(1), wrapped(number(1))
	core, _ := node.Core(w)
	frame := func(kids ...*node.Handle) *node.Handle { return made(leaf("base.frame"), kids...) }
	for _, c := range []struct {
		what string
		row  api.Row
		tree api.Tree
		kids []*node.Handle
		is   *node.Handle
		want api.Errno
	}{
		{"another kind", api.Row{Kind: "base.yes", Abilities: values()}, leaf("base.yes"), nil, made(leaf("base.no")), api.ErrFit},
		{"another kind, other abilities", api.Row{Kind: "base.yes"}, leaf("base.yes"), nil, made(leaf("base.no")), api.ErrFit},
		{"another kit", api.Row{Kind: "toy.x", Abilities: []string{"Literal"}}, leaf("toy.x"), nil, number(0), api.ErrFit},
		{"another Num", api.Row{Kind: "base.int", Num: true, Abilities: values()}, api.Tree{Kind: "base.int", Num: 2}, nil, a, api.ErrFit},
		{"no Num", api.Row{Kind: "base.int", Num: true, Abilities: values()}, api.Tree{Kind: "base.int", Num: 2}, nil, number(0), api.ErrFit},
		{"a Num", api.Row{Kind: "base.int", Abilities: values()}, leaf("base.int"), nil, a, api.ErrFit},
		{"another Text", api.Row{Kind: "base.text", Text: api.TextAny, Abilities: values()}, api.Tree{Kind: "base.text", Text: "x"}, nil, made(api.Tree{Kind: "base.text", Text: "X"}), api.ErrFit},
		{"no Text", api.Row{Kind: "base.text", Text: api.TextAny, Abilities: values()}, api.Tree{Kind: "base.text", Text: "x"}, nil, made(leaf("base.text")), api.ErrFit},
		{"a Text", api.Row{Kind: "base.text", Abilities: values()}, leaf("base.text"), nil, made(api.Tree{Kind: "base.text", Text: "\x00"}), api.ErrFit},
		{"one kid fewer", sample()[1], leaf("base.frame"), []*node.Handle{a, b}, frame(a), api.ErrFit},
		{"one kid more", sample()[1], leaf("base.frame"), []*node.Handle{a}, frame(a, b), api.ErrFit},
		{"another kid of the same content", sample()[1], leaf("base.frame"), []*node.Handle{a}, frame(b), api.ErrFit},
		{"another last kid", sample()[1], leaf("base.frame"), []*node.Handle{a, b, w}, frame(a, b, a), api.ErrFit},
		{"another middle kid", sample()[1], leaf("base.frame"), []*node.Handle{a, b, w}, frame(a, a, w), api.ErrFit},
		{"kids swapped", sample()[1], leaf("base.frame"), []*node.Handle{a, b}, frame(b, a), api.ErrFit},
		{"a wrapper's core", sample()[1], leaf("base.frame"), []*node.Handle{w}, frame(core), api.ErrFit},
		{"a wrapper around the kid", sample()[1], leaf("base.frame"), []*node.Handle{core}, frame(w), api.ErrFit},
		{"a kid's new cover", sample()[1], leaf("base.frame"), []*node.Handle{covered(a)}, frame(covered(a)), api.ErrFit},
		{"another kid, other abilities", api.Row{Kind: "base.frame", Max: -1}, leaf("base.frame"), []*node.Handle{a}, frame(b), api.ErrFit},
		{"a cover around another kind", api.Row{Kind: "base.yes"}, leaf("base.yes"), nil, covered(made(leaf("base.no"))), api.ErrFit},
		{"the very one", sample()[1], leaf("base.frame"), []*node.Handle{a, b, w}, frame(a, b, w), api.OK},
		{"one kid twice", sample()[1], leaf("base.frame"), []*node.Handle{a, a}, frame(a, a), api.OK},
		{"the node in another handle", sample()[1], leaf("base.frame"), []*node.Handle{core}, frame(core), api.OK},
	} {
		k := kits(t, func(api.Tree, ...*node.Handle) *node.Handle { return c.is }, c.row)
		h, e := k.Make(c.tree, c.kids...)
		told(t, "P7.5", c.what, e, c.want)
		if c.want == api.OK && h != c.is || c.want != api.OK && h != nil {
			t.Errorf("P7.5: %s: not the handle that was asked for", c.what)
		}
	}
}

// first tells the first ability, in doc/00's order, that just one of two lists has.
func first(a, b []string) string {
	for _, x := range all() {
		if slices.Contains(a, x) != slices.Contains(b, x) {
			return x
		}
	}
	return ""
}

// lacks fails, unless Make answers nothing but an error that lacks this; none of "".
func lacks(t *testing.T, h *node.Handle, e error, kind, ability string) {
	t.Helper()
	if ability == "" {
		if h == nil || e != nil {
			t.Errorf("P7.5: %s: %v", kind, e)
		}
		return
	}
	l, ok := e.(api.Lacking)
	if h != nil || !ok {
		t.Errorf("P7.5: %s: a handle: %v; %v is not Lacking", kind, h != nil, e)
		return
	}
	gotKind, got := l.Lacks()
	if p := l.Where(); gotKind != kind || got != ability || l.Code() != api.ErrLack || p.Fun != "" || len(p.Path) != 0 {
		t.Errorf("P7.5: %s %s: %v", kind, ability, e)
	}
	if !fault.Same(e, fault.Lack(api.Place{}, kind, ability)) {
		t.Errorf("P7.5: %s %s: %v is not the error of fault.Lack", kind, ability, e)
	}
}

// Each kind of the kit base, and its wrappers, against each list of abilities.
func TestAbilities(t *testing.T) {
	for _, row := range node.Rows() {
		x := leaf(row.Kind)
		if row.Text == api.TextUse {
			x.Text = "x"
		}
		var kids []*node.Handle
		if row.Min > 0 {
			kids = []*node.Handle{unit()}
		}
		for around, has := range map[string][]string{"": row.Abilities, "cover": {"Wrapped"}, "wrap": {"Wrapped", "Origin"}, "cover of a wrap": {"Wrapped"}} {
			maker := func(x api.Tree, kids ...*node.Handle) *node.Handle {
				h := made(x, kids...)
				switch around {
				case "cover":
					return covered(h)
				case "wrap":
					return wrapped(h)
				case "cover of a wrap":
					return covered(wrapped(h))
				}
				return h
			}
			for bits := range subsets {
				list, ok := some(bits)
				if !ok {
					continue
				}
				asked := row
				asked.Abilities = list
				h, e := kits(t, maker, asked).Make(x, kids...)
				lacks(t, h, e, row.Kind, first(has, list))
			}
		}
	}
}

func TestSound(t *testing.T) {
	many := slices.Repeat([]*node.Handle{unit()}, 65)
	k := kits(t, made, node.Rows()...)
	for _, c := range []struct {
		tree api.Tree
		kids int
	}{
		{leaf("base.unit"), 0}, {leaf("base.yes"), 0}, {leaf("base.no"), 0}, {leaf("base.int"), 0}, {api.Tree{Kind: "base.int", Num: math.MinInt64}, 0},
		{leaf("base.text"), 0}, {api.Tree{Kind: "base.text", Text: strings.Repeat("\xff", 16384)}, 0}, {api.Tree{Kind: "base.var", Text: "64"}, 0}, {api.Tree{Kind: "base.var", Text: "_"}, 0},
		{leaf("base.frame"), 1}, {leaf("base.frame"), 2}, {leaf("base.frame"), 65},
	} {
		h, e := k.Make(c.tree, many[:c.kids]...)
		if h == nil || e != nil {
			t.Errorf("P7.6: %s %d %.10q, %d kids: %v", c.tree.Kind, c.tree.Num, c.tree.Text, c.kids, e)
			continue
		}
		n := h.Node()
		if n.Kind() != c.tree.Kind || n.Num() != c.tree.Num || n.Text() != c.tree.Text || n.Len() != c.kids {
			t.Errorf("P7.6: %s: another node", c.tree.Kind)
		}
	}
}

func TestBase(t *testing.T) {
	b := kit.Base()
	if b == nil || b.Name() != "base" || !reflect.DeepEqual(b.Rows(), node.Rows()) {
		t.Fatalf("P7.7: %v", b)
	}
	for _, want := range node.Rows() {
		if got, ok := b.Row(want.Kind); !ok || !reflect.DeepEqual(got, want) {
			t.Errorf("P7.7: %s: %v", want.Kind, got)
		}
	}
	h, e := b.Make(api.Tree{Kind: "base.int", Num: 5})
	if e != nil || h.Node().(api.Literal).Worth() != api.Value(api.Int(5)) {
		t.Errorf("P7.7: base.int 5: %v", e)
	}
	for i := range b.Rows() {
		b.Rows()[i].Abilities[0] = "Spoilt"
	}
	if other := kit.Base(); other == b || !reflect.DeepEqual(other.Rows(), node.Rows()) || !reflect.DeepEqual(b.Rows(), node.Rows()) {
		t.Errorf("P7.7: two calls give one kit")
	}
}

// Base's Make answers as node.Make does: the same errors, the same nodes.
func TestBaseMakes(t *testing.T) {
	b, zero := kit.Base(), &node.Handle{}
	kinds := []string{"", "base", "base.nothing", "base.Unit", "num.add"}
	for _, r := range node.Rows() {
		kinds = append(kinds, r.Kind)
	}
	many := slices.Repeat([]*node.Handle{unit()}, 66)
	for _, kind := range kinds {
		for _, num := range []int64{0, 5, math.MinInt64} {
			for _, text := range []string{"", "x", "64", "65", "x y", strings.Repeat("x", 16384), strings.Repeat("x", 16385)} {
				for _, kids := range [][]*node.Handle{nil, many[:1], many[:2], many[:65], many, {nil}, {unit(), zero}, {wrapped(unit())}} {
					x := api.Tree{Kind: kind, Num: num, Text: text, Kids: make([]api.Tree, 3)}
					want, wantError := node.Make(x, kids...)
					got, e := b.Make(x, kids...)
					if (got == nil) != (want == nil) || !fault.Same(e, wantError) {
						t.Errorf("P7.7: %q %d %.10q, %d kids: %v, not %v", kind, num, text, len(kids), e, wantError)
						continue
					}
					if want == nil {
						continue
					}
					one, _ := node.Plain(got)
					two, _ := node.Plain(want)
					if !reflect.DeepEqual(one, two) || !slices.Equal(node.Abilities(got), node.Abilities(want)) {
						t.Errorf("P7.7: %q %d %.10q, %d kids: another node", kind, num, text, len(kids))
					}
				}
			}
		}
	}
}

func TestTwoKits(t *testing.T) {
	one := kits(t, made, api.Row{Kind: "base.yes", Abilities: values()})
	two := kits(t, func(api.Tree, ...*node.Handle) *node.Handle { return nil }, api.Row{Kind: "base.yes"}, api.Row{Kind: "base.no"})
	for range 2 {
		if h, e := one.Make(leaf("base.yes")); h == nil || e != nil {
			t.Errorf("P7.6: %v", e)
		}
		_, e := one.Make(leaf("base.no"))
		told(t, "P7.6", "a kind of the other kit", e, api.ErrNone)
		_, e = two.Make(leaf("base.yes"))
		told(t, "P7.6", "the other kit", e, api.ErrArg)
	}
	if len(one.Rows()) != 1 || len(two.Rows()) != 2 {
		t.Errorf("P7.6: %v, %v", one.Rows(), two.Rows())
	}
}

func TestWhatIsHandedInStays(t *testing.T) {
	r := sample()[0]
	x := api.Tree{Kind: "base.yes", Kids: []api.Tree{{Kind: "a.b", Kids: []api.Tree{{}}}}}
	_, _ = kit.May(r), kit.Fits(r, x)
	if !reflect.DeepEqual(r, sample()[0]) || !reflect.DeepEqual(x, api.Tree{Kind: "base.yes", Kids: []api.Tree{{Kind: "a.b", Kids: []api.Tree{{}}}}}) {
		t.Errorf("P7.6: what was handed in has changed")
	}
	spare := append(values(), "x", "y")[:4]
	_ = kit.May(api.Row{Kind: "a.b", Abilities: spare})
	if !slices.Equal(spare[:6], append(values(), "x", "y")) {
		t.Errorf("P7.6: spare room has changed")
	}
}

// A maker may ask its own kit.
func TestMakerAsksItsKit(t *testing.T) {
	var k *kit.Kit
	k = kits(t, func(x api.Tree, kids ...*node.Handle) *node.Handle {
		if x.Kind == "base.frame" {
			if h, e := k.Make(leaf("base.yes")); h == nil || e != nil {
				return nil
			}
		}
		return made(x, kids...)
	}, sample()...)
	if h, e := k.Make(leaf("base.frame"), unit()); h == nil || e != nil {
		t.Errorf("P7.5: %v", e)
	}
}

func TestSeveralAtATime(t *testing.T) {
	k := kits(t, made, sample()...)
	var group sync.WaitGroup
	for i := range 8 {
		group.Go(func() {
			for range 100 {
				rows := k.Rows()
				r, ok := k.Row("base.yes")
				h, e := k.Make(leaf("base.yes"))
				_, none := k.Make(leaf("base.no"))
				_, lack := k.Make(api.Tree{Kind: "base.a", Num: int64(i)})
				if k.Name() != "base" || !reflect.DeepEqual(rows, sample()) || !ok || !slices.Equal(r.Abilities, values()) || h == nil || e != nil || fault.Code(none) != api.ErrNone || fault.Code(lack) != api.ErrArg {
					t.Error("P7.6: several at a time")
					return
				}
				rows[0].Abilities[0], r.Abilities[0] = "Spoilt", "Spoilt"
			}
		})
	}
	group.Wait()
}
