package craft_test

// The tests of what the program's kits have in common.

import (
	"reflect"
	"slices"
	"strings"
	"testing"

	"espalier/api"
	"espalier/craft"
	"espalier/node"
	"espalier/part"
)

type toy struct {
	part.Base
	part.Sorted
}

func (t *toy) Op() string { return t.Does() }

func newToy(b part.Base, s part.Sorted) api.Node { return &toy{b, s} }

// kinds are some: one that tells how many values there are, one that raises,
// one that puts a value into lists and makes it greater, one that joins, one
// that can do nothing.
func kinds() []craft.Kind {
	return []craft.Kind{
		{Name: "toy.len", Min: 1, Max: -1, Has: "Strict Sorted", Signs: "int .. > int", Make: newToy, Does: func(args []api.Value) (api.Value, api.Errno, string) {
			return api.Int(len(args)), api.OK, ""
		}},
		{Name: "toy.raise", Min: 1, Max: 2, Text: api.TextName, Has: "Strict Sorted", Signs: "text, int > a", Make: newToy, Does: func(args []api.Value) (api.Value, api.Errno, string) {
			return nil, api.ErrRaise, string(args[0].(api.Text))
		}},
		{Name: "toy.wrap", Min: 2, Max: 2, Has: "Strict Sorted", Signs: "a, int > list a", Make: newToy, Does: func(args []api.Value) (api.Value, api.Errno, string) {
			v := args[0]
			for range int(args[1].(api.Int)) {
				v = api.List{v, v}
			}
			return v, api.OK, ""
		}},
		{Name: "toy.join", Max: -1, Has: "Strict Sorted", Signs: "a .. > int", Make: newToy, Joins: true, Does: func(args []api.Value) (api.Value, api.Errno, string) {
			return api.Int(len(args)), api.OK, ""
		}},
		{Name: "toy.idle", Make: func(b part.Base, _ part.Sorted) api.Node { return &b }},
	}
}

func TestKit(t *testing.T) {
	table := kinds()
	k := craft.Kit("toy", table)
	clear(table)
	want := []api.Row{
		{Kind: "toy.len", Min: 1, Max: -1, Abilities: []string{"Strict", "Sorted"}},
		{Kind: "toy.raise", Min: 1, Max: 2, Text: api.TextName, Abilities: []string{"Strict", "Sorted"}},
		{Kind: "toy.wrap", Min: 2, Max: 2, Abilities: []string{"Strict", "Sorted"}},
		{Kind: "toy.join", Max: -1, Abilities: []string{"Strict", "Sorted"}},
		{Kind: "toy.idle", Abilities: []string{}},
	}
	rows := k.Rows()
	for i := range want {
		if len(rows) != len(want) || len(rows[i].Abilities) != len(want[i].Abilities) || len(want[i].Abilities) > 0 && !reflect.DeepEqual(rows[i], want[i]) {
			t.Fatalf("%v", rows)
		}
	}
	idle, e := k.Make(api.Tree{Kind: "toy.idle"})
	if e != nil || len(node.Abilities(idle)) != 0 {
		t.Fatalf("toy.idle: %v", e)
	}
	h, e := k.Make(api.Tree{Kind: "toy.raise", Text: "x"}, idle)
	if e != nil || h.Node().Text() != "x" || h.Node().Kid(0) != idle.Node() || h.Node().(api.Strict).Op() != "toy.raise" || h.Node().(api.Sorted).Signs().Out.Name != "a" {
		t.Errorf("toy.raise: %v", e)
	}
}

func TestWork(t *testing.T) {
	five, text, none := api.Plain{Kind: api.PInt, Num: 5}, api.Plain{Kind: api.PText, Text: "no"}, api.Plain{}
	for _, c := range []struct {
		op    string
		args  []api.Plain
		value api.Value
		code  api.Errno
		said  string
	}{
		{"toy.len", []api.Plain{five}, api.Int(1), api.OK, ""}, {"toy.len", []api.Plain{five, five, five}, api.Int(3), api.OK, ""}, {"toy.len", nil, nil, api.ErrCount, ""},
		{"toy.len", []api.Plain{five, text}, nil, api.ErrKind, ""}, {"toy.len", []api.Plain{text, none}, nil, api.ErrArg, ""},
		{"toy.raise", []api.Plain{text}, nil, api.ErrRaise, "no"}, {"toy.raise", []api.Plain{text, five}, nil, api.ErrRaise, "no"}, {"toy.raise", nil, nil, api.ErrCount, ""}, {"toy.raise", []api.Plain{none, none, none}, nil, api.ErrCount, ""}, {"toy.raise", []api.Plain{five, text}, nil, api.ErrKind, ""},
		{"toy.idle", nil, nil, api.ErrArg, ""}, {"toy.none", []api.Plain{five}, nil, api.ErrArg, ""}, {"", nil, nil, api.ErrArg, ""},
	} {
		v, e, said := craft.Work(kinds(), c.op, c.args...)
		if v != c.value || e != c.code || said != c.said {
			t.Errorf("%s %v: %v, %d, %q", c.op, c.args, v, e, said)
		}
	}
}

func TestWhatMayNotBe(t *testing.T) {
	of := func(ps ...api.Plain) api.Plain { return api.Plain{Kind: api.PList, List: ps} }
	whole := func(n int64) api.Plain { return api.Plain{Kind: api.PInt, Num: n} }
	text := func(n int) api.Plain { return api.Plain{Kind: api.PText, Text: strings.Repeat("x", n)} }
	deep := of()
	for range 62 {
		deep = of(deep)
	}
	for _, c := range []struct {
		op   string
		args []api.Plain
		code api.Errno
	}{
		{"toy.wrap", []api.Plain{whole(5), whole(0)}, api.OK}, {"toy.wrap", []api.Plain{text(65535), whole(0)}, api.OK}, {"toy.wrap", []api.Plain{text(32766), whole(1)}, api.OK}, {"toy.wrap", []api.Plain{text(32767), whole(1)}, api.ErrLong},
		{"toy.wrap", []api.Plain{whole(5), whole(15)}, api.OK}, {"toy.wrap", []api.Plain{whole(5), whole(16)}, api.ErrLong}, {"toy.wrap", []api.Plain{whole(5), whole(64)}, api.ErrLong}, {"toy.wrap", []api.Plain{of(), whole(62)}, api.ErrLong},
		{"toy.wrap", []api.Plain{deep, whole(1)}, api.OK}, {"toy.wrap", []api.Plain{deep, whole(2)}, api.ErrLong}, {"toy.wrap", []api.Plain{of(deep), whole(0)}, api.OK}, {"toy.wrap", []api.Plain{of(deep), whole(1)}, api.ErrLong},
		{"toy.join", nil, api.OK}, {"toy.join", []api.Plain{whole(1), text(1)}, api.OK}, {"toy.join", slices.Repeat([]api.Plain{whole(1)}, 65535), api.OK}, {"toy.join", slices.Repeat([]api.Plain{whole(1)}, 65536), api.ErrLong},
		{"toy.join", append(slices.Repeat([]api.Plain{whole(1)}, 65536), api.Plain{}), api.ErrArg}, {"toy.join", []api.Plain{of(deep)}, api.ErrLong},
	} {
		v, e, said := craft.Work(kinds(), c.op, c.args...)
		if e != c.code || said != "" || (v == nil) != (e != api.OK) {
			t.Errorf("%s of %d values: %d, not %d", c.op, len(c.args), e, c.code)
		}
	}
}
