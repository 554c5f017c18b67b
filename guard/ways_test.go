package guard_test

import (
	"slices"
	"strings"
	"testing"

	"espalier/api"
	"espalier/caught"
	"espalier/fault"
	"espalier/flow"
	"espalier/guard"
	"espalier/kit"
	"espalier/list"
	"espalier/node"
	"espalier/num"
	"espalier/words"
	"espalier/worth"
)

// run is what doc/00 and doc/15 say of whoever runs a program, of the
// abilities that this kit and its examples lean on.
type run struct {
	fuel, room int
	steps      int
	laid       int
	emits      []string
}

// scene is the variables, the innermost one last.
type scene []struct {
	name  string
	value api.Value
}

func (s scene) with(name string, v api.Value) scene {
	return append(slices.Clone(s), scene{{name, v}}...)
}

func (r *run) lay(v api.Value, path []int) (api.Value, error) {
	p := plain(v)
	if r.laid+worth.Size(p) > r.room {
		return nil, fault.At(api.ErrRoom, api.Place{Path: path})
	}
	r.laid += worth.Size(p)
	return v, nil
}

func (r *run) worth(n api.Node, s scene, path ...int) (api.Value, error) {
	at := api.Place{Path: path}
	if r.steps == r.fuel {
		return nil, fault.At(api.ErrFuel, at)
	}
	r.steps++
	core, _ := node.Core(node.Hold(n))
	kid := func(i int, s scene) (api.Value, error) { return r.worth(n.Kid(i), s, append(slices.Clone(path), i)...) }
	switch x := core.Node().(type) {
	case api.Literal:
		return r.lay(x.Worth(), path)
	case api.Strict:
		var args []api.Plain
		for i := range n.Len() {
			v, f := kid(i, s)
			if f != nil {
				return nil, f
			}
			args = append(args, plain(v))
		}
		return r.does(x.Op(), args, at)
	case api.Lazy:
		v, f := kid(0, s)
		if x.Way() == "flow.seq" && f == nil {
			return kid(1, s)
		}
		said, is := caught.Text(f)
		if x.Way() == "flow.seq" || !is {
			return v, f
		}
		if b, ok := x.(api.Binder); ok {
			name, in := b.Binds()
			return kid(in, s.with(name, api.Text(said)))
		}
		return kid(1, s)
	case api.User:
		for _, v := range slices.Backward(s) {
			if v.name == x.Uses() {
				return v.value, nil
			}
		}
		return nil, fault.At(api.ErrName, at)
	}
	return nil, fault.Lack(at, n.Kind(), "worth")
}

// does does an operation; emit is the one that has its doing here.
func (r *run) does(op string, args []api.Plain, at api.Place) (api.Value, error) {
	if op == "flow.emit" {
		if len(r.emits) == api.MaxEmits {
			return nil, fault.At(api.ErrFull, at)
		}
		s, _ := worth.Text(args[0])
		r.emits = append(r.emits, s)
	}
	kit, _, _ := strings.Cut(op, ".")
	work := map[string]func(string, ...api.Plain) (api.Value, api.Errno, string){"guard": guard.Work, "list": list.Work, "num": num.Work, "words": words.Work, "flow": flow.Work}[kit]
	v, e, said := work(op, args...)
	switch e {
	case api.OK:
		return r.lay(v, at.Path)
	case api.ErrRaise:
		return nil, fault.Raise(at, said)
	}
	return nil, fault.At(e, at)
}

// plain is the way back from values.
func plain(v api.Value) api.Plain {
	switch x := v.(type) {
	case api.Truth:
		if x {
			return yes()
		}
		return no()
	case api.Int:
		return whole(int64(x))
	case api.Text:
		return text(string(x))
	case api.List:
		p := items()
		for _, item := range x {
			p.List = append(p.List, plain(item))
		}
		return p
	}
	return unit()
}

// shown writes what a node is worth and, behind it, what was emitted.
func shown(r *run, n api.Node) string {
	v, f := r.worth(n, nil)
	var s string
	if f != nil {
		s = f.Error()
	} else {
		s, _ = worth.Text(plain(v))
	}
	return strings.Join(append([]string{s}, r.emits...), "; ")
}

// of makes the node of a kind of one of some kits; a Text stands behind a colon.
func of(t *testing.T, what string, kids ...*node.Handle) *node.Handle {
	t.Helper()
	kind, said, _ := strings.Cut(what, ":")
	for _, k := range []*kit.Kit{guard.Kit(), list.Kit(), num.Kit(), words.Kit(), flow.Kit()} {
		if _, ok := k.Row(kind); ok {
			h, e := k.Make(api.Tree{Kind: kind, Text: said}, kids...)
			if e != nil {
				t.Fatalf("%s: %v", what, e)
			}
			return h
		}
	}
	return basic(api.Tree{Kind: kind, Text: said})
}

// trees are what the examples are made of.
type trees struct{ t *testing.T }

func (x trees) number(n int64) *node.Handle { return basic(api.Tree{Kind: "base.int", Num: n}) }

func (x trees) text(s string) *node.Handle { return of(x.t, "base.text:"+s) }

func (x trees) use(s string) *node.Handle { return of(x.t, "base.var:"+s) }

func (x trees) raise(s string) *node.Handle { return of(x.t, "guard.raise", x.text(s)) }

func (x trees) check(a, b *node.Handle) *node.Handle { return of(x.t, "guard.check", a, b) }

func (x trees) try(a, b *node.Handle) *node.Handle { return of(x.t, "guard.try", a, b) }

func (x trees) catch(name string, a, b *node.Handle) *node.Handle {
	return of(x.t, "guard.catch:"+name, a, b)
}

func (x trees) emit(a *node.Handle) *node.Handle { return of(x.t, "flow.emit", a) }

func (x trees) seq(a, b *node.Handle) *node.Handle { return of(x.t, "flow.seq", a, b) }

// wantedWorths fails, unless each node is worth what stands behind it.
func wantedWorths(t *testing.T, cases []example) {
	t.Helper()
	for _, c := range cases {
		if got := shown(&run{fuel: 1000, room: 100000}, c.h.Node()); got != c.want {
			x, _ := node.Plain(c.h)
			t.Errorf("P15.2, P15.3: %v: %.80s, not %.80s", x, got, c.want)
		}
	}
}

type example struct {
	h    *node.Handle
	want string
}

func TestExamples(t *testing.T) {
	x := trees{t}
	one, truly, falsely := x.number(1), of(t, "base.yes"), of(t, "base.no")
	bounds := of(t, "list.at", of(t, "list.of"), x.number(0))
	wantedWorths(t, []example{
		{x.raise("no"), "error 25 at -: no"}, {of(t, "guard.raise", one), "error 20 at -"},
		{x.check(truly, x.text("x")), "unit"}, {x.check(falsely, x.text("x")), "error 25 at -: x"}, {x.check(one, x.text("x")), "error 20 at -"},
		{x.try(x.raise("no"), one), "1"}, {x.try(one, x.raise("no")), "1"}, {x.try(x.raise("a"), x.raise("b")), "error 25 at 1: b"},
		{x.catch("e", x.raise("no"), x.use("e")), `"no"`}, {x.catch("e", bounds, x.use("e")), `"bounds"`},
		{x.try(x.use("x"), one), "error 10 at 0"},
	})
}

func TestOperationsInTrees(t *testing.T) {
	x := trees{t}
	wantedWorths(t, []example{
		{of(t, "guard.raise", x.raise("in")), "error 25 at 0: in"}, {x.raise(""), "error 25 at -: "}, {wrapped(x.raise("no")), "error 25 at -: no"},
		{of(t, "guard.raise", x.emit(x.number(1))), "error 20 at -; 1"}, {of(t, "guard.raise", x.emit(x.text("a"))), `error 25 at -: a; "a"`},
		{x.check(x.emit(of(t, "base.yes")), x.emit(x.text("a"))), `unit; yes; "a"`}, {x.check(x.emit(x.number(1)), x.emit(x.number(2))), "error 20 at -; 1; 2"},
		{x.check(x.number(1), x.raise("b")), "error 25 at 1: b"}, {x.check(x.raise("a"), x.raise("b")), "error 25 at 0: a"},
	})
}

func TestTry(t *testing.T) {
	x := trees{t}
	one, two, unknown := x.number(1), x.number(2), x.use("x")
	wantedWorths(t, []example{
		{x.try(one, unknown), "1"}, {x.try(x.raise(""), two), "2"}, {x.try(x.raise("a"), unknown), "error 10 at 1"},
		{x.try(x.try(x.raise("a"), x.raise("b")), two), "2"}, {x.try(x.raise("a"), x.try(x.raise("b"), two)), "2"}, {x.try(x.raise("a"), x.try(x.raise("b"), x.raise("c"))), "error 25 at 1.1: c"},
		{x.try(x.seq(x.emit(one), x.raise("a")), x.emit(two)), "2; 1; 2"}, {x.try(x.emit(one), x.emit(two)), "1; 1"},
		{x.try(of(t, "guard.raise", unknown), two), "error 10 at 0.0"}, {x.try(lost(), two), "error 13 at 0: base.frame worth"},
		{wrapped(x.try(wrapped(x.raise("a")), wrapped(two))), "2"},
	})
}

// lost is a node that this run can't evaluate.
func lost() *node.Handle {
	h, _ := node.Make(api.Tree{Kind: "base.frame"}, basic(api.Tree{Kind: "base.unit"}))
	return h
}

func TestCatch(t *testing.T) {
	x := trees{t}
	e, long := x.use("e"), x.text(strings.Repeat("x", 10000))
	one, zero, most := x.number(1), x.number(0), x.number(1<<62)
	both := func(op string, a, b *node.Handle) *node.Handle { return of(t, op, a, b) }
	wantedWorths(t, []example{
		{x.catch("e", of(t, "guard.raise", one), e), `"kind"`}, {x.catch("e", both("num.mul", most, most), e), `"over"`}, {x.catch("e", both("num.quo", one, zero), e), `"zero"`},
		{x.catch("e", both("list.at", of(t, "list.of"), one), e), `"bounds"`}, {x.catch("e", of(t, "words.num", x.text("x")), e), `"number"`}, {x.catch("e", both("words.rep", long, x.number(7)), e), `"long"`},
		{x.catch("e", x.raise(""), e), `""`}, {x.catch("e", x.raise("kind"), e), `"kind"`}, {x.catch("e", one, e), "1"}, {x.catch("e", e, one), "error 10 at 0"}, {x.catch("e", x.raise("a"), x.use("f")), "error 10 at 1"},
		{x.catch("e", x.raise("a"), of(t, "guard.raise", e)), "error 25 at 1: a"}, {x.catch("e", lost(), e), "error 13 at 0: base.frame worth"},
		{x.catch("e", x.raise("a"), x.catch("e", x.raise("b"), e)), `"b"`}, {x.catch("e", x.raise("a"), x.catch("f", x.raise("b"), e)), `"a"`}, {x.catch("e", x.raise("a"), x.try(x.raise("b"), e)), `"a"`},
		{x.catch("e", x.raise("a"), x.catch("e", e, one)), `"a"`}, {x.catch("f", x.catch("e", x.raise("a"), of(t, "guard.raise", e)), of(t, "words.join", x.use("f"), x.use("f"))), `"aa"`},
		{x.catch("e", x.seq(x.emit(one), x.raise("a")), x.emit(e)), `"a"; 1; "a"`},
	})
}

// TestLimits tells that limits are caught by nothing, and that what is used stays used.
func TestLimits(t *testing.T) {
	x := trees{t}
	for _, c := range []struct {
		h           *node.Handle
		steps, laid int
		outOfFuel   string
		outOfRoom   string
	}{
		{x.try(x.raise("no"), x.number(1)), 4, 4, "error 30 at 1", "error 31 at 1"},
		{x.catch("e", x.raise("no"), x.use("e")), 4, 3, "error 30 at 1", "error 31 at 0.0"},
		{x.try(x.text("no"), x.number(1)), 2, 3, "error 30 at 0", "error 31 at 0"},
	} {
		r := &run{fuel: c.steps, room: c.laid}
		if shown(r, c.h.Node()); r.steps != c.steps || r.laid != c.laid {
			t.Errorf("P15.3: %d steps, %d laid", r.steps, r.laid)
		}
		if got := shown(&run{fuel: c.steps - 1, room: c.laid}, c.h.Node()); got != c.outOfFuel {
			t.Errorf("P15.3: a step too few: %s, not %s", got, c.outOfFuel)
		}
		if got := shown(&run{fuel: c.steps, room: c.laid - 1}, c.h.Node()); got != c.outOfRoom {
			t.Errorf("P15.3: too little room: %s, not %s", got, c.outOfRoom)
		}
	}
	full := &run{fuel: 1000, room: 1000, emits: make([]string, api.MaxEmits)}
	if got := shown(full, x.try(x.emit(x.number(1)), x.number(2)).Node()); !strings.HasPrefix(got, "error 33 at 0;") {
		t.Errorf("P15.3: too much is emitted: %.40s", got)
	}
}
