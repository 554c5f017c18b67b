package flow

import (
	"espalier/api"
	"espalier/craft"
	"espalier/part"
)

// base is what the kinds of this kit but flow.emit have in common: they are quiet and sure.
type base struct {
	part.Base
	part.Total
}

// lazy has no operation: what its way does is a matter of who evaluates it.
type lazy struct {
	base
	part.Sorted
}

func (l *lazy) Way() string { return l.Does() }

// emit is neither quiet nor sure, so it has no part beside its sorts.
type emit struct {
	part.Base
	part.Sorted
}

func (e *emit) Op() string { return e.Does() }

// all has no sorts of its own: what it is spelt with has them.
type all struct{ base }

// Spelt begins with the last kid, as each seq stands around those behind it.
func (a *all) Spelt() api.Node {
	n := a.Kid(a.Len() - 1)
	for i := a.Len() - 2; i >= 0; i-- {
		n = then(a.Kid(i), n)
	}
	return n
}

type twice struct {
	base
	part.Sorted
}

func (t *twice) Spelt() api.Node { return then(t.Kid(0), t.Kid(0)) }

// seqSigns is the signature of flow.seq, in the table and where a node is spelt with it.
const seqSigns = "a, b > b"

// then gives the seq of two nodes.
func then(a, b api.Node) api.Node {
	return newLazy(part.New(api.Tree{Kind: "flow.seq"}, a, b), seqSigns)
}

func newLazy(b part.Base, s part.Sorted) api.Node { return &lazy{base{Base: b}, s} }

func newEmit(b part.Base, s part.Sorted) api.Node { return &emit{b, s} }

func newAll(b part.Base, _ part.Sorted) api.Node { return &all{base{Base: b}} }

func newTwice(b part.Base, s part.Sorted) api.Node { return &twice{base{Base: b}, s} }

// kinds is the kit; an array, as it is made anew for each operation that is done.
func kinds() [5]craft.Kind {
	const goes, same = "Lazy Pure Total Sorted", "a > a"
	return [...]craft.Kind{
		{Name: "flow.seq", Min: 2, Max: 2, Has: goes, Signs: seqSigns, Make: newLazy},
		{Name: "flow.emit", Min: 1, Max: 1, Has: "Strict Sorted", Signs: same, Make: newEmit, Does: emitted},
		{Name: "flow.times", Min: 2, Max: 2, Has: goes, Signs: "int, a > unit", Make: newLazy},
		{Name: "flow.all", Min: 1, Max: -1, Has: "Pure Total Sugar", Make: newAll},
		{Name: "flow.twice", Min: 1, Max: 1, Has: "Pure Total Sorted Sugar", Signs: same, Make: newTwice},
	}
}

// emitted gives the value: whoever runs a program has emitted it before.
func emitted(args []api.Value) (api.Value, api.Errno, string) { return args[0], api.OK, "" }
