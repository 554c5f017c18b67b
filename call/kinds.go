package call

import (
	"espalier/api"
	"espalier/craft"
	"espalier/part"
)

// to has no part beside the base: whether a call is quiet or sure, and which
// sorts it has, is a matter of the function, which no node knows.
type to struct{ part.Base }

func (t *to) Calls() string { return t.Text() }

// by is a Binder and, by what it embeds, a Caller: whoever evaluates it has the
// case of Binder ahead of Caller's in a type switch, so that it never calls.
type by struct{ to }

func (b *by) Binds() (string, int) { return b.Text(), 1 }

func newTo(b part.Base, _ part.Sorted) api.Node { return &to{b} }

func newBy(b part.Base, _ part.Sorted) api.Node { return &by{to{b}} }

// kinds is the kit.
func kinds() []craft.Kind {
	return []craft.Kind{
		{Name: "call.to", Max: -1, Text: api.TextName, Has: "Caller", Make: newTo},
		{Name: "call.by", Min: 2, Max: 2, Text: api.TextName, Has: "Binder Caller", Make: newBy},
	}
}
