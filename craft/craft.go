// Package craft: what the program's kits have in common: their kinds in a table, the kit that is made of it, and the work of its operations.
package craft

import (
	"slices"
	"strings"

	"espalier/api"
	"espalier/kit"
	"espalier/node"
	"espalier/part"
	"espalier/worth"
)

// Operation is what a Strict kind does with its kids' values, which are as
// many as its row asks, and of the sorts that it tells: the value; or a
// fault's number and, of a raise, what was raised.
type Operation func(args []api.Value) (api.Value, api.Errno, string)

// Kind is a kind of a kit: what its row tells, its sorts, how its nodes are
// made, and, of a Strict one, what it does. One that Joins makes the list of
// all its values: whether that may be is asked of the plain ones, as any
// number of them, which may share lists, could be more than memory holds.
type Kind struct {
	Name     string
	Min, Max int
	Text     int
	Has      string
	Signs    part.Sorted
	Make     func(part.Base, part.Sorted) api.Node
	Does     Operation
	Joins    bool
}

// Kit gives the kit of a table of kinds.
func Kit(name string, kinds []Kind) *kit.Kit {
	kinds = slices.Clone(kinds)
	var rows []api.Row
	for _, k := range kinds {
		rows = append(rows, api.Row{Kind: k.Name, Min: k.Min, Max: k.Max, Text: k.Text, Abilities: strings.Fields(k.Has)})
	}
	made, _ := kit.New(name, rows, func(t api.Tree, kids ...*node.Handle) *node.Handle {
		k, _ := find(kinds, t.Kind)
		nodes, _ := node.Nodes(kids)
		m, signs := k.Make, k.Signs // All that each node keeps of its kind.
		return node.Hold(part.Make(part.New(t, nodes...), func(b part.Base) api.Node { return m(b, signs) }))
	})
	return made
}

func find(kinds []Kind, name string) (Kind, bool) {
	for _, k := range kinds {
		if k.Name == name {
			return k, true
		}
	}
	return Kind{}, false
}

// Work does the operation of a kind of a table on plain values.
func Work(kinds []Kind, op string, args ...api.Plain) (api.Value, api.Errno, string) {
	k, _ := find(kinds, op)
	if k.Does == nil {
		return nil, api.ErrArg, ""
	}
	if len(args) < k.Min || k.Max >= 0 && len(args) > k.Max {
		return nil, api.ErrCount, ""
	}
	if k.Joins {
		if _, e := worth.Join(args...); e != api.OK {
			return nil, e, ""
		}
	}
	values := make([]api.Value, len(args))
	for i, arg := range args {
		v, e := worth.Of(arg)
		if e != api.OK {
			return nil, e, ""
		}
		values[i] = v
	}
	return k.done(values)
}

// done does the operation. That a value which may not be is ErrLong holds for
// all kits: an operation need not tell it.
func (k Kind) done(values []api.Value) (api.Value, api.Errno, string) {
	if !part.Right(k.Signs, values...) {
		return nil, api.ErrKind, ""
	}
	v, e, said := k.Does(values)
	if e == api.OK && !may(v) {
		return nil, api.ErrLong, ""
	}
	return v, e, said
}
