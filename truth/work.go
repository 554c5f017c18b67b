package truth

import (
	"slices"

	"espalier/api"
)

// The operations are told values of the right sorts, as many as there must be.

func told(yes bool) (api.Value, api.Errno, string) { return api.Truth(yes), api.OK, "" }

func not(args []api.Value) (api.Value, api.Errno, string) {
	return told(!bool(args[0].(api.Truth)))
}

func same(args []api.Value) (api.Value, api.Errno, string) {
	return told(alike(args[0], args[1]))
}

// alike holds values against each other by their types, as == of the
// interfaces would panic at lists.
func alike(a, b api.Value) bool {
	switch x := a.(type) {
	case api.Unit:
		_, ok := b.(api.Unit)
		return ok
	case api.Truth:
		y, ok := b.(api.Truth)
		return ok && x == y
	case api.Int:
		y, ok := b.(api.Int)
		return ok && x == y
	case api.Text:
		y, ok := b.(api.Text)
		return ok && x == y
	case api.List:
		y, ok := b.(api.List)
		return ok && slices.EqualFunc(x, y, alike)
	}
	return false
}
