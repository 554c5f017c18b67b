package list

import (
	"slices"

	"espalier/api"
)

// The operations are told values of the right sorts, as many as there must be.
// Each list that comes is new memory, as a value may be used again. Whether it
// may be is told by who calls them.

func items(args []api.Value, i int) api.List { return args[i].(api.List) }

func number(args []api.Value, i int) int64 { return int64(args[i].(api.Int)) }

func came(v api.Value) (api.Value, api.Errno, string) { return v, api.OK, "" }

func refused(e api.Errno) (api.Value, api.Errno, string) { return nil, e, "" }

func of(args []api.Value) (api.Value, api.Errno, string) {
	return came(api.List(slices.Clone(args)))
}

func size(args []api.Value) (api.Value, api.Errno, string) {
	return came(api.Int(len(items(args, 0))))
}

func at(args []api.Value) (api.Value, api.Errno, string) {
	l, i := items(args, 0), number(args, 1)
	if i < 0 || i >= int64(len(l)) {
		return refused(api.ErrBounds)
	}
	return came(l[i])
}

func join(args []api.Value) (api.Value, api.Errno, string) {
	return came(slices.Concat(items(args, 0), items(args, 1)))
}

func add(args []api.Value) (api.Value, api.Errno, string) {
	return came(slices.Concat(items(args, 0), args[1:]))
}

func cut(args []api.Value) (api.Value, api.Errno, string) {
	l, from, to := items(args, 0), number(args, 1), number(args, 2)
	if from < 0 || from > to || to > int64(len(l)) {
		return refused(api.ErrBounds)
	}
	return came(slices.Clone(l[from:to]))
}

func turn(args []api.Value) (api.Value, api.Errno, string) {
	l := slices.Clone(items(args, 0))
	slices.Reverse(l)
	return came(l)
}

// most is how many values a list has at most: its size is at least one more.
const most = api.MaxWorth - 1

func count(args []api.Value) (api.Value, api.Errno, string) {
	n := number(args, 0)
	switch {
	case n < 0:
		return refused(api.ErrBounds)
	case n > most:
		return refused(api.ErrLong)
	}
	l := make(api.List, n)
	for i := range l {
		l[i] = api.Int(i)
	}
	return came(l)
}
