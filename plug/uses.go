package plug

import (
	"slices"
	"strconv"

	"espalier/api"
	"espalier/fault"
)

// numbers are the texts by which a frame's variables are used.
func numbers(n int) []string {
	var texts []string
	for i := range n {
		texts = append(texts, strconv.Itoa(i+1))
	}
	return texts
}

// unbound tells, with its place, of the first use that is neither bound around
// nor given. What is given may be used wherever it is free, also where a frame
// lets nothing that is bound around it through: sorting tells of that.
func unbound(n api.Node, path []int, bound, given []string) error {
	if x, ok := n.(api.User); ok {
		if use := x.Uses(); !slices.Contains(bound, use) && !slices.Contains(given, use) {
			return fault.At(api.ErrName, api.Place{Path: path})
		}
	}
	for i := range n.Len() {
		if e := unbound(n.Kid(i), append(path, i), within(n, i, bound), given); e != nil {
			return e
		}
	}
	return nil
}

// within tells what is bound in a kid.
func within(n api.Node, kid int, bound []string) []string {
	if x, ok := n.(api.Framed); ok && kid == n.Len()-1 {
		bound = numbers(x.Frames())
	}
	if x, ok := n.(api.Binder); ok {
		if name, where := x.Binds(); where == kid {
			return slices.Concat(bound, []string{name})
		}
	}
	return bound
}
