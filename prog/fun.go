package prog

import (
	"slices"

	"espalier/api"
	"espalier/fault"
	"espalier/node"
	"espalier/set"
	"espalier/sign"
	"espalier/sort"
	"espalier/tree"
)

// maxNodes is how many nodes a program's trees may have together.
const maxNodes = 16384

// fun is a function; its head has no Body: the nodes are that.
type fun struct {
	head api.Fun
	body *node.Handle
}

func (f fun) plain() api.Fun {
	plain := headOf(f.head)
	plain.Body, _ = node.Plain(f.body)
	return plain
}

// headOf gives a function without its Body, in memory of its own.
func headOf(f api.Fun) api.Fun {
	head := api.Fun{Name: f.Name, Result: sortOf(f.Result)}
	for _, p := range f.Params {
		head.Params = append(head.Params, api.Param{Name: p.Name, Sort: sortOf(p.Sort)})
	}
	return head
}

// sortOf gives a sort in memory of its own.
func sortOf(s api.Sort) api.Sort {
	own, _ := sort.Apply(s)
	return own
}

// amiss tells what is amiss with a function, its Body aside.
func amiss(f api.Fun, ahead []api.Fun) api.Errno {
	named := func(g api.Fun) bool { return g.Name == f.Name }
	switch {
	case !sign.Name(f.Name):
		return api.ErrName
	case slices.ContainsFunc(ahead, named):
		return api.ErrTwice
	case len(f.Params) > api.MaxParams:
		return api.ErrLong
	}
	for i, p := range f.Params {
		if e := amissParam(p, f.Params[:i]); e != api.OK {
			return e
		}
	}
	return sort.May(f.Result)
}

func amissParam(p api.Param, ahead []api.Param) api.Errno {
	named := func(q api.Param) bool { return q.Name == p.Name }
	switch {
	case !sign.Name(p.Name):
		return api.ErrName
	case slices.ContainsFunc(ahead, named):
		return api.ErrTwice
	}
	return sort.May(p.Sort)
}

// nodes makes the nodes of a function's body, or of the main tree.
func nodes(s *set.Set, name string, t api.Tree) (*node.Handle, error) {
	root, e := s.Tree(t)
	if e != nil {
		at, _ := fault.Place(e)
		return nil, fault.At(fault.Code(e), api.Place{Fun: name, Path: at.Path})
	}
	return root, nil
}

// size tells how many nodes the trees have together, which all may be.
func size(p api.Program) int {
	all, _, _ := tree.Size(p.Main)
	for _, f := range p.Funs {
		nodes, _, _ := tree.Size(f.Body)
		all += nodes
	}
	return all
}

func same(a, b api.Program) bool {
	return slices.EqualFunc(a.Funs, b.Funs, sameFun) && tree.Same(a.Main, b.Main)
}

func sameFun(a, b api.Fun) bool {
	return a.Name == b.Name && slices.EqualFunc(a.Params, b.Params, sameParam) && sort.Same(a.Result, b.Result) && tree.Same(a.Body, b.Body)
}

func sameParam(a, b api.Param) bool { return a.Name == b.Name && sort.Same(a.Sort, b.Sort) }
