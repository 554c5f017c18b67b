package prog

import "espalier/api"

// root tells the root of a function's body, or of the main tree; nil: there is
// no such function.
func (p *Prog) root(name string) api.Node {
	p = p.told()
	if name == "" {
		return p.main.Node()
	}
	for _, f := range p.funs {
		if f.head.Name == name {
			return f.body.Node()
		}
	}
	return nil
}

// each tells all nodes, in the order of Places. The memory of a place's path is
// used again behind it.
func (p *Prog) each(tell func(api.Place, api.Node)) {
	p = p.told()
	for _, f := range p.funs {
		within(f.body.Node(), api.Place{Fun: f.head.Name}, tell)
	}
	within(p.main.Node(), api.Place{}, tell)
}

// within tells a node, which has that place, and all that is in it.
func within(n api.Node, at api.Place, tell func(api.Place, api.Node)) {
	tell(at, n)
	for i := range n.Len() {
		within(n.Kid(i), api.Place{Fun: at.Fun, Path: append(at.Path, i)}, tell)
	}
}

func core(n api.Node) api.Node {
	for {
		w, ok := n.(api.Wrapped)
		if !ok {
			return n
		}
		n = w.Inner()
	}
}

// origin tells where the first wrapper that knows it, from outside, came from;
// false: none of them does.
func origin(n api.Node) (api.Place, bool) {
	for {
		if o, ok := n.(api.Origin); ok {
			return o.From(), true
		}
		w, ok := n.(api.Wrapped)
		if !ok {
			return api.Place{}, false
		}
		n = w.Inner()
	}
}
