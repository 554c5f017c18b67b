package plug

import (
	"espalier/api"
	"espalier/fault"
	"espalier/kit"
	"espalier/node"
	"espalier/part"
	"espalier/sign"
)

// none tells whether it is a shelf that no call answered.
func (s *Shelf) none() bool { return s == nil || s.kits == nil }

// kitOf tells the kit that has a kind.
func (s *Shelf) kitOf(kind string) (*kit.Kit, bool) {
	if s.none() {
		return nil, false
	}
	if k, ok := s.plugins[kind]; ok {
		return k, true
	}
	name, _, _ := sign.Kind(kind)
	k := s.kits[name]
	if _, ok := k.Row(kind); !ok {
		return nil, false
	}
	return k, true
}

func (s *Shelf) plugin(kind string) bool {
	_, ok := s.plugins[kind]
	return ok
}

// takes tells what is amiss with a kind that is to come to the others.
func (s *Shelf) takes(kind string) api.Errno {
	name, _, ok := sign.Kind(kind)
	if !ok {
		return api.ErrName
	}
	if _, taken := s.kits[name]; taken || s.plugin(kind) {
		return api.ErrTwice
	}
	if len(s.plugins) >= api.MaxPlugins {
		return api.ErrLong
	}
	return api.OK
}

// misfit tells what is amiss with a node by its kind's row; nothing is asked
// of one of an unknown kind.
func (s *Shelf) misfit(t api.Tree) api.Errno {
	row, ok := s.Row(t.Kind)
	if !ok {
		return api.OK
	}
	return fault.Code(kit.Fits(row, t))
}

// nodes makes the nodes of a tree, in which each one fits.
func (s *Shelf) nodes(t api.Tree) (*node.Handle, error) {
	var kids []*node.Handle
	for _, kid := range t.Kids {
		h, e := s.nodes(kid)
		if e != nil {
			return nil, e
		}
		kids = append(kids, h)
	}
	return s.Make(t, kids...)
}

type opaque struct{ part.Base }

func (o *opaque) Lost() string {
	kit, _, _ := sign.Kind(o.Kind())
	return kit
}

// lost makes a node of an unknown kind.
func lost(t api.Tree, kids []*node.Handle) (*node.Handle, error) {
	if _, _, ok := sign.Kind(t.Kind); !ok {
		return nil, fault.New(api.ErrName)
	}
	nodes, ok := node.Nodes(kids)
	if !ok {
		return nil, fault.New(api.ErrArg)
	}
	// With one kid more it would have too many nodes to be in a tree.
	if len(kids) >= api.MaxNodes || len(t.Text) > api.MaxLetters {
		return nil, fault.New(api.ErrLong)
	}
	return node.Hold(&opaque{part.New(t, nodes...)}), nil
}
