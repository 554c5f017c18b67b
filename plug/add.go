package plug

import (
	"slices"
	"strconv"

	"espalier/api"
	"espalier/fault"
	"espalier/kit"
	"espalier/node"
	"espalier/part"
	"espalier/shape"
	"espalier/sign"
	"espalier/sort"
	"espalier/sorting"
	"espalier/tree"
)

// maxArity is how many kids a plugin's node has at most.
const maxArity = 16

// made gives the kit of a plugin. A panic comes of what a kit that was handed
// in has made: such a node is one that may not be.
func (s *Shelf) made(p api.Plugin) (k *kit.Kit, e error) {
	defer func() {
		if recover() != nil {
			k, e = nil, fault.New(api.ErrArg)
		}
	}()
	if p.Like != "" {
		return s.byLikeness(p)
	}
	return s.byTemplate(p)
}

// named is a node that gives one of another kind, which does the same.
type named interface{ Named(kind string) api.Node }

// byLikeness makes the nodes of a plugin of such that the other kind's kit
// makes. They are of the same types: whatever abilities a kit gives its nodes
// together, what is like them has just these.
func (s *Shelf) byLikeness(p api.Plugin) (*kit.Kit, error) {
	kind, like := p.Kind, p.Like
	as, ok := s.kitOf(like)
	if !ok {
		return nil, fault.New(api.ErrNone)
	}
	row, _ := as.Row(like)
	if !imitable(row.Abilities) || !alone(p) {
		return nil, fault.New(api.ErrArg)
	}
	row.Kind = kind
	return kitOfOne(row, func(t api.Tree, kids ...*node.Handle) *node.Handle {
		t.Kind = like
		h, _ := as.Make(t, kids...)
		if x, ok := h.Node().(named); ok {
			return node.Hold(x.Named(kind))
		}
		return nil
	})
}

// imitable tells whether a plugin may be like a kind whose nodes have these
// abilities.
func imitable(abilities []string) bool {
	for _, a := range abilities {
		switch a {
		case "Literal", "Strict", "Lazy":
			return true
		}
	}
	return slices.Contains(abilities, "Binder") && !slices.Contains(abilities, "Caller")
}

func (s *Shelf) byTemplate(p api.Plugin) (*kit.Kit, error) {
	if e := told(p); e != api.OK {
		return nil, fault.New(e)
	}
	if e := firstTree(p.Template, nil, s.unusable); e != nil {
		return nil, e
	}
	template, e := s.nodes(p.Template)
	if e != nil {
		return nil, e
	}
	if e := s.judged(p, template.Node()); e != nil {
		return nil, e
	}
	chosen, signs := typed(p.Has), written(p.Signature)
	row := api.Row{Kind: p.Kind, Min: p.Arity, Max: p.Arity, Abilities: p.Has}
	return kitOfOne(row, func(t api.Tree, kids ...*node.Handle) *node.Handle {
		nodes, _ := node.Nodes(kids)
		return node.Hold(chosen(bare{part.New(t, nodes...)}, signs, append(kids, template)))
	})
}

func kitOfOne(row api.Row, m kit.Maker) (*kit.Kit, error) {
	name, _, _ := sign.Kind(row.Kind)
	return kit.New(name, []api.Row{row}, m)
}

// alone tells whether a plugin tells nothing beside its likeness.
func alone(p api.Plugin) bool {
	t, g := p.Template, p.Signature
	return p.Arity == 0 && len(p.Has) == 0 &&
		t.Kind == "" && t.Num == 0 && t.Text == "" && len(t.Kids) == 0 &&
		len(g.Ins) == 0 && !g.Rest && nothing(g.Out) && nothing(g.Bound)
}

func nothing(s api.Sort) bool { return s.Name == "" && len(s.Of) == 0 }

// told tells what is amiss with what a plugin tells of itself, whatever kinds
// its template is of.
func told(p api.Plugin) api.Errno {
	g := p.Signature
	if p.Arity < 0 || p.Arity > maxArity || len(g.Ins) != p.Arity || g.Rest {
		return api.ErrCount
	}
	for _, x := range slices.Concat(g.Ins, []api.Sort{g.Out}) {
		if e := sort.May(x); e != api.OK {
			return e
		}
	}
	if !nothing(g.Bound) {
		return api.ErrSort
	}
	if !ordered(p.Has) {
		return api.ErrArg
	}
	return tree.May(p.Template)
}

// ordered tells whether a plugin with a template may have these abilities.
func ordered(has []string) bool {
	left := []string{"Pure", "Total", "Sorted", "Sugar"}
	for _, a := range has {
		i := slices.Index(left, a)
		if i < 0 {
			return false
		}
		left = left[i+1:]
	}
	return slices.Contains(has, "Pure") || !slices.Contains(has, "Total")
}

// unusable tells what is amiss with a node of a template.
func (s *Shelf) unusable(t api.Tree) api.Errno {
	row, ok := s.Row(t.Kind)
	if !ok {
		return api.ErrNone
	}
	if e := s.misfit(t); e != api.OK {
		return e
	}
	if slices.Contains(row.Abilities, "Caller") && !slices.Contains(row.Abilities, "Binder") {
		return api.ErrFit
	}
	return api.OK
}

// judged tells what is amiss with a template's nodes.
func (s *Shelf) judged(p api.Plugin, template api.Node) error {
	if e := unbound(template, nil, nil, numbers(p.Arity)); e != nil {
		return e
	}
	if !s.sorts(p.Signature, template) {
		return fault.New(api.ErrSort)
	}
	if slices.Contains(p.Has, "Pure") {
		if e := firstNode(template, nil, quietly); e != nil {
			return e
		}
	}
	if slices.Contains(p.Has, "Total") {
		return firstNode(template, nil, surely)
	}
	return nil
}

// sorts tells whether a template is of the sorts of a signature.
func (s *Shelf) sorts(signs api.Signature, template api.Node) bool {
	var in *sorting.Scope
	for i, given := range signs.Ins {
		x, _ := shape.Of(given)
		in = in.With(strconv.Itoa(i+1), x.Fixed())
	}
	sorter := sorting.New(s.plugin)
	got := sorter.Sort(template, in)
	out, _ := shape.Of(signs.Out)
	return len(sorter.Findings()) == 0 && sorter.Meet(got, out.Fixed())
}
