package set

import (
	"slices"

	"espalier/api"
	"espalier/tree"
)

// copied gives a plugin, which has been taken, that shares memory with nobody.
func copied(p api.Plugin) api.Plugin {
	p.Template, _ = tree.Copy(p.Template)
	p.Signature.Ins = sorts(p.Signature.Ins)
	p.Signature.Out.Of = sorts(p.Signature.Out.Of)
	p.Signature.Bound.Of = sorts(p.Signature.Bound.Of)
	p.Has = slices.Clone(p.Has)
	return p
}

func sorts(of []api.Sort) []api.Sort {
	var own []api.Sort
	for _, s := range of {
		own = append(own, api.Sort{Name: s.Name, Of: sorts(s.Of)})
	}
	return own
}
