package set

import (
	"slices"

	"espalier/api"
	"espalier/bind"
	"espalier/call"
	"espalier/flow"
	"espalier/guard"
	"espalier/kit"
	"espalier/list"
	"espalier/num"
	"espalier/plug"
	"espalier/truth"
	"espalier/words"
)

// source is a kit of the program, and the work of its operations.
type source struct {
	kit  func() *kit.Kit
	work func(op string, args ...api.Plain) (api.Value, api.Errno, string)
}

// kitOf gives the kit of one of Names.
func kitOf(name string) source {
	switch name {
	case "num":
		return source{num.Kit, num.Work}
	case "truth":
		return source{truth.Kit, truth.Work}
	case "words":
		return source{words.Kit, words.Work}
	case "list":
		return source{list.Kit, list.Work}
	case "bind":
		return source{bind.Kit, bind.Work}
	case "call":
		return source{call.Kit, call.Work}
	case "flow":
		return source{flow.Kit, flow.Work}
	case "guard":
		return source{guard.Kit, guard.Work}
	}
	return source{}
}

// amiss tells what is amiss with names, of which each must be known, and be
// there once.
func amiss(names, known []string) api.Errno {
	for i, name := range names {
		if !slices.Contains(known, name) {
			return api.ErrNone
		}
		if slices.Contains(names[:i], name) {
			return api.ErrTwice
		}
	}
	return api.OK
}

// laid gives the set of kits, which are some of Names in their order, and of
// plugins; the list of the kits becomes its own.
func laid(names []string, ps []api.Plugin) (*Set, error) {
	var kits []*kit.Kit
	for _, name := range names {
		kits = append(kits, kitOf(name).kit())
	}
	shelf, e := plug.New(kits...)
	if e != nil {
		return nil, e
	}
	s := &Set{shelf: shelf, kits: names, can: map[string][]string{}}
	for _, p := range ps {
		if e := shelf.Add(p); e != nil {
			return nil, e
		}
		s.plugins = append(s.plugins, copied(p))
	}
	for _, kind := range shelf.Kinds() {
		s.can[kind] = abilities(sample(shelf, kind))
	}
	return s, nil
}

// told gives what a set tells of: one that no call answered is like one of no
// kits and no plugins.
func (s *Set) told() *Set {
	if s == nil || s.shelf == nil {
		s, _ = laid(nil, nil)
	}
	return s
}
