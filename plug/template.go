package plug

import (
	"strings"

	"espalier/api"
	"espalier/node"
	"espalier/part"
	"espalier/sort"
)

// bare is a node of a plugin with a template that has no abilities. Each type
// below is one above it with the part of one more ability.
type bare struct{ part.Base }

type pure struct {
	bare
	part.Pure
}

type total struct {
	bare
	part.Total
}

type sorted struct {
	bare
	part.Sorted
}

type pureSorted struct {
	pure
	part.Sorted
}

type totalSorted struct {
	total
	part.Sorted
}

type sugar struct {
	bare
	frame
}

type pureSugar struct {
	pure
	frame
}

type totalSugar struct {
	total
	frame
}

type sortedSugar struct {
	sorted
	frame
}

type pureSortedSugar struct {
	pureSorted
	frame
}

type totalSortedSugar struct {
	totalSorted
	frame
}

// frame is the part of nodes that stand for a template: their kids, and it.
type frame []*node.Handle

// Spelt gives the template in a frame of the kids.
func (f frame) Spelt() api.Node {
	h, _ := node.Make(api.Tree{Kind: "base.frame"}, f...)
	return h.Node()
}

// typed chooses the type of a plugin's nodes by what it has: it gives what
// makes one of its parts.
func typed(has []string) func(bare, part.Sorted, frame) api.Node {
	switch strings.Join(has, " ") {
	case "Pure":
		return func(b bare, _ part.Sorted, _ frame) api.Node { return &pure{bare: b} }
	case "Pure Total":
		return func(b bare, _ part.Sorted, _ frame) api.Node { return &total{bare: b} }
	case "Sorted":
		return func(b bare, s part.Sorted, _ frame) api.Node { return &sorted{b, s} }
	case "Pure Sorted":
		return func(b bare, s part.Sorted, _ frame) api.Node { return &pureSorted{pure{bare: b}, s} }
	case "Pure Total Sorted":
		return func(b bare, s part.Sorted, _ frame) api.Node { return &totalSorted{total{bare: b}, s} }
	case "Sugar":
		return func(b bare, _ part.Sorted, f frame) api.Node { return &sugar{b, f} }
	case "Pure Sugar":
		return func(b bare, _ part.Sorted, f frame) api.Node { return &pureSugar{pure{bare: b}, f} }
	case "Pure Total Sugar":
		return func(b bare, _ part.Sorted, f frame) api.Node { return &totalSugar{total{bare: b}, f} }
	case "Sorted Sugar":
		return func(b bare, s part.Sorted, f frame) api.Node { return &sortedSugar{sorted{b, s}, f} }
	case "Pure Sorted Sugar":
		return func(b bare, s part.Sorted, f frame) api.Node {
			return &pureSortedSugar{pureSorted{pure{bare: b}, s}, f}
		}
	case "Pure Total Sorted Sugar":
		return func(b bare, s part.Sorted, f frame) api.Node {
			return &totalSortedSugar{totalSorted{total{bare: b}, s}, f}
		}
	}
	return func(b bare, _ part.Sorted, _ frame) api.Node { return &b }
}

// written gives a signature without Rest and Bound as the part that tells it.
func written(signs api.Signature) part.Sorted {
	var ins []string
	for _, in := range signs.Ins {
		text, _ := sort.Text(in)
		ins = append(ins, text)
	}
	out, _ := sort.Text(signs.Out)
	return part.Sorted(strings.Join(ins, ", ") + " > " + out)
}
