package node

import (
	"slices"

	"espalier/api"
)

// cover embeds the core as a bare Node, so that a Node's methods are promoted
// and no ability is, and no call goes along all the wrappers between.
type cover struct {
	api.Node
	inner api.Node
}

func (c *cover) Inner() api.Node { return c.inner }

type origin struct {
	cover
	from api.Place
}

func (o *origin) From() api.Place { return copied(o.from) }

func copied(p api.Place) api.Place {
	return api.Place{Fun: p.Fun, Path: slices.Clone(p.Path)}
}

func coreOf(n api.Node) api.Node {
	for {
		switch w := n.(type) {
		case api.Wrapped:
			n = w.Inner()
		default:
			return n
		}
	}
}

// placeOf tells where the first wrapper that knows it, from outside, came from.
func placeOf(n api.Node) api.Place {
	for {
		switch w := n.(type) {
		case api.Origin:
			return w.From()
		case api.Wrapped:
			n = w.Inner()
		default:
			return api.Place{}
		}
	}
}
