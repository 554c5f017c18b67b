package node

import "espalier/api"

// measure is how great what was gone over is.
type measure struct{ nodes, letters int }

// plain gives the tree of a node that lies so deep, until it is known to be
// too great: nodes that are kids at many places would hardly end.
func (m *measure) plain(n api.Node, depth int) (api.Tree, bool) {
	m.nodes++
	m.letters += len(n.Text())
	if m.nodes+n.Len() > api.MaxNodes || depth > api.MaxDepth || m.letters > api.MaxLetters {
		return api.Tree{}, false
	}
	t := api.Tree{Kind: n.Kind(), Num: n.Num(), Text: n.Text()}
	if n.Len() > 0 {
		t.Kids = make([]api.Tree, n.Len())
	}
	for i := range t.Kids {
		kid, ok := m.plain(n.Kid(i), depth+1)
		if !ok {
			return api.Tree{}, false
		}
		t.Kids[i] = kid
	}
	return t, true
}
