package words

import (
	"espalier/api"
	"espalier/craft"
	"espalier/node"
	"espalier/part"
)

// base is what the kinds of this kit have in common: all are quiet.
type base struct {
	part.Base
	part.Pure
	part.Sorted
}

type strict struct{ base }

func (s *strict) Op() string { return s.Does() }

type sure struct{ strict }

func (*sure) Sure() bool { return true }

type all struct{ base }

func (a *all) Spelt() api.Node {
	if a.Len() == 0 {
		none, _ := node.Make(api.Tree{Kind: "base.text"})
		return none.Node()
	}
	n := a.Kid(0)
	for i := 1; i < a.Len(); i++ {
		n = newStrict(part.New(api.Tree{Kind: "words.join"}, n, a.Kid(i)), joined)
	}
	return n
}

// joined is the signature of words.join, in the table and where a node is spelt with it.
const joined = "text, text > text"

func newStrict(b part.Base, s part.Sorted) api.Node { return &strict{base{Base: b, Sorted: s}} }

func newSure(b part.Base, s part.Sorted) api.Node { return &sure{strict{base{Base: b, Sorted: s}}} }

func newAll(b part.Base, s part.Sorted) api.Node { return &all{base{Base: b, Sorted: s}} }

// kinds is the kit; an array, as it is made anew for each operation that is done.
func kinds() [9]craft.Kind {
	const does, always, spelt = "Strict Pure Sorted", "Strict Pure Total Sorted", "Pure Sorted Sugar"
	return [...]craft.Kind{
		{Name: "words.join", Min: 2, Max: 2, Has: does, Signs: joined, Make: newStrict, Does: join},
		{Name: "words.size", Min: 1, Max: 1, Has: always, Signs: "text > int", Make: newSure, Does: size},
		{Name: "words.cut", Min: 3, Max: 3, Has: does, Signs: "text, int, int > text", Make: newStrict, Does: cut},
		{Name: "words.find", Min: 2, Max: 2, Has: always, Signs: "text, text > int", Make: newSure, Does: find},
		{Name: "words.rep", Min: 2, Max: 2, Has: does, Signs: "text, int > text", Make: newStrict, Does: rep},
		{Name: "words.less", Min: 2, Max: 2, Has: always, Signs: "text, text > truth", Make: newSure, Does: less},
		{Name: "words.of", Min: 1, Max: 1, Has: always, Signs: "int > text", Make: newSure, Does: of},
		{Name: "words.num", Min: 1, Max: 1, Has: does, Signs: "text > int", Make: newStrict, Does: num},
		{Name: "words.all", Max: -1, Has: spelt, Signs: "text .. > text", Make: newAll},
	}
}
