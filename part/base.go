// Package part: what kinds' types are put together of: a base that each node has, and a part for an ability.
package part

import (
	"slices"

	"espalier/api"
)

// Base is what each kind's node has. It has no ability: a kind's type embeds
// it, and beside it a part, or has a method of its own, for each ability.
type Base struct {
	kind string
	does string
	num  int64
	text string
	kids []api.Node
	make func(Base) api.Node
}

// New gives a base with a tree's Kind, Num and Text; its Kids are not looked at.
func New(t api.Tree, kids ...api.Node) Base {
	return Base{kind: t.Kind, does: t.Kind, num: t.Num, text: t.Text, kids: slices.Clone(kids)}
}

// Make gives the node that a function makes of a base, and makes again where
// the node is Named.
func Make(b Base, m func(Base) api.Node) api.Node {
	b.make = m
	return m(b)
}

// Named gives a node of another kind that does the same. It is of the same
// type, so it has just the same abilities. nil: the node was not made by Make.
func (b *Base) Named(kind string) api.Node {
	if b.make == nil {
		return nil
	}
	other := *b
	other.kind = kind
	return b.make(other)
}

// Kind tells the kind.
func (b *Base) Kind() string { return b.kind }

// Does tells the kind whose chapter says what the node does: its own, but of one
// that was Named. What a node tells by its abilities hangs on this one.
func (b *Base) Does() string { return b.does }

// Num tells the number.
func (b *Base) Num() int64 { return b.num }

// Text tells the text.
func (b *Base) Text() string { return b.text }

// Len tells how many kids there are.
func (b *Base) Len() int { return len(b.kids) }

// Kid tells a kid; nil: there is none.
func (b *Base) Kid(i int) api.Node {
	if i < 0 || i >= len(b.kids) {
		return nil
	}
	return b.kids[i]
}

// The parts have no base of their own: with two of them in one type the
// methods of a base would stand twice, and none would be promoted.

// Pure is the part of nodes that are quiet.
type Pure struct{}

// Quiet is true.
func (Pure) Quiet() bool { return true }

// Total is the part of nodes that are quiet and sure.
type Total struct{ Pure }

// Sure is true.
func (Total) Sure() bool { return true }
