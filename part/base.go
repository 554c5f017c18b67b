// Package part: what kinds' types are put together of: a base that each node has, and a part for an ability.
package part

import (
	"slices"

	"espalier/api"
)

// Base is what each kind's node has. It has no ability: a kind's type embeds
// it, and beside it a part, or has a method of its own, for each ability.
type Base struct {
	kind string
	num  int64
	text string
	kids []api.Node
}

// New gives a base with a tree's Kind, Num and Text; its Kids are not looked at.
func New(t api.Tree, kids ...api.Node) Base {
	return Base{t.Kind, t.Num, t.Text, slices.Clone(kids)}
}

// Kind tells the kind.
func (b *Base) Kind() string { return b.kind }

// Num tells the number.
func (b *Base) Num() int64 { return b.num }

// Text tells the text.
func (b *Base) Text() string { return b.text }

// Len tells how many kids there are.
func (b *Base) Len() int { return len(b.kids) }

// Kid tells a kid; nil: there is none.
func (b *Base) Kid(i int) api.Node {
	if i < 0 || i >= len(b.kids) {
		return nil
	}
	return b.kids[i]
}

// The parts have no base of their own: with two of them in one type the
// methods of a base would stand twice, and none would be promoted.

// Pure is the part of nodes that are quiet.
type Pure struct{}

// Quiet is true.
func (Pure) Quiet() bool { return true }

// Total is the part of nodes that are quiet and sure.
type Total struct{ Pure }

// Sure is true.
func (Total) Sure() bool { return true }
