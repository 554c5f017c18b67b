package node

import (
	"strings"

	"espalier/api"
	"espalier/part"
	"espalier/sign"
)

type literal struct {
	part.Base
	part.Total
	worth api.Value
}

func (l *literal) Worth() api.Value { return l.worth }

func (l *literal) Signs() api.Signature {
	return api.Signature{Out: api.Sort{Name: l.worth.Sort()}}
}

type variable struct {
	part.Base
	part.Pure
}

func (v *variable) Uses() string { return v.Text() }

type frame struct {
	part.Base
	part.Total
}

func (f *frame) Frames() int { return f.Len() - 1 }

// kind is a row of the kit base, and how its nodes are made.
type kind struct {
	name     string
	min, max int
	num      bool
	text     int
	has      string
	make     func(part.Base) api.Node
}

// kinds is the kit base.
func kinds() []kind {
	const value = "Literal Pure Total Sorted"
	of := func(b part.Base, v api.Value) api.Node { return &literal{Base: b, worth: v} }
	return []kind{
		{name: "base.unit", has: value, make: func(b part.Base) api.Node { return of(b, api.Unit{}) }},
		{name: "base.yes", has: value, make: func(b part.Base) api.Node { return of(b, api.Truth(true)) }},
		{name: "base.no", has: value, make: func(b part.Base) api.Node { return of(b, api.Truth(false)) }},
		{name: "base.int", num: true, has: value, make: func(b part.Base) api.Node { return of(b, api.Int(b.Num())) }},
		{name: "base.text", text: api.TextAny, has: value, make: func(b part.Base) api.Node { return of(b, api.Text(b.Text())) }},
		{name: "base.var", text: api.TextUse, has: "User Pure", make: func(b part.Base) api.Node { return &variable{Base: b} }},
		{name: "base.frame", min: 1, max: api.MaxFrame + 1, has: "Pure Total Framed", make: func(b part.Base) api.Node { return &frame{Base: b} }},
	}
}

func kindOf(name string) (kind, bool) {
	for _, k := range kinds() {
		if k.name == name {
			return k, true
		}
	}
	return kind{}, false
}

func (k kind) row() api.Row {
	return api.Row{Kind: k.name, Min: k.min, Max: k.max, Num: k.num, Text: k.text, Abilities: strings.Fields(k.has)}
}

// fits tells what is amiss with a node of that kind and so many kids.
func (k kind) fits(t api.Tree, kids int) api.Errno {
	switch {
	case kids < k.min || kids > k.max:
		return api.ErrCount
	case len(t.Text) > api.MaxLetters:
		return api.ErrLong
	case t.Num != 0 && !k.num, !k.takes(t.Text):
		return api.ErrFit
	}
	return api.OK
}

func (k kind) takes(text string) bool {
	switch k.text {
	case api.TextAny:
		return true
	case api.TextUse:
		return sign.Use(text)
	}
	return text == ""
}
