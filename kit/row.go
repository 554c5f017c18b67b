package kit

import (
	"slices"

	"espalier/api"
	"espalier/sign"
)

// maxKids: a tree of as many nodes as there may be has one that is no kid.
const maxKids = api.MaxNodes - 1

func may(r api.Row) api.Errno {
	_, _, named := sign.Kind(r.Kind)
	switch {
	case !named:
		return api.ErrName
	case r.Min < 0, r.Max != -1 && (r.Max < r.Min || r.Max > maxKids):
		return api.ErrCount
	case r.Text < api.TextNone || r.Text > api.TextUse, r.Text == api.TextNames && r.Min == 0:
		return api.ErrArg
	case !ordered(r.Abilities):
		return api.ErrArg
	}
	return api.OK
}

// fits tells what is amiss with a node of so many kids by a row that may be.
func fits(r api.Row, t api.Tree, kids int) api.Errno {
	switch {
	case t.Kind != r.Kind:
		return api.ErrName
	case kids < r.Min, r.Max != -1 && kids > r.Max:
		return api.ErrCount
	case len(t.Text) > api.MaxLetters:
		return api.ErrLong
	case t.Num != 0 && !r.Num, !takes(r.Text, t.Text, kids):
		return api.ErrFit
	}
	return api.OK
}

// takes tells whether a text is as a row's Text asks of a node of so many kids.
func takes(asked int, text string, kids int) bool {
	switch asked {
	case api.TextAny:
		return true
	case api.TextName:
		return sign.Name(text)
	case api.TextNames:
		names, ok := sign.Names(text)
		return ok && len(names) == kids-1
	case api.TextUse:
		return sign.Use(text)
	}
	return text == ""
}

// copied gives a row whose list is shared with nobody.
func copied(r api.Row) api.Row {
	r.Abilities = slices.Clone(r.Abilities)
	return r
}
