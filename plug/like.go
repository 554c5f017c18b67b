package plug

import (
	"slices"
	"strings"

	"espalier/api"
	"espalier/part"
)

// What tells an ability without being a node: with two of api's interfaces in
// one type a node's methods would stand twice, and none would be promoted.
type (
	worth interface{ Worth() api.Value }
	op    interface{ Op() string }
	way   interface{ Way() string }
	binds interface{ Binds() (string, int) }
	signs interface{ Signs() api.Signature }
	quiet interface{ Quiet() bool }
	sure  interface {
		quiet
		Sure() bool
	}
)

// like is what nodes by likeness have in common: what they are themselves, and
// the sorts of the node that they do as. Each type below is one above it with
// one more of that one's abilities.
type like struct {
	part.Base
	signs
}

type literal struct {
	like
	worth
}

type pureLiteral struct {
	literal
	quiet
}

type totalLiteral struct {
	literal
	sure
}

type strict struct {
	like
	op
}

type pureStrict struct {
	strict
	quiet
}

type totalStrict struct {
	strict
	sure
}

type lazy struct {
	like
	way
}

type pureLazy struct {
	lazy
	quiet
}

type totalLazy struct {
	lazy
	sure
}

type binder struct {
	like
	binds
}

type pureBinder struct {
	binder
	quiet
}

type totalBinder struct {
	binder
	sure
}

// each is a lazy one that binds.
type each struct {
	lazy
	binds
}

type pureEach struct {
	each
	quiet
}

type totalEach struct {
	each
	sure
}

// imitable tells whether nodes by likeness may do as those with these
// abilities. Such as no kit of the program has, without sorts or with others
// to be evaluated by than lazy ones that bind, are refused, too: there is no
// type for each of them.
func imitable(abilities []string) bool {
	does := slices.DeleteFunc(slices.Clone(abilities), func(a string) bool { return a == "Pure" || a == "Total" })
	switch strings.Join(does, " ") {
	case "Literal Sorted", "Strict Sorted", "Lazy Sorted", "Lazy Binder Sorted", "Binder Sorted":
		return true
	}
	return false
}

// alike gives the node that does as another one; its type is chosen by what
// that one can do.
func alike(b part.Base, as api.Node) api.Node {
	s, ok := as.(api.Sorted)
	if !ok {
		return nil
	}
	common := like{b, s}
	switch x := as.(type) {
	case api.Literal:
		return literally(literal{common, x}, as)
	case api.Strict:
		return strictly(strict{common, x}, as)
	case api.Lazy:
		if y, ok := as.(api.Binder); ok {
			return eachly(each{lazy{common, x}, y}, as)
		}
		return lazily(lazy{common, x}, as)
	case api.Binder:
		return bindingly(binder{common, x}, as)
	}
	return nil
}

func literally(l literal, as api.Node) api.Node {
	switch x := as.(type) {
	case api.Total:
		return &totalLiteral{l, x}
	case api.Pure:
		return &pureLiteral{l, x}
	}
	return &l
}

func strictly(s strict, as api.Node) api.Node {
	switch x := as.(type) {
	case api.Total:
		return &totalStrict{s, x}
	case api.Pure:
		return &pureStrict{s, x}
	}
	return &s
}

func lazily(l lazy, as api.Node) api.Node {
	switch x := as.(type) {
	case api.Total:
		return &totalLazy{l, x}
	case api.Pure:
		return &pureLazy{l, x}
	}
	return &l
}

func bindingly(b binder, as api.Node) api.Node {
	switch x := as.(type) {
	case api.Total:
		return &totalBinder{b, x}
	case api.Pure:
		return &pureBinder{b, x}
	}
	return &b
}

func eachly(e each, as api.Node) api.Node {
	switch x := as.(type) {
	case api.Total:
		return &totalEach{e, x}
	case api.Pure:
		return &pureEach{e, x}
	}
	return &e
}
