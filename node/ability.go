package node

import "espalier/api"

// ability is one by its name: outer, if it is asked of a wrapper itself and
// not of its core; claim panics, if a node lacks it.
type ability struct {
	name  string
	outer bool
	claim func(api.Node)
}

// abilities has doc/00's order.
func abilities() []ability {
	return []ability{
		{"Literal", false, func(n api.Node) { _ = n.(api.Literal) }},
		{"Strict", false, func(n api.Node) { _ = n.(api.Strict) }},
		{"Lazy", false, func(n api.Node) { _ = n.(api.Lazy) }},
		{"Binder", false, func(n api.Node) { _ = n.(api.Binder) }},
		{"User", false, func(n api.Node) { _ = n.(api.User) }},
		{"Caller", false, func(n api.Node) { _ = n.(api.Caller) }},
		{"Pure", false, func(n api.Node) { _ = n.(api.Pure) }},
		{"Total", false, func(n api.Node) { _ = n.(api.Total) }},
		{"Sorted", false, func(n api.Node) { _ = n.(api.Sorted) }},
		{"Sugar", false, func(n api.Node) { _ = n.(api.Sugar) }},
		{"Framed", false, func(n api.Node) { _ = n.(api.Framed) }},
		{"Wrapped", true, func(n api.Node) { _ = n.(api.Wrapped) }},
		{"Origin", true, func(n api.Node) { _ = n.(api.Origin) }},
		{"Opaque", false, func(n api.Node) { _ = n.(api.Opaque) }},
	}
}

func abilityOf(name string) (ability, bool) {
	for _, a := range abilities() {
		if a.name == name {
			return a, true
		}
	}
	return ability{}, false
}

// holds tells whether a node has the ability: the panic of a claim that does
// not hold is the answer.
func (a ability) holds(n api.Node) (held bool) {
	defer func() { held = recover() == nil }()
	a.claim(n)
	return
}
