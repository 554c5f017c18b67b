// The table of abilities against nodes of which each has one ability: no kit can make them all yet.
package kit

import (
	"testing"

	"espalier/api"
)

type (
	bare    struct{ api.Node }
	literal struct{ bare }
	strict  struct{ bare }
	lazy    struct{ bare }
	binder  struct{ bare }
	user    struct{ bare }
	caller  struct{ bare }
	pure    struct{ bare }
	total   struct{ pure }
	sorted  struct{ bare }
	sugar   struct{ bare }
	framed  struct{ bare }
	wrapped struct{ bare }
	origin  struct{ wrapped }
	opaque  struct{ bare }
)

func (literal) Worth() api.Value    { return nil }
func (strict) Op() string           { return "" }
func (lazy) Way() string            { return "" }
func (binder) Binds() (string, int) { return "", 0 }
func (user) Uses() string           { return "" }
func (caller) Calls() string        { return "" }
func (pure) Quiet() bool            { return false }
func (total) Sure() bool            { return false }
func (sorted) Signs() api.Signature { return api.Signature{} }
func (sugar) Spelt() api.Node       { return nil }
func (framed) Frames() int          { return 0 }
func (wrapped) Inner() api.Node     { return nil }
func (origin) From() (p api.Place)  { return }
func (opaque) Lost() string         { return "" }

func TestEachAbility(t *testing.T) {
	for _, c := range []struct {
		n    api.Node
		has  []string
		less string
	}{
		{bare{}, nil, ""},
		{literal{}, []string{"Literal"}, "Literal"}, {strict{}, []string{"Strict"}, "Strict"}, {lazy{}, []string{"Lazy"}, "Lazy"}, {binder{}, []string{"Binder"}, "Binder"},
		{user{}, []string{"User"}, "User"}, {caller{}, []string{"Caller"}, "Caller"}, {pure{}, []string{"Pure"}, "Pure"}, {total{}, []string{"Pure", "Total"}, "Pure"},
		{sorted{}, []string{"Sorted"}, "Sorted"}, {sugar{}, []string{"Sugar"}, "Sugar"}, {framed{}, []string{"Framed"}, "Framed"},
		{wrapped{}, []string{"Wrapped"}, "Wrapped"}, {origin{}, []string{"Wrapped", "Origin"}, "Wrapped"}, {opaque{}, []string{"Opaque"}, "Opaque"},
	} {
		if a, ok := odd(c.n, c.has); ok || a != "" {
			t.Errorf("P7.5: %v: odd in %s", c.has, a)
		}
		if a, ok := odd(c.n, nil); a != c.less || ok != (c.less != "") {
			t.Errorf("P7.5: %v: odd in %s, not %s", c.has, a, c.less)
		}
		if len(c.has) == 2 {
			if a, ok := odd(c.n, c.has[:1]); a != c.has[1] || !ok {
				t.Errorf("P7.5: %v: odd in %s, not %s", c.has, a, c.has[1])
			}
		}
	}
}
