package guard_test

import (
	"fmt"
	"math"
	"reflect"
	"slices"
	"strings"
	"sync"
	"testing"

	"espalier/api"
	"espalier/guard"
)

func unit() api.Plain { return api.Plain{Kind: api.PUnit} }

func whole(n int64) api.Plain { return api.Plain{Kind: api.PInt, Num: n} }

func text(s string) api.Plain { return api.Plain{Kind: api.PText, Text: s} }

func items(ps ...api.Plain) api.Plain { return api.Plain{Kind: api.PList, List: ps} }

func yes() api.Plain { return api.Plain{Kind: api.PTruth, Num: 1} }

func no() api.Plain { return api.Plain{Kind: api.PTruth} }

// within puts a value into so many lists.
func within(p api.Plain, n int) api.Plain {
	for range n {
		p = items(p)
	}
	return p
}

// raised fails, unless an operation raises that text.
func raised(t *testing.T, want, op string, args ...api.Plain) {
	t.Helper()
	if v, e, said := guard.Work(op, args...); v != nil || e != api.ErrRaise || said != want {
		t.Errorf("P15.2: %s: %v, %d, %.40q, not %.40q", op, v, e, said, want)
	}
}

// refused fails, unless an operation is refused by that number.
func refused(t *testing.T, op string, want api.Errno, args ...api.Plain) {
	t.Helper()
	if v, e, said := guard.Work(op, args...); v != nil || e != want || said != "" {
		t.Errorf("P15.4: %.40q of %d values: %v, %d, %q, not %d", op, len(args), v, e, said, want)
	}
}

func texts() []string {
	return []string{"", "no", "x", "kind", " ", "a\nb", "\x00\xff", "é", strings.Repeat("x", 65535)}
}

func TestRaise(t *testing.T) {
	for _, s := range texts() {
		raised(t, s, "guard.raise", text(s))
	}
}

func TestCheck(t *testing.T) {
	for _, s := range texts() {
		raised(t, s, "guard.check", no(), text(s))
		if v, e, said := guard.Work("guard.check", yes(), text(s)); v != (api.Unit{}) || e != api.OK || said != "" {
			t.Errorf("P15.2: check of yes: %v, %d, %.40q", v, e, said)
		}
	}
}

func TestOtherSorts(t *testing.T) {
	others := []api.Plain{unit(), whole(0), whole(1), whole(math.MinInt64), items(), items(text("x")), items(yes())}
	for _, p := range append(others, yes(), no()) {
		refused(t, "guard.raise", api.ErrKind, p)
		refused(t, "guard.check", api.ErrKind, yes(), p)
		refused(t, "guard.check", api.ErrKind, no(), p)
	}
	for _, p := range append(others, text(""), text("x")) {
		refused(t, "guard.check", api.ErrKind, p, text("x"))
		refused(t, "guard.check", api.ErrKind, p, whole(1))
	}
}

// mayNot are plain values that may not be.
func mayNot() []api.Plain {
	ring := []api.Plain{{Kind: api.PList}, {Kind: api.PList}}
	ring[0].List, ring[1].List = ring, ring
	return []api.Plain{{}, {Kind: -1}, {Kind: 6}, {Kind: api.PTruth, Num: 2}, {Kind: api.PTruth, Num: -1}, {Kind: api.PInt, Num: 1, Text: "x"}, {Kind: api.PInt, List: make([]api.Plain, 1)}, {Kind: api.PUnit, Num: 1}, {Kind: api.PText, Num: 1}, {Kind: api.PList, Text: "x"}, text(strings.Repeat("x", 65536)), items(slices.Repeat([]api.Plain{whole(5)}, 65536)...), within(items(), 64), within(whole(5), 65), items(ring...), items(whole(5), api.Plain{})}
}

func TestNoOperation(t *testing.T) {
	for _, op := range []string{"", "raise", "guard", "guard.", ".raise", "guard.Raise", "guard.raise ", " guard.raise", "guard.try", "guard.catch", "guard.none", "base.text", "num.neg", strings.Repeat("guard.raise", 1<<17)} {
		for _, args := range [][]api.Plain{nil, {text("x")}, {yes(), text("x")}, {no(), text("x")}, {{}}, {{}, {}}, mayNot()} {
			refused(t, op, api.ErrArg, args...)
		}
	}
}

func TestOtherCounts(t *testing.T) {
	for op, right := range map[string]int{"guard.raise": 1, "guard.check": 2} {
		for _, n := range []int{0, 1, 2, 3, 17, 1 << 20} {
			if n != right {
				refused(t, op, api.ErrCount, slices.Repeat([]api.Plain{text("x")}, n)...)
				refused(t, op, api.ErrCount, make([]api.Plain, n)...)
			}
		}
	}
}

func TestValuesThatMayNotBe(t *testing.T) {
	for _, p := range mayNot() {
		refused(t, "guard.raise", api.ErrArg, p)
		refused(t, "guard.check", api.ErrArg, p, text("x"))
		refused(t, "guard.check", api.ErrArg, no(), p)
		refused(t, "guard.check", api.ErrArg, whole(1), p)
		refused(t, "guard.check", api.ErrArg, p, p)
	}
}

func TestNothingIsChanged(t *testing.T) {
	for _, args := range [][]api.Plain{{text("x")}, {no(), text("x")}, {items(yes(), text("x")), text("x")}} {
		room := append(make([]api.Plain, 0, 4), args...)
		before := fmt.Sprint(room[:4])
		for _, op := range []string{"guard.raise", "guard.check", "guard.try"} {
			_, _, _ = guard.Work(op, room...)
		}
		if got := fmt.Sprint(room[:4]); got != before {
			t.Errorf("P15.5: arguments are changed: %s, not %s", got, before)
		}
	}
	for _, k := range kinds() {
		hs := append(numbers(k.kids), nil)[:k.kids]
		before := slices.Clone(hs)
		n := made(t, k.leaf(), hs...).Node()
		if !reflect.DeepEqual(hs, before) || hs[:k.kids+1][k.kids] != nil {
			t.Errorf("P15.5: kids of %s are changed", k.name)
		}
		holds(t, k, n, k.leaf().Text, nodesOf(before)...)
	}
}

func TestSeveralGoroutines(t *testing.T) {
	k, hs := guard.Kit(), numbers(2)
	var all sync.WaitGroup
	for i := range 8 {
		all.Go(func() {
			said := fmt.Sprint("no", i)
			for range 100 {
				h, e := k.Make(api.Tree{Kind: "guard.catch", Text: said}, hs...)
				if e != nil || h.Node().(api.Lazy).Way() != "guard.catch" {
					t.Errorf("P15.1: at the same time: %v", e)
					continue
				}
				if name, kid := h.Node().(api.Binder).Binds(); name != said || kid != 1 {
					t.Errorf("P15.3: at the same time: %s, %d", name, kid)
				}
				raised(t, said, "guard.check", no(), text(said))
			}
		})
	}
	all.Wait()
}
