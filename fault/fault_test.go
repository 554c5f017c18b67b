// The tests of P1.1 to P1.6, through the package's face alone.
package fault_test

import (
	"errors"
	"fmt"
	"math"
	"slices"
	"strings"
	"sync"
	"testing"

	"espalier/api"
	"espalier/fault"
)

func place(fun string, path ...int) api.Place { return api.Place{Fun: fun, Path: path} }

func samePlace(a, b api.Place) bool { return a.Fun == b.Fun && slices.Equal(a.Path, b.Path) }

// abilities tells which of the four an error has itself: C, L, R, K.
func abilities(e error) string {
	var s string
	if _, ok := e.(api.Coded); ok {
		s += "C"
	}
	if _, ok := e.(api.Located); ok {
		s += "L"
	}
	if _, ok := e.(api.Raised); ok {
		s += "R"
	}
	if _, ok := e.(api.Lacking); ok {
		s += "K"
	}
	return s
}

func wantCode(t *testing.T, e error, c api.Errno) {
	t.Helper()
	if got := e.(api.Coded).Code(); got != c {
		t.Errorf("P1.1: Code() of %v is %d, not %d", e, got, c)
	}
}

func wantWhere(t *testing.T, e error, p api.Place) {
	t.Helper()
	if got := e.(api.Located).Where(); !samePlace(got, p) {
		t.Errorf("P1.1: Where() of %v is %v, not %v", e, got, p)
	}
}

func wantAbilities(t *testing.T, e error, s string) {
	t.Helper()
	if got := abilities(e); got != s {
		t.Fatalf("P1.1: %v has %q, not %q", e, got, s)
	}
}

var numbers = []api.Errno{-1, 1, 2, 6, 10, 13, 22, 25, 33, 43, 1000, math.MaxInt64, math.MinInt64}

var places = []api.Place{
	{}, {Path: []int{}}, {Fun: "f"}, {Path: []int{0}}, place("f", 0, 1), place("a:b", -3, 1023),
	{Fun: "g", Path: make([]int, 100)}, {Path: []int{math.MaxInt, math.MinInt}},
}

func TestNew(t *testing.T) {
	for _, c := range numbers {
		e := fault.New(c)
		wantAbilities(t, e, "C")
		wantCode(t, e, c)
	}
	if e := fault.New(api.OK); e != nil {
		t.Errorf("P1.1: New(OK) is %v", e)
	}
}

func TestAt(t *testing.T) {
	for _, p := range places {
		for _, c := range numbers {
			e := fault.At(c, p)
			wantAbilities(t, e, "CL")
			wantCode(t, e, c)
			wantWhere(t, e, p)
		}
		if e := fault.At(api.OK, p); e != nil {
			t.Errorf("P1.1: At(OK, %v) is %v", p, e)
		}
	}
}

func TestRaise(t *testing.T) {
	for _, p := range places {
		for _, text := range []string{"", "no", "a: b", "\x00\xff\n", strings.Repeat("x", 1<<16)} {
			e := fault.Raise(p, text)
			wantAbilities(t, e, "CLR")
			wantCode(t, e, api.ErrRaise)
			wantWhere(t, e, p)
			if said := e.(api.Raised).Said(); said != text {
				t.Errorf("P1.1: Said() is %q, not %q", said, text)
			}
		}
	}
}

func TestLack(t *testing.T) {
	for _, p := range places {
		for _, w := range [][2]string{{"", ""}, {"a.b", "Strict"}, {"x.y", ""}, {"", "worth"}, {"\xff", " "}} {
			e := fault.Lack(p, w[0], w[1])
			wantAbilities(t, e, "CLK")
			wantCode(t, e, api.ErrLack)
			wantWhere(t, e, p)
			if kind, ability := e.(api.Lacking).Lacks(); kind != w[0] || ability != w[1] {
				t.Errorf("P1.1: Lacks() is %q, %q, not %q", kind, ability, w)
			}
		}
	}
}

// all gives one error of each sort, those of other packages too.
func all() []error {
	p := place("f", 0, 1)
	return []error{
		fault.New(api.ErrZero), fault.At(api.ErrZero, p), fault.Raise(p, "no"), fault.Lack(p, "a.b", "Strict"),
		fault.Wrap(fault.New(api.ErrZero), "in"), errors.New("other"), fmt.Errorf("f: %w", fault.New(api.ErrName)),
		errors.Join(fault.New(api.ErrZero)), list{fault.New(1)}, &nilError{}, (*nilError)(nil), rude{}, plainCode{code: 7},
	}
}

func TestWrap(t *testing.T) {
	for _, e := range all() {
		for _, note := range []string{"", "x", "a: b", "\xff"} {
			w := fault.Wrap(e, note)
			if s := abilities(w); s != "" {
				t.Errorf("P1.2: Wrap(%T) has %q", e, s)
			}
			u, ok := w.(interface{ Unwrap() error })
			if !ok {
				t.Fatalf("P1.2: Wrap(%T) has no Unwrap", e)
			}
			// By their addresses: some of them panic, held against each other by ==.
			if got := u.Unwrap(); fmt.Sprintf("%T %p", got, got) != fmt.Sprintf("%T %p", e, e) {
				t.Errorf("P1.2: Unwrap() of Wrap(%T) is a %T", e, got)
			}
			if n := fault.Notes(w); len(n) == 0 || n[0] != note {
				t.Errorf("P1.2: Notes(Wrap(%T, %q)) is %q", e, note, n)
			}
		}
	}
	if e := fault.Wrap(nil, "x"); e != nil {
		t.Errorf("P1.2: Wrap(nil) is %v", e)
	}
}

func TestWrapText(t *testing.T) {
	e := fault.Wrap(fault.Wrap(fault.At(api.ErrZero, place("f", 0, 1)), "x"), "y")
	for _, x := range []struct {
		e    error
		text string
	}{
		{e, "y: x: error 22 at f:0.1"},
		{fault.Wrap(e, ""), ": y: x: error 22 at f:0.1"},
		{fault.Wrap(errors.New("other"), "n"), "n: other"},
		{fault.Wrap(fmt.Errorf("outer (%w)", e), "n"), "n: outer (y: x: error 22 at f:0.1)"},
	} {
		if x.e.Error() != x.text {
			t.Errorf("P1.2: %q, not %q", x.e.Error(), x.text)
		}
	}
}

func TestNotes(t *testing.T) {
	inner := fault.Wrap(fault.Wrap(fault.New(1), "a"), "")
	for _, x := range []struct {
		e     error
		notes []string
	}{
		{nil, nil},
		{fault.New(1), nil},
		{errors.New("a: b"), nil},
		{inner, []string{"", "a"}},
		{fmt.Errorf("other: %w", inner), []string{"", "a"}},
		{fault.Wrap(fmt.Errorf("other: %w", around{inner}), "c"), []string{"c", "", "a"}},
		{fault.Wrap(errors.New("x"), "same"), []string{"same"}},
		{errors.Join(inner), nil}, // that is no Unwrap() error
		{fault.Wrap(errors.Join(inner), "j"), []string{"j"}},
	} {
		if got := fault.Notes(x.e); !slices.Equal(got, x.notes) {
			t.Errorf("P1.2: Notes(%v) is %q, not %q", x.e, got, x.notes)
		}
	}
	own := fault.Notes(inner)
	own[0] = "written over"
	own = append(own[:1], "behind")
	if got := fault.Notes(inner); !slices.Equal(got, []string{"", "a"}) {
		t.Errorf("P0.3: %q after %q was written", got, own)
	}
}

// noted lays n notes: n-1, .. 1, 0.
func noted(e error, n int) error {
	for i := range n {
		e = fault.Wrap(e, fmt.Sprint(i))
	}
	return e
}

func TestNotesFull(t *testing.T) {
	low := noted(fault.New(api.ErrZero), api.MaxNotes-1)
	full := fault.Wrap(low, "last")
	if n := fault.Notes(full); len(n) != api.MaxNotes || n[0] != "last" || n[1] != "62" || n[63] != "0" {
		t.Fatalf("P1.2: 64 notes are %q", n)
	}
	if more := fault.Wrap(full, "more"); more != full {
		t.Errorf("P1.2: the 65th note is laid: %v", more)
	}
	// Notes count across what other packages made.
	other := error(&other{"o", full})
	if more := fault.Wrap(other, "more"); more != other {
		t.Errorf("P1.2: the 65th note is laid around another package's error: %v", more)
	}
	split := noted(fmt.Errorf("%w", noted(fault.New(1), 40)), 30)
	if n := fault.Notes(split); len(n) != api.MaxNotes || n[0] != "23" || n[24] != "39" {
		t.Errorf("P1.2: 40 and 30 notes are %q", n)
	}
}

func TestText(t *testing.T) {
	for _, x := range []struct {
		e    error
		text string
	}{
		{fault.New(api.ErrZero), "error 22"},
		{fault.New(1), "error 1"},
		{fault.New(-7), "error -7"},
		{fault.New(math.MaxInt64), "error 9223372036854775807"},
		{fault.At(api.ErrZero, place("f", 0, 1)), "error 22 at f:0.1"},
		{fault.At(api.ErrZero, api.Place{}), "error 22 at -"},
		{fault.At(api.ErrZero, api.Place{Path: []int{}}), "error 22 at -"},
		{fault.At(api.ErrArg, place("f")), "error 1 at f:-"},
		{fault.At(api.ErrArg, place("", 5)), "error 1 at 5"},
		{fault.At(api.ErrArg, place("", 10, 0, 1023)), "error 1 at 10.0.1023"},
		{fault.At(api.ErrArg, place("g h", -1, math.MinInt)), "error 1 at g h:-1.-9223372036854775808"},
		{fault.Raise(place("f", 0, 1), "no"), "error 25 at f:0.1: no"},
		{fault.Raise(api.Place{}, ""), "error 25 at -: "},
		{fault.Raise(place("f"), "a: b\n\xff"), "error 25 at f:-: a: b\n\xff"},
		{fault.Lack(place("f", 0, 1), "a.b", "Strict"), "error 13 at f:0.1: a.b Strict"},
		{fault.Lack(api.Place{}, "", ""), "error 13 at -:  "},
		{fault.Lack(place("", 3), "a.b", ""), "error 13 at 3: a.b "},
	} {
		if x.e.Error() != x.text {
			t.Errorf("P1.3: %q, not %q", x.e.Error(), x.text)
		}
	}
}

func TestCode(t *testing.T) {
	for _, c := range numbers {
		for _, e := range []error{fault.New(c), fault.At(c, place("f", 1)), plainCode{code: c}} {
			for _, w := range []error{e, fault.Wrap(e, "x"), fmt.Errorf("x: %w", e), fault.Wrap(around{fault.Wrap(e, "x")}, "y")} {
				if got := fault.Code(w); got != c {
					t.Errorf("P1.4: Code(%v) is %d, not %d", w, got, c)
				}
			}
		}
	}
	for _, x := range []struct {
		e error
		c api.Errno
	}{
		{nil, api.OK},
		{fault.Raise(api.Place{}, "x"), api.ErrRaise},
		{fault.Lack(api.Place{}, "x", "y"), api.ErrLack},
		{errors.New("error 22"), api.ErrArg},
		{fault.Wrap(errors.New("x"), "y"), api.ErrArg},
		{plainCode{code: 5, within: fault.New(6)}, 5},
		{fault.Wrap(plainCode{code: 5, within: fault.At(6, place("f"))}, "x"), 5},
		{plainCode{code: api.OK, within: fault.New(6)}, api.OK},
		{errors.Join(fault.New(6)), api.ErrArg},
		{fault.Wrap(errors.Join(fault.New(6), fault.New(7)), "x"), api.ErrArg},
		{liar{fault.New(6)}, api.ErrArg}, // its As method tells of another one
		{list{fault.New(6)}, api.ErrArg},
	} {
		if got := fault.Code(x.e); got != x.c {
			t.Errorf("P1.4: Code(%v) is %d, not %d", x.e, got, x.c)
		}
	}
}

func TestPlaceOf(t *testing.T) {
	p, q := place("f", 0, 1), place("g", 2)
	for _, x := range []struct {
		e    error
		p    api.Place
		some bool
	}{
		{nil, api.Place{}, false},
		{fault.New(1), api.Place{}, false},
		{errors.New("x"), api.Place{}, false},
		{fault.Wrap(fault.New(1), "x"), api.Place{}, false},
		{errors.Join(fault.At(1, p)), api.Place{}, false},
		{liar{fault.At(1, p)}, api.Place{}, false},
		{fault.At(1, p), p, true},
		{fault.At(1, api.Place{}), api.Place{}, true},
		{fault.Raise(p, "x"), p, true},
		{fault.Lack(q, "x", "y"), q, true},
		{fault.Wrap(fault.Wrap(fault.At(1, p), "x"), "y"), p, true},
		{fmt.Errorf("%w", fault.Raise(q, "x")), q, true},
		{plainCode{code: 1, within: fault.At(2, p)}, p, true}, // Coded, not Located: go on
		{placed{plainCode{code: 1, within: fault.At(2, p)}, q}, q, true},
	} {
		got, some := fault.Place(x.e)
		if some != x.some || !samePlace(got, x.p) {
			t.Errorf("P1.4: Place(%v) is %v, %v, not %v, %v", x.e, got, some, x.p, x.some)
		}
	}
}

// unlike gives errors of which no two are the same.
func unlike() []error {
	p := place("f", 0, 1)
	return []error{
		nil,
		fault.New(1), fault.New(2), fault.New(api.ErrRaise), fault.New(api.ErrLack),
		fault.At(1, p), fault.At(2, p), fault.At(1, place("g", 0, 1)), fault.At(1, place("", 0, 1)),
		fault.At(1, place("f", 0)), fault.At(1, place("f", 0, 2)), fault.At(1, place("f", 1, 1)),
		fault.At(1, place("f", 0, 1, 0)), fault.At(1, place("f")), fault.At(1, api.Place{}),
		fault.At(1, place("f", 11)), fault.At(1, place("f", 1, 0)),
		fault.At(api.ErrRaise, p), fault.Raise(p, ""), fault.Raise(p, "x"), fault.Raise(place("f"), "x"),
		fault.At(api.ErrLack, p), fault.Lack(p, "", ""), fault.Lack(p, "a", "b"), fault.Lack(p, "b", "a"),
		fault.Lack(p, "a b", ""), fault.Lack(p, "a", ""), fault.Lack(place("g"), "a", "b"),
		both{placed{plainCode{code: api.ErrRaise}, p}, "x", "a", "b"},
		both{placed{plainCode{code: api.ErrLack}, p}, "x", "a", "b"},
		both{placed{plainCode{code: api.ErrLack}, p}, "y", "a", "b"},
		both{placed{plainCode{code: api.ErrLack}, p}, "x", "c", "b"},
		both{placed{plainCode{code: api.ErrLack}, p}, "x", "a", "c"},
	}
}

func TestSame(t *testing.T) {
	as, bs := unlike(), unlike()
	for i, a := range as {
		for j, b := range bs {
			wantSame(t, a, b, i == j)
		}
	}
	uncoded := []error{errors.New("x"), &other{"o", errors.New("x")}, list{}, errors.Join(fault.New(1)), liar{fault.New(1)}}
	for _, a := range uncoded {
		for _, b := range slices.Concat(uncoded, bs) {
			wantSame(t, a, b, false)
			wantSame(t, b, a, false)
		}
	}
}

// wantSame lays notes around both, too: they are left aside.
func wantSame(t *testing.T, a, b error, want bool) {
	t.Helper()
	for _, x := range []error{a, fault.Wrap(a, "n"), fault.Wrap(fault.Wrap(a, "n"), "m")} {
		for _, y := range []error{b, fault.Wrap(b, "o")} {
			if got := fault.Same(x, y); got != want {
				t.Errorf("P1.5: Same(%v, %v) is %v", x, y, got)
			}
		}
	}
}

func TestSameOthers(t *testing.T) {
	p := place("f", 0, 1)
	for _, x := range []struct {
		a, b error
		same bool
	}{
		{plainCode{code: 1}, fault.New(1), true},
		{plainCode{code: 2}, fault.New(1), false},
		{placed{plainCode{code: 1}, p}, fault.At(1, p), true},
		{placed{plainCode{code: 1}, p}, fault.New(1), false},
		{placed{plainCode{code: 1}, p}, fault.At(1, place("f", 0)), false},
		{fault.At(1, api.Place{}), fault.At(1, api.Place{Path: []int{}}), true},
		{fmt.Errorf("x: %w", fault.Raise(p, "x")), fault.Wrap(fault.Raise(p, "x"), "y"), true},
		// The first Coded one is held against the other, not one behind it.
		{plainCode{code: 1, within: fault.At(1, p)}, fault.New(1), true},
		{plainCode{code: 1, within: fault.At(1, p)}, fault.At(1, p), false},
		{plainCode{code: 1, within: fault.Raise(p, "x")}, plainCode{code: 1, within: errors.New("x")}, true},
		{plainCode{code: 1, within: fault.Lack(p, "a", "b")}, fault.New(1), true},
		{both{placed{plainCode{code: api.ErrRaise}, p}, "x", "a", "b"}, fault.Raise(p, "x"), false},
		{both{placed{plainCode{code: api.ErrLack}, p}, "x", "a", "b"}, fault.Lack(p, "a", "b"), false},
	} {
		if fault.Same(x.a, x.b) != x.same || fault.Same(x.b, x.a) != x.same {
			t.Errorf("P1.5: Same(%v, %v) is not %v", x.a, x.b, x.same)
		}
	}
}

func TestPlaceIsCopied(t *testing.T) {
	makers := []func(api.Place) error{
		func(p api.Place) error { return fault.At(1, p) },
		func(p api.Place) error { return fault.Raise(p, "x") },
		func(p api.Place) error { return fault.Lack(p, "x", "y") },
	}
	for _, m := range makers {
		room := []int{7, 8, 9}
		e := m(api.Place{Fun: "f", Path: room[:2]})
		room[0], room[1] = 1, 2
		a := e.(api.Located).Where()
		wantPath(t, a, 7, 8)
		a.Path[0] = 3
		_ = append(a.Path, 4)
		b, _ := fault.Place(e)
		wantPath(t, b, 7, 8)
		b.Path[1] = 5
		_ = append(b.Path, 6)
		c, _ := fault.Place(fault.Wrap(e, "n"))
		wantPath(t, c, 7, 8)
		if d := append(e.(api.Located).Where().Path, 1); d[2] != 1 || room[2] != 9 {
			t.Errorf("P1.6: spare room is shared: %v, %v", d, room)
		}
		if !strings.Contains(e.Error(), " at f:7.8") {
			t.Errorf("P1.6: %v", e)
		}
	}
}

func wantPath(t *testing.T, p api.Place, path ...int) {
	t.Helper()
	if !slices.Equal(p.Path, path) {
		t.Fatalf("P1.6: the path is %v, not %v", p.Path, path)
	}
}

func TestPlaceOfOthersIsCopied(t *testing.T) {
	kept := []int{1, 2, 3}
	e := placed{plainCode{code: 1}, api.Place{Path: kept[:2]}}
	p, _ := fault.Place(e)
	p.Path[0] = 9
	_ = append(p.Path, 9)
	if !slices.Equal(kept, []int{1, 2, 3}) {
		t.Errorf("P0.3: another package's path is now %v", kept)
	}
}

// deep lays n errors of another package around e.
func deep(e error, n int) error {
	for range n {
		e = &other{"o", e}
	}
	return e
}

func TestFarAlong(t *testing.T) {
	e := fault.At(api.ErrZero, place("f", 1))
	near, far := deep(e, 1023), deep(e, 1024)
	if c := fault.Code(near); c != api.ErrZero {
		t.Errorf("P1.6: the 1,024th error's Code is %d", c)
	}
	if c := fault.Code(far); c != api.ErrArg {
		t.Errorf("P1.6: the 1,025th error's Code is %d", c)
	}
	if p, ok := fault.Place(near); !ok || !samePlace(p, place("f", 1)) {
		t.Errorf("P1.6: the 1,024th error's Place is %v, %v", p, ok)
	}
	if p, ok := fault.Place(far); ok || !samePlace(p, api.Place{}) {
		t.Errorf("P1.6: the 1,025th error's Place is %v, %v", p, ok)
	}
	if !fault.Same(near, e) || fault.Same(far, e) || fault.Same(e, far) || fault.Same(far, far) {
		t.Error("P1.6: Same goes along 1,024 errors")
	}
}

func TestNotesFarAlong(t *testing.T) {
	full := noted(fault.New(1), api.MaxNotes)
	for n, want := range map[int]int{0: 64, 960: 64, 961: 63, 1023: 1, 1024: 0, 5000: 0} {
		e := deep(full, n)
		if got := len(fault.Notes(e)); got != want {
			t.Errorf("P1.6: %d notes behind %d errors, not %d", got, n, want)
		}
		w := fault.Wrap(e, "n")
		if laid := w != e; laid != (want < api.MaxNotes) {
			t.Errorf("P1.2: a note around %d: %v", want, laid)
		}
	}
}

func TestRing(t *testing.T) {
	ring := &other{text: "ring"}
	ring.within = ring
	if fault.Code(ring) != api.ErrArg || len(fault.Notes(ring)) != 0 || fault.Same(ring, ring) || fault.Same(ring, fault.New(1)) {
		t.Error("P1.6: an error that wraps itself")
	}
	if p, ok := fault.Place(ring); ok || !samePlace(p, api.Place{}) {
		t.Errorf("P1.6: the place of an error that wraps itself: %v", p)
	}
	w := fault.Wrap(ring, "n")
	if w.Error() != "n: ring" || len(fault.Notes(w)) != 1 || fault.Code(w) != api.ErrArg {
		t.Errorf("P1.6: a note around an error that wraps itself: %v", w)
	}
	twice := &other{text: "twice"}
	twice.within = fault.Wrap(twice, "again")
	if n := fault.Notes(twice); len(n) != 512 || n[0] != "again" {
		t.Errorf("P1.6: %d notes of 1,024 errors", len(n))
	}
	if fault.Wrap(twice, "n") != error(twice) {
		t.Error("P1.2: there are 64 notes and more")
	}
	coded := plainCode{code: 7, within: ring}
	if fault.Code(coded) != 7 || !fault.Same(coded, fault.New(7)) {
		t.Error("P1.6: a number ahead of an error that wraps itself")
	}
}

func TestSeveralAtATime(t *testing.T) {
	p := place("f", 1, 2)
	e := fault.Wrap(fmt.Errorf("o: %w", fault.Wrap(fault.Lack(p, "a.b", "worth"), "x")), "y")
	var w sync.WaitGroup
	for range 8 {
		w.Go(func() {
			for range 100 {
				q, ok := fault.Place(e)
				if !ok || !samePlace(q, p) || fault.Code(e) != api.ErrLack || !fault.Same(e, e) ||
					!slices.Equal(fault.Notes(e), []string{"y", "x"}) || e.Error() != "y: o: x: error 13 at f:1.2: a.b worth" {
					t.Error("P1.6: asked by several at a time")
					return
				}
				q.Path[0], q.Path[1] = 9, 9
			}
		})
	}
	w.Wait()
}

// TestRude: a panic within another package's methods is caught.
func TestRude(t *testing.T) {
	for _, e := range []error{rude{}, (*nilError)(nil), around{nil}, placed{}, around{(*nilError)(nil)}} {
		fault.Notes(e)
		fault.Code(e)
		fault.Place(e)
		fault.Same(e, e)
		fault.Same(e, fault.New(1))
		_ = fault.Wrap(e, "n").Error()
	}
	if c := fault.Code(rude{}); c != api.ErrArg {
		t.Errorf("P0.1: Code is %d where Code() panics", c)
	}
	if p, ok := fault.Place(rude{}); ok || !samePlace(p, api.Place{}) {
		t.Errorf("P0.1: Place is %v, %v where Where() panics", p, ok)
	}
	if fault.Same(rude{}, rude{}) {
		t.Error("P0.1: Same where Code() panics")
	}
	if s := fault.Wrap(rude{}, "n").Error(); s != "n: " {
		t.Errorf("P0.1: Error() is %q where what is within panics", s)
	}
}

// Errors of another package.

type other struct {
	text   string
	within error
}

func (o *other) Error() string { return o.text }
func (o *other) Unwrap() error { return o.within }

// around is one that embeds what it wraps.
type around struct{ error }

func (a around) Unwrap() error { return a.error }

// list is one that can't be held against another by ==.
type list []error

func (l list) Error() string   { return "list" }
func (l list) Unwrap() []error { return l }

// nilError is one whose nil pointer panics.
type nilError struct{ within error }

func (n *nilError) Error() string { return "nil" }
func (n *nilError) Unwrap() error { return n.within }

// rude is one that panics at each call.
type rude struct{}

func (rude) Error() string              { panic("Error") }
func (rude) Unwrap() error              { panic("Unwrap") }
func (rude) Code() api.Errno            { panic("Code") }
func (rude) Where() api.Place           { panic("Where") }
func (rude) Said() string               { panic("Said") }
func (rude) Lacks() (kind, able string) { panic("Lacks") }

// liar is one that says by As what it is not by its methods.
type liar struct{ of error }

func (l liar) Error() string { return "liar" }
func (l liar) As(t any) bool { return errors.As(l.of, t) }

// plainCode is Coded, and may wrap another one.
type plainCode struct {
	code   api.Errno
	within error
}

func (p plainCode) Error() string   { return "plain code" }
func (p plainCode) Unwrap() error   { return p.within }
func (p plainCode) Code() api.Errno { return p.code }

// placed is Located, and hands out what it keeps.
type placed struct {
	plainCode
	at api.Place
}

func (p placed) Where() api.Place { return p.at }

// both is Raised and Lacking.
type both struct {
	placed
	said, kind, ability string
}

func (b both) Said() string                  { return b.said }
func (b both) Lacks() (kind, ability string) { return b.kind, b.ability }
