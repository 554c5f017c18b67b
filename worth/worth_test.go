// The tests of P2.1 to P2.8, through the package's face alone.
package worth_test

import (
	"fmt"
	"math"
	"strings"
	"sync"
	"testing"

	"espalier/api"
	"espalier/worth"
)

func unit() api.Plain                { return api.Plain{Kind: api.PUnit} }
func yes() api.Plain                 { return api.Plain{Kind: api.PTruth, Num: 1} }
func no() api.Plain                  { return api.Plain{Kind: api.PTruth} }
func num(n int64) api.Plain          { return api.Plain{Kind: api.PInt, Num: n} }
func text(s string) api.Plain        { return api.Plain{Kind: api.PText, Text: s} }
func list(ps ...api.Plain) api.Plain { return api.Plain{Kind: api.PList, List: ps} }

// nested lays n lists around p.
func nested(p api.Plain, n int) api.Plain {
	for range n {
		p = list(p)
	}
	return p
}

// many gives a list of n items, all the same one.
func many(p api.Plain, n int) api.Plain {
	l := make([]api.Plain, n)
	for i := range l {
		l[i] = p
	}
	return list(l...)
}

// shared gives a list of n deep, each of which holds the next one w times.
func shared(n, w int) api.Plain {
	p := list()
	for range n - 1 {
		p = many(p, w)
	}
	return p
}

// ring gives a list that holds itself w times.
func ring(w int) api.Plain {
	l := make([]api.Plain, w)
	for i := range l {
		l[i] = list(l...)
	}
	return list(l...)
}

// mayNot gives plain values that may not be.
func mayNot() map[string]api.Plain {
	some := []api.Plain{unit()}
	return map[string]api.Plain{
		"nothing": {}, "kind -1": {Kind: -1}, "kind 6": {Kind: 6}, "a huge kind": {Kind: math.MaxInt}, "kind 0 with all": {Num: 1, Text: "x", List: some},
		"unit with a Num": {Kind: api.PUnit, Num: 1}, "unit with a Text": {Kind: api.PUnit, Text: "x"}, "unit with a List": {Kind: api.PUnit, List: some},
		"truth 2": {Kind: api.PTruth, Num: 2}, "truth -1": {Kind: api.PTruth, Num: -1}, "truth 2^32": {Kind: api.PTruth, Num: 1 << 32},
		"truth with a Text": {Kind: api.PTruth, Num: 1, Text: "x"}, "truth with a List": {Kind: api.PTruth, List: some},
		"int with a Text": {Kind: api.PInt, Num: 1, Text: "x"}, "int with a List": {Kind: api.PInt, List: some},
		"text with a Num": {Kind: api.PText, Num: 1, Text: "x"}, "text with a List": {Kind: api.PText, Text: "x", List: some},
		"list with a Num": {Kind: api.PList, Num: 1, List: some}, "list with a Text": {Kind: api.PList, Text: "x", List: some},
		"nothing in a list": list(api.Plain{}), "nothing at a list's end": list(unit(), list(num(1), text("x")), list(list(api.Plain{Kind: 7}))),
		"a nil list within unit's": {Kind: api.PUnit, List: []api.Plain{{}}},
		"65 deep":                  nested(list(), 64), "unit in 65 lists": nested(unit(), 65), "65 deep at the end": list(unit(), nested(unit(), 64)), "300 deep": nested(unit(), 300),
		"a text too long": text(strings.Repeat("x", api.MaxWorth)), "a text far too long": text(strings.Repeat("x", 1<<22)),
		"a list too long": many(unit(), api.MaxWorth), "a list far too long": many(api.Plain{}, 1<<20), "texts too long": many(text(strings.Repeat("x", 255)), 256),
		"too great by one": list(text(strings.Repeat("x", 65534)), unit()), "too great by an empty list": list(text(strings.Repeat("x", 65534)), list()),
		"shared": shared(60, 3), "shared, far too wide": shared(4, 5000), "a ring": ring(1), "a wide ring": ring(7), "a very wide ring": ring(1000),
	}
}

// mayBe gives plain values that may be, with their sizes.
func mayBe() map[string]struct {
	p    api.Plain
	size int
} {
	return map[string]struct {
		p    api.Plain
		size int
	}{
		"unit": {unit(), 1}, "unit with an empty List": {api.Plain{Kind: api.PUnit, List: []api.Plain{}}, 1},
		"yes": {yes(), 1}, "no": {no(), 1}, "no with an empty List": {api.Plain{Kind: api.PTruth, List: make([]api.Plain, 0, 4)}, 1},
		"0": {num(0), 1}, "the least int": {num(math.MinInt64), 1}, "the greatest int": {num(math.MaxInt64), 1},
		"an empty text": {text(""), 1}, "ab": {text("ab"), 3}, "bytes": {text("\x00\xff\xc3"), 4}, "letters": {text("äß"), 5},
		"an empty list": {list(), 1}, "a list": {list(num(1), text("ab"), list()), 6}, "lists": {list(list(unit(), yes()), list(list())), 6},
		"64 deep": {nested(list(), 63), 64}, "unit in 64 lists": {nested(unit(), 64), 65}, "64 deep twice": {list(nested(list(), 62), nested(unit(), 63)), 128},
		"a text as long as may be": {text(strings.Repeat("x", 65535)), 65536}, "a list as long as may be": {many(unit(), 65535), 65536},
		"as great as may be": {list(text(strings.Repeat("x", 65533)), list()), 65536}, "texts as long as may be": {many(text(strings.Repeat("x", 254)), 257), 65536},
		"shared": {shared(11, 2), 2047}, "shared and as great as may be": {list(shared(15, 2), many(no(), 32765), list(unit())), 65536},
	}
}

func TestMay(t *testing.T) {
	for name, p := range mayNot() {
		if worth.May(p) {
			t.Errorf("P2.1: %s may be", name)
		}
	}
	for name, x := range mayBe() {
		if !worth.May(x.p) {
			t.Errorf("P2.1: %s may not be", name)
		}
	}
}

// stands tells whether a value is the one that a plain one stands for, and of just the five types.
func stands(v api.Value, p api.Plain) bool {
	switch x := v.(type) {
	case api.Unit:
		return p.Kind == api.PUnit
	case api.Truth:
		return p.Kind == api.PTruth && bool(x) == (p.Num == 1)
	case api.Int:
		return p.Kind == api.PInt && int64(x) == p.Num
	case api.Text:
		return p.Kind == api.PText && string(x) == p.Text
	case api.List:
		if p.Kind != api.PList || len(x) != len(p.List) {
			return false
		}
		for i := range x {
			if !stands(x[i], p.List[i]) {
				return false
			}
		}
		return true
	}
	return false
}

func TestOf(t *testing.T) {
	for name, p := range mayNot() {
		if v, e := worth.Of(p); v != nil || e != api.ErrArg {
			t.Errorf("P2.2: Of(%s) is a %T, %d", name, v, e)
		}
	}
	for name, x := range mayBe() {
		if v, e := worth.Of(x.p); !stands(v, x.p) || e != api.OK {
			t.Errorf("P2.2: Of(%s) is a %T, %d", name, v, e)
		}
	}
}

// scribble writes into all lists of a value, and behind them.
func scribble(v api.Value) {
	l, ok := v.(api.List)
	if !ok {
		return
	}
	for _, item := range l {
		scribble(item)
	}
	for i := range l {
		l[i] = api.Int(-77)
	}
	for i := range l[len(l):cap(l)] {
		l[len(l):cap(l)][i] = api.Int(-78)
	}
}

func TestOfIsNewMemory(t *testing.T) {
	one := list(num(1), list(num(2), list()), list(num(2), list()))
	one.List[2] = one.List[1]
	give := map[string]func() api.Value{
		"Of":   func() api.Value { v, _ := worth.Of(one); return v },
		"Join": func() api.Value { v, _ := worth.Join(one.List...); return v },
		"Read": func() api.Value { v, _, _ := worth.Read("[1, [2, []], [2, []]]"); return v },
	}
	for name, f := range give {
		a, b := f(), f()
		scribble(a)
		if !stands(b, one) {
			t.Errorf("P0.3: two answers of %s share memory: %v", name, b)
		}
		// No two lists of one answer share memory.
		l := b.(api.List)
		scribble(l[1])
		if !stands(l[2], one.List[2]) || !stands(l[0], one.List[0]) {
			t.Errorf("P0.3: two lists of an answer of %s share memory: %v", name, l)
		}
		if !stands(f(), one) {
			t.Errorf("P2.8: %s hangs on what was done before", name)
		}
	}
}

// inOrder gives plain values of which each is ahead of the next one; those of the last row may not be.
func inOrder() []api.Plain {
	return []api.Plain{
		unit(), no(), yes(),
		num(math.MinInt64), num(-256), num(-2), num(-1), num(0), num(1), num(9), num(10), num(255), num(1 << 32), num(math.MaxInt64),
		text(""), text("\x00"), text("\x00\x00"), text(" "), text("10"), text("9"), text("B"), text("a"), text("a\x00"), text("aa"), text("ab"), text("b"), text("\x7f"), text("\x80"), text("\xc3\xa4"), text("\xff"), text("\xff\xff"),
		list(), list(unit()), list(unit(), unit()), list(unit(), list()), list(no()), list(yes()), list(num(-1)), list(num(1)), list(num(1), num(0)), list(num(1), num(9)), list(num(1), text("")), list(num(2)), list(num(10)),
		list(text("")), list(text("a"), text("b")), list(text("ab")), list(list()), list(list(), list()), list(list(unit())), list(list(num(1)), num(5)), list(list(num(1), num(0)), num(1)), list(list(list())), many(list(list()), 60), nested(unit(), 64),
	}
}

func TestCompare(t *testing.T) {
	l := inOrder()
	for i, a := range l {
		for k, b := range inOrder() {
			want := 0
			if i < k {
				want = -1
			} else if i > k {
				want = 1
			}
			if got := worth.Compare(a, b); got != want {
				t.Errorf("P2.3: Compare(%v, %v) is %d, not %d", a, b, got, want)
			}
			if got := worth.Same(a, b); got != (i == k) {
				t.Errorf("P2.3: Same(%v, %v) is %v", a, b, got)
			}
		}
	}
}

func TestCompareMayNot(t *testing.T) {
	wrong := mayNot()
	for name, p := range wrong {
		for other, q := range wrong {
			if c := worth.Compare(p, q); c != 0 || worth.Same(p, q) {
				t.Errorf("P2.3: Compare(%s, %s) is %d, Same %v", name, other, c, worth.Same(p, q))
			}
		}
		for _, q := range inOrder() {
			if c, d := worth.Compare(p, q), worth.Compare(q, p); c != 1 || d != -1 || worth.Same(p, q) || worth.Same(q, p) {
				t.Errorf("P2.3: %s and %v compare as %d, %d", name, q, c, d)
			}
		}
	}
}

func TestSameSpareFields(t *testing.T) {
	// A nil list and an empty one are the same; so are lists in unlike memory.
	roomy := make([]api.Plain, 1, 8)
	roomy[0] = num(1)
	if !worth.Same(api.Plain{Kind: api.PList}, api.Plain{Kind: api.PList, List: []api.Plain{}}) || !worth.Same(list(num(1)), api.Plain{Kind: api.PList, List: roomy}) {
		t.Error("P2.3: lists of the same content are not the same")
	}
	if !worth.Same(shared(15, 2), shared(15, 2)) || worth.Same(shared(15, 2), shared(14, 2)) {
		t.Error("P2.3: shared lists")
	}
}

func TestSize(t *testing.T) {
	for name, p := range mayNot() {
		if n := worth.Size(p); n != 0 {
			t.Errorf("P2.4: the size of %s is %d", name, n)
		}
	}
	for name, x := range mayBe() {
		if n := worth.Size(x.p); n != x.size {
			t.Errorf("P2.4: the size of %s is %d, not %d", name, n, x.size)
		}
	}
}

// texts gives the texts of some values.
func texts() map[string]api.Plain {
	return map[string]api.Plain{
		"unit": unit(), "yes": yes(), "no": no(),
		"0": num(0), "5": num(5), "-5": num(-5), "10": num(10), "-100": num(-100), "9223372036854775807": num(math.MaxInt64), "-9223372036854775808": num(math.MinInt64),
		`""`: text(""), `"a b"`: text("a b"), `"\"\\\\\""`: text(`"\\"`), `"unit"`: text("unit"), `"[]"`: text("[]"), `"' ~!"`: text("' ~!"), `"/x41"`: text("/x41"), `"\\x41"`: text(`\x41`),
		`"\x00\x0a\x1f \x7f\x80\x9f\xa0\xc3\xa4\xff"`: text("\x00\n\x1f \x7f\x80\x9f\xa0ä\xff"),
		"[]": list(), "[unit]": list(unit()), "[1, 2]": list(num(1), num(2)), "[[], [[]], no]": list(list(), list(list()), no()),
		`[unit, yes, -5, "a\x0a\""]`: list(unit(), yes(), num(-5), text("a\n\"")), `[", ", ["]"]]`: list(text(", "), list(text("]"))),
		strings.Repeat("[", 64) + strings.Repeat("]", 64): nested(list(), 63),
	}
}

func TestText(t *testing.T) {
	for s, p := range texts() {
		if got, e := worth.Text(p); got != s || e != api.OK {
			t.Errorf("P2.5: %s, %d, not %s", got, e, s)
		}
		wantRead(t, s, p)
	}
	for name, p := range mayNot() {
		if s, e := worth.Text(p); s != "" || e != api.ErrArg {
			t.Errorf("P2.5: Text(%s) is %.20q, %d", name, s, e)
		}
	}
}

func wantRead(t *testing.T, s string, p api.Plain) {
	t.Helper()
	if v, at, e := worth.Read(s); !stands(v, p) || at != 0 || e != api.OK {
		t.Errorf("P2.6: Read(%.40q) is %.40v, %d, %d", s, v, at, e)
	}
}

func wantAmiss(t *testing.T, s string, at int, e api.Errno) {
	t.Helper()
	if v, a, got := worth.Read(s); v != nil || a != at || got != e {
		t.Errorf("P2.6: Read(%.40q) is %.40v, %d, %d, not %d, %d", s, v, a, got, at, e)
	}
}

func TestEachByte(t *testing.T) {
	for c := range 256 {
		p, want := text(string([]byte{byte(c)})), fmt.Sprintf(`"\x%02x"`, c)
		if c == '"' || c == '\\' {
			want = `"\` + string(rune(c)) + `"`
		} else if c >= 32 && c <= 126 {
			want = `"` + string(rune(c)) + `"`
		}
		if s, e := worth.Text(p); s != want || e != api.OK {
			t.Errorf("P2.5: the byte %d is %s, %d, not %s", c, s, e, want)
		}
		wantRead(t, want, p)
		if long := fmt.Sprintf(`"\x%02x"`, c); long != want {
			at := 3
			if c >= 0x70 {
				at = 4
			}
			wantAmiss(t, long, at, api.ErrSyntax)
		}
		if c != '"' && c != '\\' && c != 'x' {
			wantAmiss(t, string([]byte{'"', '\\', byte(c), '"'}), 2, api.ErrSyntax)
		}
		raw := string([]byte{'"', byte(c), '"'})
		switch {
		case c < 32 || c > 126:
			wantAmiss(t, raw, 1, api.ErrSyntax)
		case c == '"':
			wantAmiss(t, raw, 2, api.ErrSyntax)
		case c == '\\':
			wantAmiss(t, raw, 3, api.ErrSyntax)
		}
	}
}

// long gives a list whose text has 2^20 bytes and so many more.
func long(more int) api.Plain {
	p := many(num(math.MinInt64), 47662)
	last := int64(1)
	for range 9 + more {
		last *= 10
	}
	p.List = append(p.List, num(last))
	return p
}

func TestLongText(t *testing.T) {
	for _, more := range []int{-1, 0} {
		s, e := worth.Text(long(more))
		if len(s) != api.MaxText+more || e != api.OK {
			t.Errorf("P2.5: a text of %d bytes, %d", len(s), e)
		}
		wantRead(t, s, long(more))
	}
	for _, p := range []api.Plain{long(1), many(num(math.MinInt64), 65535)} {
		if s, e := worth.Text(p); s != "" || e != api.ErrLong {
			t.Errorf("P2.5: a text of more than 2^20 bytes is %.10q, %d", s, e)
		}
	}
	if s, e := worth.Text(text(strings.Repeat("\x00", 65535))); len(s) != 2+4*65535 || e != api.OK {
		t.Errorf("P2.5: a text of %d bytes, %d", len(s), e)
	}
}

func TestReadSyntax(t *testing.T) {
	for s, at := range map[string]int{
		"": 0, " ": 0, "\x00": 0, "x": 0, "]": 0, ",": 0, "+1": 0, "U": 0, "Yes": 0, "\\": 0, "'a'": 0, "\xff": 0, "\n": 0, "(1)": 0,
		"u": 1, "un": 2, "uni": 3, "units": 4, "unit ": 4, "unIt": 2, "ux": 1, "y": 1, "ye": 2, "yess": 3, "yo": 1, "n": 1, "nope": 2, "nno": 1, "no ": 2, " no": 0, "no\x00": 2,
		"-": 1, "--1": 1, "-0": 1, "-01": 1, "-x": 1, "- 1": 1, "00": 1, "007": 1, "0x1": 1, "1.5": 1, "1e5": 1, "12 ": 2, "1_0": 1, "1-": 1, "5unit": 1,
		`"`: 1, `"a`: 2, `"a""`: 3, `"\`: 2, `"\n"`: 2, `"\X00"`: 2, `"\x`: 3, `"\x"`: 3, `"\x0"`: 4, `"\x0`: 4, `"\xg0"`: 3, `"\x0g"`: 4, `"\x0A"`: 4, `"\xA0"`: 3, `"\x20"`: 3, `"\x2g"`: 3, `"\x6f"`: 3, `"\x70"`: 4, `"\x7e"`: 4, `"\x7`: 4, `"\x7g"`: 4, `"\x22"`: 3, `"\x5c"`: 3, `"\'"`: 2, "\"\n\"": 1, "\"\x00\"": 1, "\"ab\x7f\"": 3, "\"ä\"": 1, `"\x00`: 5, `"\"`: 3,
		"[": 1, "[ ": 1, "[ ]": 1, "[1": 2, "[1 ": 2, "[1 ]": 2, "[1,": 3, "[1,]": 3, "[1,2]": 3, "[1, ": 4, "[1, ]": 4, "[1,  2]": 4, "[1, 2": 5, "[1 , 2]": 2, "[,": 1, "[, 1]": 1, "[]]": 2, "[] ": 2, "[[]": 3, "[[]]]": 4, "[1]2": 3, "[1][": 3, "[01]": 2, "[1, 02]": 5, "[-]": 2, "[no, ye]": 7, "[1;2]": 2, "[1, 2,]": 6, "[\t]": 1, `["a]`: 4,
		strings.Repeat("[", 64): 64, strings.Repeat("[", 64) + strings.Repeat("]", 63): 127, strings.Repeat("[", 64) + strings.Repeat("]", 65): 128,
	} {
		wantAmiss(t, s, at, api.ErrSyntax)
	}
}

func TestReadOver(t *testing.T) {
	over, under := "9223372036854775808", "-9223372036854775809"
	digits := strings.Repeat("1", api.MaxText)
	for s, at := range map[string]int{
		over: 0, under: 0, "9223372036854775810": 0, "18446744073709551616": 0, "10000000000000000000": 0, "-18446744073709551617": 0,
		"[" + over + "]": 1, "[1, " + under + "]": 4, "[[], [" + over + "]]": 6,
		// Met where its last digit ends, ahead of what stands behind it.
		"[" + over + ", x]": 1, over + "x": 0, "[" + over: 1, over + " ": 0, "[" + over + "," + over + "]": 1, digits: 0, "-" + digits[1:]: 0,
	} {
		wantAmiss(t, s, at, api.ErrOver)
	}
	wantAmiss(t, "[x, "+over+"]", 1, api.ErrSyntax)
	wantAmiss(t, "[0"+over+"]", 2, api.ErrSyntax)
	wantAmiss(t, "[,"+over+"]", 1, api.ErrSyntax)
	wantAmiss(t, "[1,"+over+"]", 3, api.ErrSyntax)
}

func TestReadLong(t *testing.T) {
	open := strings.Repeat("[", 64)
	for s, at := range map[string]int{
		open + "[": 64, open + "[]": 64, open + "[x": 64, open + "[" + strings.Repeat("]", 65): 64, open + "1, [": 67, "[1, " + open: 67,
		strings.Repeat("[", 1<<20): 64, strings.Repeat("[", 1<<20+1): 0, strings.Repeat("1", 1<<20+1): 0, strings.Repeat("x", 1<<21): 0, `"` + strings.Repeat("x", 1<<20-1) + `"`: 0,
	} {
		wantAmiss(t, s, at, api.ErrLong)
	}
	wantAmiss(t, open+"], [], [", 72, api.ErrSyntax) // the 65th of them lies 64 deep
	wantAmiss(t, "x"+open+"[", 0, api.ErrSyntax)
	wantAmiss(t, "[9223372036854775808, "+open+"[", 1, api.ErrOver)
}

func TestReadGreat(t *testing.T) {
	quoted := func(n int) string { return `"` + strings.Repeat("x", n) + `"` }
	items := func(n int) string { return "[" + strings.Repeat("0, ", n-1) + "0]" }
	wantRead(t, quoted(65535), text(strings.Repeat("x", 65535)))
	wantRead(t, items(65535), many(num(0), 65535))
	for _, s := range []string{quoted(65536), items(65536), quoted(1<<20 - 3), items(349525), "[" + quoted(65535) + "]", "[" + quoted(65534) + ", []]"} {
		wantAmiss(t, s, len(s), api.ErrLong)
		wantAmiss(t, s+"x", len(s), api.ErrSyntax)
		wantAmiss(t, s[:len(s)-1], len(s)-1, api.ErrSyntax)
	}
	wantRead(t, "["+quoted(65533)+", []]", list(text(strings.Repeat("x", 65533)), list()))
	over := items(65536)
	wantAmiss(t, over[:len(over)-2]+"9223372036854775808]", len(over)-2, api.ErrOver)
}

// ends are what the beginnings of short texts can go on to.
func ends() []string {
	var all []string
	for _, middle := range []string{"", "1", "0", "unit", "nit", "it", "t", "es", "s", "o", `"`, `x00"`, `00"`, `0"`, `f"`, `""`, " 1"} {
		for n := range 7 {
			all = append(all, middle+strings.Repeat("]", n))
		}
	}
	return all
}

// goesOn tells whether s is the beginning of a value's text.
func goesOn(s string) bool {
	for _, end := range ends() {
		if _, _, e := worth.Read(s + end); e == api.OK {
			return true
		}
	}
	return false
}

// TestReadAll reads all short texts of some bytes: what is read is written
// again as it was, and where something is amiss what stands ahead can go on.
func TestReadAll(t *testing.T) {
	for _, bytes := range []string{"[], 1", "0-1,] [", `"\x047f`, "unityeso", "[\"], \x00x"} {
		var read func(s string)
		read = func(s string) {
			v, at, e := worth.Read(s)
			switch {
			case e == api.OK:
				if got, e := worth.Text(plain(v)); got != s || at != 0 || e != api.OK {
					t.Fatalf("P2.6: Read(%q) is %v, which is %q, %d, %d", s, v, got, at, e)
				}
			case e != api.ErrSyntax || v != nil || at < 0 || at > len(s):
				t.Fatalf("P2.6: Read(%q) is %v, %d, %d", s, v, at, e)
			case !goesOn(s[:at]) || at < len(s) && goesOn(s[:at+1]):
				t.Fatalf("P2.6: Read(%q) is amiss at %d", s, at)
			}
			if len(s) < 4 {
				for i := range len(bytes) {
					read(s + bytes[i:i+1])
				}
			}
		}
		read("")
	}
}

// plain turns a value back.
func plain(v api.Value) api.Plain {
	switch x := v.(type) {
	case api.Truth:
		if x {
			return yes()
		}
		return no()
	case api.Int:
		return num(int64(x))
	case api.Text:
		return text(string(x))
	case api.List:
		l := list()
		for _, item := range x {
			l.List = append(l.List, plain(item))
		}
		return l
	}
	return unit()
}

func TestJoin(t *testing.T) {
	big := text(strings.Repeat("x", 65535))
	for name, x := range map[string]struct {
		ps []api.Plain
		e  api.Errno
	}{
		"none":              {nil, api.OK},
		"an empty list":     {[]api.Plain{}, api.OK},
		"one":               {[]api.Plain{num(1)}, api.OK},
		"a list in a list":  {[]api.Plain{list(num(1))}, api.OK},
		"five":              {[]api.Plain{unit(), yes(), num(-1), text("a"), list(num(1), list())}, api.OK},
		"63 deep":           {[]api.Plain{num(1), nested(unit(), 63)}, api.OK},
		"64 deep":           {[]api.Plain{num(1), nested(unit(), 64)}, api.ErrLong},
		"64 deep, no items": {[]api.Plain{nested(list(), 63), unit()}, api.ErrLong},
		"size 65535":        {[]api.Plain{text(strings.Repeat("x", 65534))}, api.OK},
		"size 65536":        {[]api.Plain{big}, api.ErrLong},
		"two of 32768":      {[]api.Plain{many(unit(), 32767), many(unit(), 32767)}, api.ErrLong},
		"of 32768, 32767":   {[]api.Plain{many(unit(), 32767), many(unit(), 32766)}, api.OK},
		"65535 units":       {many(unit(), 65535).List, api.OK},
		"65536 units":       {many(unit(), 65536).List, api.ErrLong},
		"nothing":           {[]api.Plain{{}}, api.ErrArg},
		"nothing at last":   {[]api.Plain{num(1), big, big, {Kind: api.PUnit, Num: 1}}, api.ErrArg},
		"too long at last":  {append(many(unit(), 65536).List, api.Plain{}), api.ErrArg},
		"too deep itself":   {[]api.Plain{nested(unit(), 65)}, api.ErrArg},
		"64 deep, nothing":  {[]api.Plain{nested(unit(), 64), {}}, api.ErrArg},
		"a ring":            {[]api.Plain{ring(2)}, api.ErrArg},
	} {
		v, e := worth.Join(x.ps...)
		if e != x.e || e != api.OK && v != nil || e == api.OK && !stands(v, list(x.ps...)) {
			t.Errorf("P2.7: Join of %s is %.40v, %d, not %d", name, v, e, x.e)
		}
	}
	for name, p := range mayNot() {
		if v, e := worth.Join(unit(), p); v != nil || e != api.ErrArg {
			t.Errorf("P2.7: Join with %s is %.40v, %d", name, v, e)
		}
	}
}

func TestNothingIsChanged(t *testing.T) {
	room := []api.Plain{num(1), list(text("a"), list()), num(3), num(4)}
	room[1].List = room[1].List[:1] // with spare room
	p := api.Plain{Kind: api.PList, List: room[:2]}
	before := fmt.Sprint(room, room[1].List[:2])
	v, _ := worth.Of(p)
	w, _ := worth.Join(p.List...)
	worth.May(p)
	worth.Size(p)
	worth.Same(p, p)
	worth.Compare(p, list())
	s, _ := worth.Text(p)
	scribble(v)
	scribble(w)
	if after := fmt.Sprint(room, room[1].List[:2]); after != before {
		t.Errorf("P2.8: %s became %s", before, after)
	}
	v, _ = worth.Of(p)
	w, _ = worth.Join(p.List...)
	room[0], room[1].List[0] = text("written over"), unit()
	if want := list(num(1), list(text("a"))); !stands(v, want) || !stands(w, want) || s != `[1, ["a"]]` {
		t.Errorf("P2.8: a list is kept: %v, %v, %s", v, w, s)
	}
}

func TestSeveralGoroutines(t *testing.T) {
	p := shared(12, 2)
	want, _ := worth.Text(p)
	var all sync.WaitGroup
	for range 8 {
		all.Go(func() {
			s, e := worth.Text(p)
			v, _, f := worth.Read(want)
			if s != want || e != api.OK || f != api.OK || !stands(v, p) || !worth.Same(p, plain(v)) || worth.Compare(p, plain(v)) != 0 {
				t.Error("P2.8: an answer hangs on other calls")
			}
		})
	}
	all.Wait()
}

func TestExamples(t *testing.T) {
	if v, e := worth.Of(num(5)); v.(api.Int) != 5 || e != api.OK {
		t.Errorf("P2.2: %v, %d", v, e)
	}
	if worth.Size(text("ab")) != 3 || worth.Size(list(num(1), text("ab"), list())) != 6 {
		t.Error("P2.4: the sizes of the examples")
	}
	if worth.Compare(num(5), text("")) != -1 || worth.Compare(list(num(2)), list(num(1), num(9))) != 1 {
		t.Error("P2.3: the order of the examples")
	}
}
