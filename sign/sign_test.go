// The tests of P3.1 to P3.7, through the package's face alone.
package sign_test

import (
	"fmt"
	"math"
	"regexp"
	"slices"
	"strconv"
	"strings"
	"sync"
	"testing"

	"espalier/api"
	"espalier/sign"
)

func place(fun string, path ...int) api.Place { return api.Place{Fun: fun, Path: path} }

func samePlace(a, b api.Place) bool { return a.Fun == b.Fun && slices.Equal(a.Path, b.Path) }

// The forms as the document tells them, said another way than the program does.
var (
	word  = regexp.MustCompile(`\A[a-z][a-z0-9]{0,15}\z`)
	kind  = regexp.MustCompile(`\A[a-z][a-z0-9]{0,15}\.[a-z][a-z0-9]{0,15}\z`)
	name  = regexp.MustCompile(`\A[a-zA-Z_][a-zA-Z0-9_]{0,31}\z`)
	use   = regexp.MustCompile(`\A([a-zA-Z_][a-zA-Z0-9_]{0,31}|[1-9]|[1-5][0-9]|6[0-4])\z`)
	names = regexp.MustCompile(`\A([a-zA-Z_][a-zA-Z0-9_]{0,31}( [a-zA-Z_][a-zA-Z0-9_]{0,31})*)?\z`)
	num   = `(0|[1-9][0-9]{0,2}|10[01][0-9]|102[0-2])`
	path  = regexp.MustCompile(`\A(-|` + num + `(\.` + num + `){0,62})\z`)
)

func isPlace(s string) bool {
	fun, text, ok := strings.Cut(s, ":")
	if !ok {
		return path.MatchString(s)
	}
	return name.MatchString(fun) && path.MatchString(text)
}

// texts gives texts of many forms: all short ones of some signs, edges of length, and those with any byte in them.
func texts() []string {
	signs := []string{"a", "z", "A", "_", "0", "1", "6", ".", " ", "-", ":"}
	all := []string{""}
	last := all
	for range 4 {
		var next []string
		for _, s := range last {
			for _, c := range signs {
				next = append(next, s+c)
			}
		}
		all = append(all, next...)
		last = next
	}
	for b := range 256 {
		c := string([]byte{byte(b)})
		all = append(all, c, c+"a", "a"+c, "a"+c+"b", c+".a", "a."+c, "a"+c+".b", "a."+"b"+c, "1"+c, c+"1", "f:1"+c, "f"+c+":1", "1."+c, "a b"+c, c+"a b", "a"+c+" b")
	}
	for _, n := range []int{1, 15, 16, 17, 31, 32, 33, 64, 1000} {
		for _, c := range []string{"a", "Z", "_", "0", "1", ".", " ", "ä"} {
			s := strings.Repeat(c, n)
			all = append(all, s, "a"+s[1:], "a."+s, s+".a", "a.a"+s[1:], s+"."+s, "a "+s, s+" a", s+":1", "a"+s[1:]+":-", "f:"+s)
		}
	}
	return append(all, oddTexts()...)
}

func oddTexts() []string {
	return []string{
		"num.add", "num.add.x", "Num.add", "num.Add", "num..add", ".num.add", "num.add.", " num.add", "num.add ", "num .add", "num.1add", "1num.add", "num_a.b", "num-a.b", "num.add\n", "num.add\x00",
		"é", "a\u0301", "ａ", "１", "٣", "a.é", "é.a", "\ufffd", "a\ufffd", "\ufeffa", "\xc3", "a\xff", "K", "ı", "ſ", "𝟏",
		"a b c", "a\tb", "a\nb", "a\u00a0b", "a  b", "a   b", " a b", "a b ", "a,b", "a.b c", "1 a", "a 1", "a 64", "x_1 _ Z9",
		"+1", "1e1", "0x1", "1_0", "01", "00", "007", "0.01", "1.00", "0.12", "0..1", ".1", "1.", ".", "-", "--", "-1", "-0", "1-", "-.1", "1.-", "1.-1", "1 .2", "1. 2", " 1", "1 ",
		"63", "64", "65", "064", "065", "640", "100", "1021", "1022", "1023", "1029", "1030", "1100", "10220", "2000", "9999", "0.1022", "0.1023", "1022.1022",
		strconv.Itoa(math.MaxInt64), "9223372036854775808", "18446744073709551617", "36893488147419103233", "4294967297", strings.Repeat("9", 1000), strings.Repeat("0", 1000),
		"f:", ":", ":1", ":-", "f:-", "f:1", "f:0.12", "1f:1", "f:1:2", "f:f:1", "f::1", "f :1", "f: 1", "f:1 ", "f-:1", "f:01", "f:1.", "64:1", "-:1", "1:1", "f.g:1", "f", "main:0", strings.Repeat("f", 33) + ":0",
		repeated("0", 62), repeated("0", 63), repeated("0", 64), repeated("1022", 63), repeated("1022", 64), repeated("0", 63) + ".", repeated("0", 65), "f:" + repeated("1022", 63), "f:" + repeated("1022", 64),
		repeated("a", 5000), strings.ReplaceAll(repeated("a", 5000), ".", " "), strings.ReplaceAll(repeated("a", 5000), ".", " ") + " ", strings.Repeat(" ", 5000),
	}
}

// repeated gives a text n times, a point between each two.
func repeated(s string, n int) string { return strings.TrimSuffix(strings.Repeat(s+".", n), ".") }

func TestWord(t *testing.T) {
	for _, s := range texts() {
		if got := sign.Word(s); got != word.MatchString(s) {
			t.Errorf("P3.1: Word(%q) is %v", s, got)
		}
	}
	for s, want := range map[string]bool{"a": true, strings.Repeat("a", 16): true, "z9999999999999zz": true, strings.Repeat("a", 17): false, "": false, "1": false, "A": false, "_": false, "a_": false} {
		if got := sign.Word(s); got != want {
			t.Errorf("P3.1: Word(%q) is %v", s, got)
		}
	}
}

func TestKind(t *testing.T) {
	for _, s := range texts() {
		var want string
		if kind.MatchString(s) {
			want = s
		}
		kit, word, ok := sign.Kind(s)
		if ok != (want != "") || ok && kit+"."+word != want || !ok && kit+word != "" {
			t.Errorf("P3.1: Kind(%q) is %q, %q, %v", s, kit, word, ok)
		}
	}
	if kit, word, ok := sign.Kind("num.add"); kit != "num" || word != "add" || !ok {
		t.Errorf("P3.1: Kind(num.add) is %q, %q, %v", kit, word, ok)
	}
	long := strings.Repeat("z", 16)
	for s, want := range map[string]bool{"a.b": true, long + "." + long: true, "z" + long + ".b": false, "a.z" + long: false, ".": false, "a.": false, ".a": false, "a.b.c": false} {
		if _, _, ok := sign.Kind(s); ok != want {
			t.Errorf("P3.1: Kind(%q) is %v", s, ok)
		}
	}
}

func TestName(t *testing.T) {
	for _, s := range texts() {
		if got := sign.Name(s); got != name.MatchString(s) {
			t.Errorf("P3.2: Name(%q) is %v", s, got)
		}
	}
	for s, want := range map[string]bool{"x_1": true, "1x": false, "_": true, "A": true, "": false, strings.Repeat("_", 32): true, strings.Repeat("_", 33): false} {
		if got := sign.Name(s); got != want {
			t.Errorf("P3.2: Name(%q) is %v", s, got)
		}
	}
}

func TestUse(t *testing.T) {
	for _, s := range texts() {
		if got := sign.Use(s); got != use.MatchString(s) {
			t.Errorf("P3.2: Use(%q) is %v", s, got)
		}
	}
	for n := -70; n <= 700; n++ {
		if got := sign.Use(strconv.Itoa(n)); got != (n >= 1 && n <= 64) {
			t.Errorf("P3.2: Use(%d) is %v", n, got)
		}
		if s := "0" + strconv.Itoa(n); sign.Use(s) {
			t.Errorf("P3.2: Use(%q) holds", s)
		}
	}
}

func TestNames(t *testing.T) {
	for _, s := range texts() {
		l, ok := sign.Names(s)
		if ok != names.MatchString(s) || ok && strings.Join(l, " ") != s || !ok && l != nil {
			t.Errorf("P3.3: Names(%q) is %q, %v", s, l, ok)
		}
	}
	for _, x := range []struct {
		s  string
		l  []string
		ok bool
	}{
		{"", nil, true},
		{"a", []string{"a"}, true},
		{"a b", []string{"a", "b"}, true},
		{"a a _ Z9", []string{"a", "a", "_", "Z9"}, true},
		{strings.Repeat("a", 32) + " b", []string{strings.Repeat("a", 32), "b"}, true},
		{strings.Repeat("a", 33) + " b", nil, false},
		{" ", nil, false}, {"a ", nil, false}, {" a", nil, false}, {"a  b", nil, false}, {"1", nil, false}, {"a 1", nil, false}, {"a\tb", nil, false},
	} {
		if l, ok := sign.Names(x.s); ok != x.ok || !slices.Equal(l, x.l) {
			t.Errorf("P3.3: Names(%q) is %q, %v", x.s, l, ok)
		}
	}
	many := strings.Repeat("name ", 1<<16)
	if l, ok := sign.Names(many); ok || l != nil {
		t.Error("P3.3: a blank at a long text's end")
	}
	if l, ok := sign.Names(many + "x"); !ok || len(l) != 1<<16+1 || l[1<<16] != "x" {
		t.Errorf("P3.3: %d names, %v", len(l), ok)
	}
}

// paths gives paths, and whether they may be.
func paths() []struct {
	p   []int
	may bool
} {
	filled := func(n, x int) []int { return slices.Repeat([]int{x}, n) }
	return []struct {
		p   []int
		may bool
	}{
		{nil, true}, {[]int{}, true}, {[]int{0}, true}, {[]int{0, 12}, true}, {[]int{1022}, true}, {[]int{9, 10, 99, 100, 999, 1000, 1022, 0}, true},
		{filled(62, 0), true}, {filled(63, 0), true}, {filled(63, 1022), true}, {filled(64, 0), false}, {filled(64, 1022), false}, {filled(1<<16, 0), false},
		{[]int{-1}, false}, {[]int{1023}, false}, {[]int{1024}, false}, {[]int{0, -1}, false}, {[]int{-1, 0}, false}, {[]int{0, 1023, 0}, false},
		{[]int{math.MaxInt}, false}, {[]int{math.MinInt}, false}, {[]int{1 << 32}, false}, {[]int{1 << 16}, false}, {[]int{-1 << 32}, false},
		{append(filled(62, 1022), 1023), false}, {append(filled(62, 0), -1), false}, {append(filled(62, 0), 1022), true},
	}
}

// funs gives texts of a place's Fun, and whether they may be.
func funs() map[string]bool {
	return map[string]bool{
		"": true, "f": true, "_": true, "Z_9": true, strings.Repeat("f", 32): true, strings.Repeat("f", 33): false,
		"1": false, "64": false, "1f": false, "f ": false, " ": false, "f:": false, ":": false, "-": false, "a.b": false, "é": false, "f\x00": false, "\xff": false,
	}
}

func TestPlace(t *testing.T) {
	for fun, ok := range funs() {
		for _, x := range paths() {
			if got := sign.Place(place(fun, x.p...)); got != (ok && x.may) {
				t.Errorf("P3.4: Place of %q, %.60v is %v", fun, x.p, got)
			}
		}
	}
	for n := -2000; n <= 2000; n++ {
		if got := sign.Place(place("", n)); got != (n >= 0 && n <= 1022) {
			t.Errorf("P3.4: a path of %d: %v", n, got)
		}
	}
	for n := range 200 {
		if got := sign.Place(place("f", make([]int, n)...)); got != (n <= 63) {
			t.Errorf("P3.4: a path of %d numbers: %v", n, got)
		}
	}
}

// written writes a path by other means than the program's.
func written(p []int) string {
	if len(p) == 0 {
		return "-"
	}
	return strings.ReplaceAll(strings.Trim(fmt.Sprint(p), "[]"), " ", ".")
}

func TestPathText(t *testing.T) {
	for _, x := range paths() {
		s, e := sign.PathText(x.p)
		if x.may && (s != written(x.p) || e != api.OK) || !x.may && (s != "" || e != api.ErrArg) {
			t.Errorf("P3.5: PathText of %.60v is %q, %d", x.p, s, e)
		}
		if !x.may {
			continue
		}
		if q, e := sign.ReadPath(s); e != api.OK || !slices.Equal(q, x.p) {
			t.Errorf("P3.5: ReadPath(%q) is %v, %d", s, q, e)
		}
	}
	for s, p := range map[string][]int{"-": nil, "0": {0}, "0.12": {0, 12}, "1022": {1022}, "10.0.100": {10, 0, 100}} {
		if w, e := sign.PathText(p); w != s || e != api.OK {
			t.Errorf("P3.5: PathText of %v is %q, %d", p, w, e)
		}
	}
}

func TestReadPath(t *testing.T) {
	for _, s := range texts() {
		p, e := sign.ReadPath(s)
		if path.MatchString(s) {
			if w, f := sign.PathText(p); e != api.OK || f != api.OK || w != s {
				t.Errorf("P3.5: ReadPath(%q) is %v, %d: %q, %d", s, p, e, w, f)
			}
		} else if e != api.ErrSyntax || len(p) != 0 {
			t.Errorf("P3.5: ReadPath(%q) is %v, %d", s, p, e)
		}
	}
	for n := -2000; n <= 12000; n++ {
		p, e := sign.ReadPath(strconv.Itoa(n))
		if may := n >= 0 && n <= 1022; may && (e != api.OK || !slices.Equal(p, []int{n})) || !may && (e != api.ErrSyntax || len(p) != 0) {
			t.Errorf("P3.5: ReadPath(%d) is %v, %d", n, p, e)
		}
	}
	for _, s := range []string{"", "01", "1.", ".1", "1..2", "1023", "-1", "0.-", "+1", " 1", "1 ", "f:1", "a", repeated("0", 64)} {
		if p, e := sign.ReadPath(s); e != api.ErrSyntax || len(p) != 0 {
			t.Errorf("P3.5: ReadPath(%q) is %v, %d", s, p, e)
		}
	}
}

func TestPlaceText(t *testing.T) {
	for fun, ok := range funs() {
		for _, x := range paths() {
			want := written(x.p)
			if fun != "" {
				want = fun + ":" + want
			}
			p := place(fun, x.p...)
			s, e := sign.PlaceText(p)
			if !ok || !x.may {
				if s != "" || e != api.ErrArg {
					t.Errorf("P3.5: PlaceText of %q, %.60v is %q, %d", fun, x.p, s, e)
				}
				continue
			}
			if s != want || e != api.OK {
				t.Errorf("P3.5: PlaceText of %v is %q, %d", p, s, e)
			}
			if q, e := sign.ReadPlace(s); e != api.OK || !samePlace(p, q) || sign.Compare(p, q) != 0 {
				t.Errorf("P3.5: ReadPlace(%q) is %v, %d", s, q, e)
			}
		}
	}
	for s, p := range map[string]api.Place{"-": {}, "f:-": place("f"), "f:1": place("f", 1), "5.0": place("", 5, 0)} {
		if w, e := sign.PlaceText(p); w != s || e != api.OK {
			t.Errorf("P3.5: PlaceText of %v is %q, %d", p, w, e)
		}
	}
}

func TestReadPlace(t *testing.T) {
	for _, s := range texts() {
		p, e := sign.ReadPlace(s)
		if isPlace(s) {
			if w, f := sign.PlaceText(p); e != api.OK || f != api.OK || w != s {
				t.Errorf("P3.5: ReadPlace(%q) is %v, %d: %q, %d", s, p, e, w, f)
			}
		} else if e != api.ErrSyntax || p.Fun != "" || len(p.Path) != 0 {
			t.Errorf("P3.5: ReadPlace(%q) is %v, %d", s, p, e)
		}
	}
	for s, p := range map[string]api.Place{"f:-": place("f"), "-": {}, "0.12": place("", 0, 12), "Z_9:1022.0": place("Z_9", 1022, 0)} {
		if got, e := sign.ReadPlace(s); e != api.OK || !samePlace(got, p) {
			t.Errorf("P3.5: ReadPlace(%q) is %v, %d", s, got, e)
		}
	}
	for _, s := range []string{"", ":1", ":-", "f:", "f", "1f:1", "f:1:1", "f:1023", "f: 1", "64:0"} {
		if p, e := sign.ReadPlace(s); e != api.ErrSyntax || p.Fun != "" || len(p.Path) != 0 {
			t.Errorf("P3.5: ReadPlace(%q) is %v, %d", s, p, e)
		}
	}
}

// inOrder gives places, each ahead of the next one; not all of them may be.
func inOrder() []api.Place {
	return []api.Place{
		place(""), place("", math.MinInt), place("", -1), place("", 0), place("", 0, 0), place("", 0, 9), place("", 1), place("", 5), place("", 10), place("", 10, 0), place("", 1023), place("", math.MaxInt),
		place("\x00"), place(" ", 0), place("1f"), place("A"), place("A", 1), place("B"), place("_"), place("a"), place("a", 7), place("aA"), place("aa"), place("ab"), place("b"),
		place("f"), place("f", 0), place("f", 0, 9), place("f", 1), place("f", 1, 2, 3), place("f", 1, 2, 3, 0), place("f", 1, 3), place("f", 2), place("f", 10),
		place("é"), place("\xff", 1),
	}
}

func TestCompare(t *testing.T) {
	l := inOrder()
	for i, a := range l {
		for j, b := range l {
			want := 0
			if i < j {
				want = -1
			} else if i > j {
				want = 1
			}
			if got := sign.Compare(a, b); got != want {
				t.Errorf("P3.6: Compare of %v and %v is %d, not %d", a, b, got, want)
			}
		}
	}
	long := make([]int, 1<<16)
	if sign.Compare(place("f", long...), place("f", long[1:]...)) != 1 || sign.Compare(place("f", long[1:]...), place("f", long...)) != -1 || sign.Compare(place("f", long...), place("f", long...)) != 0 {
		t.Error("P3.6: long paths")
	}
	if sign.Compare(place("f"), api.Place{Fun: "f", Path: []int{}}) != 0 {
		t.Error("P0.4: a nil path is not the same as an empty one")
	}
}

func TestListsAreNew(t *testing.T) {
	l, _ := sign.Names("a b c")
	p, _ := sign.ReadPath("0.1.2")
	q, _ := sign.ReadPlace("f:0.1.2")
	l[0], p[0], q.Path[0] = "written over", 7, 8
	l, p, q.Path = append(l[:1], "behind"), append(p[:1], 9), append(q.Path[:1], 9)
	if l, _ := sign.Names("a b c"); !slices.Equal(l, []string{"a", "b", "c"}) {
		t.Errorf("P3.7: %q", l)
	}
	if p, _ := sign.ReadPath("0.1.2"); !slices.Equal(p, []int{0, 1, 2}) {
		t.Errorf("P3.7: %v", p)
	}
	if q, _ := sign.ReadPlace("f:0.1.2"); !samePlace(q, place("f", 0, 1, 2)) {
		t.Errorf("P3.7: %v", q)
	}
	if p[0] != 7 || q.Path[0] != 8 || l[1] != "behind" {
		t.Error("P3.7: two answers share memory")
	}
}

func TestNothingIsChanged(t *testing.T) {
	room := []int{3, 0, 1022, 5, 6}
	p := api.Place{Fun: "f", Path: room[:3]}
	s, _ := sign.PathText(p.Path)
	w, _ := sign.PlaceText(p)
	sign.Place(p)
	sign.Compare(p, api.Place{Fun: "f", Path: room[:4]})
	if !slices.Equal(room, []int{3, 0, 1022, 5, 6}) {
		t.Errorf("P3.7: a path became %v", room)
	}
	room[0] = 9
	if s != "3.0.1022" || w != "f:3.0.1022" {
		t.Errorf("P3.7: a path is kept: %q, %q", s, w)
	}
}

func TestSeveralGoroutines(t *testing.T) {
	var all sync.WaitGroup
	for g := range 8 {
		all.Go(func() {
			for i := range 200 {
				p := place("f"+strconv.Itoa(g), i, g)
				s, e := sign.PlaceText(p)
				q, f := sign.ReadPlace(s)
				l, ok := sign.Names("a" + strconv.Itoa(i) + " b")
				if e != api.OK || f != api.OK || !samePlace(p, q) || !ok || len(l) != 2 || l[0] != "a"+strconv.Itoa(i) {
					t.Error("P3.7: an answer hangs on other calls")
				}
			}
		})
	}
	all.Wait()
}

func TestExamples(t *testing.T) {
	for s, want := range map[string]bool{"num.add": true, "num": false, "num.add.x": false, "Num.add": false, "1.a": false} {
		if _, _, ok := sign.Kind(s); ok != want {
			t.Errorf("P3.1: Kind(%q) is %v", s, ok)
		}
	}
	for s, want := range map[string]bool{"64": true, "065": false, "0": false, "65": false} {
		if sign.Use(s) != want {
			t.Errorf("P3.2: Use(%q) is %v", s, !want)
		}
	}
	if sign.Compare(place("f"), place("f", 0)) != -1 || sign.Compare(place("", 5), place("f", 0)) != -1 || sign.Compare(place("f", 1), place("f", 0, 9)) != 1 {
		t.Error("P3.6: the order of the examples")
	}
}

func TestLongTexts(t *testing.T) {
	for _, c := range []string{"a", "0", "1.", "a ", ".", " ", ":", "-", "\xff"} {
		s := strings.Repeat(c, 1<<22)
		if _, _, ok := sign.Kind(s); ok || sign.Word(s) || sign.Name(s) || sign.Use(s) {
			t.Errorf("P3.1, P3.2: a long text of %q", c)
		}
		if l, ok := sign.Names(s); ok || l != nil {
			t.Errorf("P3.3: a long text of %q", c)
		}
		if p, e := sign.ReadPath(s); len(p) != 0 || e != api.ErrSyntax {
			t.Errorf("P3.5: a long text of %q", c)
		}
		if p, e := sign.ReadPlace("f:" + s); len(p.Path) != 0 || p.Fun != "" || e != api.ErrSyntax {
			t.Errorf("P3.5: a long text of %q", c)
		}
	}
}
