// The tests of P4.1 to P4.9, through the package's face alone.
package tree_test

import (
	"fmt"
	"iter"
	"math"
	"slices"
	"strings"
	"sync"
	"testing"

	"espalier/api"
	"espalier/tree"
)

func of(kind string, kids ...api.Tree) api.Tree { return api.Tree{Kind: kind, Kids: kids} }

func text(n int) api.Tree { return api.Tree{Kind: "a.b", Text: strings.Repeat("x", n)} }

// wide gives a tree with n kids, all the same one.
func wide(t api.Tree, n int) api.Tree { return of("a.b", slices.Repeat([]api.Tree{t}, n)...) }

// within lays n nodes around a tree.
func within(t api.Tree, n int) api.Tree {
	for range n {
		t = of("a.b", t)
	}
	return t
}

// shared gives a tree of n deep, each node of which has the next one w times.
func shared(n, w int) api.Tree {
	t := of("a.b")
	for range n - 1 {
		t = wide(t, w)
	}
	return t
}

// ring gives a tree that lies in itself w times.
func ring(w int) api.Tree {
	kids := make([]api.Tree, w)
	for i := range kids {
		kids[i] = of("a.b", kids...)
	}
	return of("a.b", kids...)
}

// sample gives a tree with Nums and Texts; each call gives a new one.
func sample() api.Tree {
	return api.Tree{Kind: "a.b", Num: 1, Text: "root", Kids: []api.Tree{
		{Kind: "c.d", Num: math.MinInt64, Kids: []api.Tree{{Kind: "e.f", Text: "\x00\xff"}, {Kind: "a.b"}}},
		{Kind: "no name", Num: -1, Text: "äß"},
		{Kind: "c.d", Num: math.MaxInt64, Kids: []api.Tree{{Kind: "g.h", Kids: []api.Tree{{Kind: "e.f", Num: 7}}}}},
	}}
}

// greatTrees gives trees that are beyond the limits.
func greatTrees() map[string]api.Tree {
	return map[string]api.Tree{
		"1,024 kids": wide(of("a.b"), 1024), "1,025 kids": wide(of("a.b"), 1025), "far too many kids": wide(of("a.b"), 1<<20),
		"a node too many at the end": of("a.b", wide(of("a.b"), 1021), of("a.b"), of("a.b")), "a node too many within": of("a.b", wide(of("a.b"), 1021), wide(of("a.b"), 1)),
		"two of them great": wide(wide(of("a.b"), 600), 2), "1,025 nodes": wide(wide(of("a.b"), 31), 32), "a kid far too wide": of("a.b", of("a.b"), wide(of("a.b"), 1<<16)),
		"65 deep": shared(65, 1), "65 deep at the end": of("a.b", of("a.b"), shared(64, 1)), "500 deep": shared(500, 1), "100,000 deep": shared(100000, 1),
		"a text too long": text(16385), "a text far too long": text(1 << 24), "texts too long": of("a.b", text(16384), of("a.b"), text(1)), "texts too long by many": wide(text(17), 964),
		"a root's text too long": {Kind: "a.b", Text: "x", Kids: []api.Tree{text(16384)}}, "no kinds and too great": {Text: strings.Repeat("x", 16385)},
		"shared, 11 times": shared(11, 2), "shared, 60 times": shared(60, 2), "shared, 60 times by three": shared(60, 3), "shared, 1,000 times": shared(1000, 7),
		"a ring": ring(1), "a ring of two": ring(2), "a ring of 1,000": ring(1000),
	}
}

// smallTrees gives trees within the limits.
func smallTrees() map[string]struct {
	t                   api.Tree
	nodes, depth, bytes int
} {
	return map[string]struct {
		t                   api.Tree
		nodes, depth, bytes int
	}{
		"nothing": {api.Tree{}, 1, 1, 0}, "a node": {of("a.b"), 1, 1, 0}, "an empty list of kids": {api.Tree{Kind: "a.b", Kids: []api.Tree{}}, 1, 1, 0},
		"kids": {of("a.b", of("c.d"), of("c.d", of("e.f"))), 4, 3, 0}, "the sample": {sample(), 8, 4, 10},
		"1,023 kids": {wide(of("a.b"), 1023), 1024, 2, 0}, "1,024 nodes": {of("a.b", wide(of("a.b"), 1021), of("a.b")), 1024, 3, 0}, "1,024 nodes, the list last": {of("a.b", of("a.b"), wide(of("a.b"), 1021)), 1024, 3, 0},
		"shared, 10 times": {shared(10, 2), 1023, 10, 0}, "wide kids": {wide(wide(of("a.b"), 30), 33), 1024, 3, 0},
		"64 deep": {shared(64, 1), 64, 64, 0}, "64 deep at the end": {of("a.b", of("a.b"), shared(63, 1)), 65, 64, 0}, "64 deep, many": {wide(shared(63, 1), 16), 1009, 64, 0},
		"a long text": {text(16384), 1, 1, 16384}, "long texts": {of("a.b", text(16383), of("a.b"), text(1)), 4, 2, 16384}, "texts of many": {wide(text(17), 963), 964, 2, 16371},
		"letters of more bytes than one": {of("a.b", api.Tree{Text: "äöü"}, api.Tree{Text: "\xff"}), 3, 2, 7},
		"a long kind":                    {of(strings.Repeat("x", 1<<16), of("a.b")), 2, 2, 0}, "all at once": {within(wide(text(17), 959), 62), 1022, 64, 16303},
	}
}

func TestSize(t *testing.T) {
	for name, x := range smallTrees() {
		if n, d, b := tree.Size(x.t); n != x.nodes || d != x.depth || b != x.bytes {
			t.Errorf("P4.1: %s: %d, %d, %d, not %d, %d, %d", name, n, d, b, x.nodes, x.depth, x.bytes)
		}
	}
	for name, x := range greatTrees() {
		if n, d, b := tree.Size(x); n != 1025 || d != 65 || b != 16385 {
			t.Errorf("P4.1: %s: %d, %d, %d", name, n, d, b)
		}
	}
}

func TestMay(t *testing.T) {
	for name, x := range greatTrees() {
		if e := tree.May(x); e != api.ErrLong {
			t.Errorf("P4.2: %s: %d", name, e)
		}
	}
	for name, x := range smallTrees() {
		want := api.OK
		switch name {
		case "nothing", "the sample", "letters of more bytes than one", "a long kind":
			want = api.ErrName
		}
		if e := tree.May(x.t); e != want {
			t.Errorf("P4.2: %s: %d, not %d", name, e, want)
		}
	}
	word := strings.Repeat("z", 16)
	for kind, want := range map[string]api.Errno{
		"a.b": api.OK, "num.add": api.OK, "a1.b2": api.OK, word + "." + word: api.OK, "nobody.knows": api.OK,
		"": api.ErrName, "ab": api.ErrName, "a.b.c": api.ErrName, "A.b": api.ErrName, "a.1b": api.ErrName, "a.": api.ErrName, ".b": api.ErrName, ".": api.ErrName, "a.b ": api.ErrName, "a_.b": api.ErrName, word + "z.b": api.ErrName, "a.z" + word: api.ErrName, "ä.b": api.ErrName,
	} {
		for name, x := range map[string]api.Tree{
			"the root": of(kind, of("a.b")), "a first kid": of("a.b", of(kind), of("a.b")), "a last kid": of("a.b", of("a.b"), of("a.b"), of(kind)), "a deep one": within(of("a.b", of("c.d"), of(kind)), 60),
			"with a Num and a Text": {Kind: kind, Num: 5, Text: "x"}, "the last of many": of("a.b", wide(of("a.b"), 1021), of(kind)),
		} {
			if e := tree.May(x); e != want {
				t.Errorf("P4.2: %q as %s: %d, not %d", kind, name, e, want)
			}
		}
		if e := tree.May(of(kind, text(16385))); e != api.ErrLong {
			t.Errorf("P4.2: %q at the root of a tree that is too great: %d", kind, e)
		}
	}
}

// equal tells by other means than the program's whether two trees are the same.
func equal(a, b api.Tree) bool { return written(a) == written(b) }

// written writes a tree whole.
func written(t api.Tree) string {
	var out strings.Builder
	fmt.Fprintf(&out, "%q %d %q(", t.Kind, t.Num, t.Text)
	for _, kid := range t.Kids {
		out.WriteString(written(kid))
	}
	return out.String() + ")"
}

// unlike gives trees no two of which are the same.
func unlike() []api.Tree {
	l := []api.Tree{
		{}, {Num: 1}, {Text: "x"}, {Kind: "x"}, of("a.b"), of("a.c"), {Kind: "a.b", Num: 1}, {Kind: "a.b", Num: -1}, {Kind: "a.b", Num: 1 << 32}, {Kind: "a.b", Text: "x"}, {Kind: "a.b", Text: "X"}, {Kind: "a.b", Text: "x "},
		of("a.b", of("a.b")), of("a.b", of("c.d")), of("a.b", of("a.b"), of("c.d")), of("a.b", of("c.d"), of("a.b")), of("a.b", of("a.b", of("c.d"))), of("a.b", of("a.b"), of("a.b")), of("a.b", of("a.b", of("a.b"))),
		of("a.b", of("a.b"), of("a.b"), of("a.b")), of("a.b", api.Tree{Kind: "a.b", Num: 2}), of("a.b", api.Tree{Kind: "a.b", Text: "y"}),
		within(of("a.b", of("c.d")), 62), within(of("a.b", of("c.e")), 62), within(api.Tree{Kind: "a.b", Num: 1}, 63), wide(of("a.b"), 1022), wide(of("a.b"), 1023), of("a.b", append(wide(of("a.b"), 1022).Kids, of("c.d"))...),
		text(16384), {Kind: "a.b", Text: strings.Repeat("x", 16383) + "y"}, sample(),
	}
	for i := range 8 { // the sample with one change at one of its nodes
		x := sample()
		flat(&x)[i].Num += 3
		l = append(l, x)
	}
	return l
}

// flat gives the nodes of a tree.
func flat(t *api.Tree) []*api.Tree {
	l := []*api.Tree{t}
	for i := range t.Kids {
		l = append(l, flat(&t.Kids[i])...)
	}
	return l
}

func TestSame(t *testing.T) {
	for i, a := range unlike() {
		for j, b := range unlike() {
			if tree.Same(a, b) != (i == j) {
				t.Errorf("P4.3: Same of %.80s and %.80s is %v", written(a), written(b), i != j)
			}
		}
	}
	for name, x := range greatTrees() {
		if tree.Same(x, x) || tree.Same(x, of("a.b")) || tree.Same(of("a.b"), x) {
			t.Errorf("P4.3: %s is the same as another", name)
		}
	}
	if a, b := (api.Tree{Kind: "a.b"}), (api.Tree{Kind: "a.b", Kids: make([]api.Tree, 0, 3)}); !tree.Same(a, b) || !tree.Same(b, a) {
		t.Error("P0.4: nil kids are not the same as empty ones")
	}
	if !tree.Same(shared(10, 2), shared(10, 2)) || !tree.Same(wide(of("a.b"), 2), of("a.b", of("a.b"), of("a.b"))) {
		t.Error("P4.3: sharing makes a tree another one")
	}
}

// scribble writes into all lists of a tree, and behind them.
func scribble(t api.Tree) {
	for _, kid := range t.Kids {
		scribble(kid)
	}
	room := t.Kids[:cap(t.Kids)]
	for i := range room {
		room[i] = api.Tree{Kind: "scribbled", Num: -77}
	}
}

func TestCopy(t *testing.T) {
	for name, x := range smallTrees() {
		c, e := tree.Copy(x.t)
		if e != api.OK || !equal(c, x.t) {
			t.Errorf("P4.4: a copy of %s: %.80s, %d", name, written(c), e)
		}
		before := written(x.t)
		d, _ := tree.Copy(x.t)
		scribble(c)
		if written(x.t) != before || written(d) != before {
			t.Errorf("P4.4: a copy of %s shares memory", name)
		}
	}
	for name, x := range greatTrees() {
		if c, e := tree.Copy(x); e != api.ErrLong || !equal(c, api.Tree{}) {
			t.Errorf("P4.4: a copy of %s: %.80s, %d", name, written(c), e)
		}
	}
	c, _ := tree.Copy(shared(10, 2))
	seen := map[*api.Tree]int{}
	for _, node := range flat(&c) {
		seen[node]++
	}
	if len(seen) != 1023 {
		t.Errorf("P0.3: %d nodes of a copy in memory of their own", len(seen))
	}
}

// wrongPaths gives paths that lead nowhere in the sample.
func wrongPaths() [][]int {
	return [][]int{
		{-1}, {3}, {4}, {math.MaxInt}, {math.MinInt}, {1 << 32}, {0, -1}, {0, 2}, {1, 0}, {2, 1}, {2, 0, 1}, {2, 0, 0, 0}, {0, 0, 0}, {0, 0, -1}, {3, 0}, {-1, 0, 0},
		slices.Repeat([]int{0}, 64), slices.Repeat([]int{2}, 1<<20), append([]int{2, 0, 0}, slices.Repeat([]int{0}, 1000)...),
	}
}

// rightPaths gives the paths of the sample's nodes, in order.
func rightPaths() [][]int {
	return [][]int{nil, {0}, {0, 0}, {0, 1}, {1}, {2}, {2, 0}, {2, 0, 0}}
}

func TestAt(t *testing.T) {
	x := sample()
	l := flat(&x)
	for i, p := range rightPaths() {
		u, e := tree.At(x, p)
		if e != api.OK || !equal(u, *l[i]) {
			t.Errorf("P4.5: at %v: %s, %d", p, written(u), e)
		}
		v, _ := tree.At(x, p)
		scribble(u)
		if !equal(x, sample()) || !equal(v, *l[i]) {
			t.Errorf("P4.5: at %v: memory is shared", p)
		}
	}
	if u, e := tree.At(x, []int{}); e != api.OK || !equal(u, x) {
		t.Errorf("P0.4: at an empty path: %s, %d", written(u), e)
	}
	for _, p := range wrongPaths() {
		if u, e := tree.At(x, p); e != api.ErrBounds || !equal(u, api.Tree{}) {
			t.Errorf("P4.5: at %.60v: %s, %d", p, written(u), e)
		}
	}
	for name, g := range greatTrees() {
		for _, p := range [][]int{nil, {0}, {-1}, {5, 5}} {
			if u, e := tree.At(g, p); e != api.ErrLong || !equal(u, api.Tree{}) {
				t.Errorf("P4.5: %s at %v: %.80s, %d", name, p, written(u), e)
			}
		}
	}
	if u, e := tree.At(shared(64, 1), make([]int, 63)); e != api.OK || !equal(u, of("a.b")) {
		t.Errorf("P4.5: at a path of 63: %s, %d", written(u), e)
	}
	if _, e := tree.At(wide(of("a.b"), 1023), []int{1022}); e != api.OK {
		t.Errorf("P4.5: the last one of 1,023 kids: %d", e)
	}
	if _, e := tree.At(wide(of("a.b"), 1023), []int{1023}); e != api.ErrBounds {
		t.Errorf("P4.5: behind the last one of 1,023 kids: %d", e)
	}
}

func TestPut(t *testing.T) {
	x, u := sample(), of("not a name", of("y.z"), api.Tree{Num: 9, Text: "new"})
	for i, p := range rightPaths() {
		want := sample()
		*flat(&want)[i] = u
		got, e := tree.Put(x, p, u)
		if e != api.OK || !equal(got, want) {
			t.Errorf("P4.6: at %v: %s, %d", p, written(got), e)
		}
		if at, e := tree.At(got, p); e != api.OK || !equal(at, u) {
			t.Errorf("P4.6: what was put at %v: %s, %d", p, written(at), e)
		}
		again, _ := tree.Put(x, p, u)
		scribble(got)
		if !equal(x, sample()) || !equal(again, want) || u.Kids[0].Kind != "y.z" || u.Kids[1].Text != "new" {
			t.Errorf("P4.6: at %v: memory is shared", p)
		}
		at, _ := tree.At(x, p)
		if back, e := tree.Put(x, p, at); e != api.OK || !equal(back, x) {
			t.Errorf("P4.6: itself at %v: %s, %d", p, written(back), e)
		}
	}
	if got, e := tree.Put(x, []int{0, 1}, x); e != api.OK || !equal(got.Kids[0].Kids[1], sample()) || !equal(x, sample()) {
		t.Errorf("P4.6: a tree within itself: %s, %d", written(got), e)
	}
}

func TestPutIsRefused(t *testing.T) {
	x, u := sample(), of("x.y")
	refused := func(name string, t1 api.Tree, p []int, u api.Tree, want api.Errno) {
		if got, e := tree.Put(t1, p, u); e != want || !equal(got, api.Tree{}) {
			t.Errorf("P4.6: %s at %.60v: %.80s, %d, not %d", name, p, written(got), e, want)
		}
	}
	for _, p := range wrongPaths() {
		refused("the sample", x, p, u, api.ErrBounds)
		refused("the sample in a tree that it would make too great", x, p, shared(64, 1), api.ErrBounds)
		refused("the sample, and a great one", x, p, text(16385), api.ErrLong)
	}
	for name, g := range greatTrees() {
		for _, p := range [][]int{nil, {0}, {-1}, {7, 7}} {
			refused(name, g, p, u, api.ErrLong)
			refused("into the sample "+name, x, p, g, api.ErrLong)
			refused(name+" twice", g, p, g, api.ErrLong)
		}
	}
	refused("too deep", shared(64, 1), []int{0, 0}, shared(63, 1), api.ErrLong)
	refused("too deep by one", within(x, 3), []int{0, 0, 0, 1}, shared(61, 1), api.ErrLong)
	refused("too many nodes", wide(of("a.b"), 1023), []int{5}, of("a.b", u), api.ErrLong)
	refused("too many nodes together", wide(of("a.b"), 600), []int{599}, wide(u, 600), api.ErrLong)
	refused("too many bytes", of("a.b", text(16384), of("a.b")), []int{1}, text(1), api.ErrLong)
	if !equal(x, sample()) {
		t.Error("P4.9: a refused call changed a tree")
	}
}

func TestPutAtTheEdges(t *testing.T) {
	for name, c := range map[string]struct {
		t       api.Tree
		p       []int
		u       api.Tree
		n, d, b int
	}{
		"64 deep": {shared(64, 1), []int{0, 0}, shared(62, 1), 64, 64, 0}, "as deep as may be": {within(sample(), 3), []int{0, 0, 0, 1}, shared(60, 1), 70, 64, 6},
		"1,024 nodes": {wide(of("a.b"), 1022), []int{5}, of("a.b", of("x.y")), 1024, 3, 0}, "many for many": {wide(wide(of("a.b"), 100), 1), []int{0}, wide(of("a.b"), 1022), 1024, 3, 0},
		"16,384 bytes": {of("a.b", text(16383), of("a.b")), []int{1}, text(1), 3, 2, 16384}, "bytes for bytes": {of("a.b", text(16384)), []int{0}, text(16384), 2, 2, 16384},
		"a great part goes": {of("a.b", shared(63, 1), text(16384)), []int{0}, shared(63, 1), 65, 64, 16384},
	} {
		got, e := tree.Put(c.t, c.p, c.u)
		if n, d, b := tree.Size(got); e != api.OK || n != c.n || d != c.d || b != c.b {
			t.Errorf("P4.6: %s: %d, %d, %d, %d", name, n, d, b, e)
		}
	}
	for _, x := range smallTrees() {
		for _, y := range smallTrees() {
			if got, e := tree.Put(x.t, nil, y.t); e != api.OK || !equal(got, y.t) {
				t.Errorf("P4.6: at the root: %.80s, %d", written(got), e)
			}
		}
	}
}

// gone tells what an iterator goes over, as text.
func gone(all iter.Seq2[[]int, api.Tree]) []string {
	var l []string
	for p, u := range all {
		l = append(l, fmt.Sprint(p, " ", written(u)))
	}
	return l
}

// wanted is what Each of the sample is to go over.
func wanted() []string {
	x := sample()
	var l []string
	for i, node := range flat(&x) {
		l = append(l, fmt.Sprint(rightPaths()[i], " ", written(*node)))
	}
	return l
}

func TestEach(t *testing.T) {
	if got := gone(tree.Each(sample())); !slices.Equal(got, wanted()) {
		t.Errorf("P4.7: %q", got)
	}
	for name, x := range greatTrees() {
		all := tree.Each(x)
		if all == nil || len(gone(all)) != 0 {
			t.Errorf("P4.7: nodes of %s", name)
		}
	}
	for name, x := range smallTrees() {
		n := 0
		var kinds []string
		for p, u := range tree.Each(x.t) {
			n++
			if at, e := tree.At(x.t, p); e != api.OK || !tree.Same(at, u) {
				t.Errorf("P4.7: %s at %v: %.80s, %d", name, p, written(u), e)
			}
			if !slices.Contains(kinds, u.Kind) {
				kinds = append(kinds, u.Kind)
			}
		}
		if n != x.nodes || !slices.Equal(kinds, tree.Kinds(x.t)) {
			t.Errorf("P4.7, P4.8: %s: %d nodes, %.80q", name, n, kinds)
		}
	}
}

func TestEachAgainAndWithin(t *testing.T) {
	all := tree.Each(sample())
	for left := range 9 {
		n := 0
		for p, u := range all {
			if n == left {
				break
			}
			if got := fmt.Sprint(p, " ", written(u)); got != wanted()[n] {
				t.Errorf("P4.7: left behind %d: %q", left, got)
			}
			n++
			if n == 3 && !slices.Equal(gone(all), wanted()) {
				t.Error("P4.7: gone over within itself")
			}
		}
		if n != min(left, 8) {
			t.Errorf("P4.7: left behind %d, gone over %d", left, n)
		}
	}
	next, stop := iter.Pull2(all)
	defer stop()
	for i := range 8 {
		p, u, ok := next()
		if !ok || fmt.Sprint(p, " ", written(u)) != wanted()[i] || i%3 == 0 && !slices.Equal(gone(all), wanted()) {
			t.Errorf("P4.7: pulled %d: %v, %s", i, p, written(u))
		}
	}
}

func TestEachIsOnItsOwn(t *testing.T) {
	x := sample()
	all := tree.Each(x)
	scribble(x)
	x.Kind = "changed"
	if !slices.Equal(gone(all), wanted()) {
		t.Error("P4.7: a change behind the call is seen")
	}
	var paths [][]int
	var trees []api.Tree
	for p, u := range all {
		paths, trees = append(paths, p), append(trees, u)
	}
	for i := range trees {
		if got := fmt.Sprint(paths[i], " ", written(trees[i])); got != wanted()[i] {
			t.Errorf("P4.7: one that is told writes over another: %q", got)
		}
		for j := range paths[i][:cap(paths[i])] {
			paths[i][:cap(paths[i])][j] = -5
		}
		scribble(trees[i])
	}
	n := 0
	for p, u := range all { // writing while it goes on
		if got := fmt.Sprint(p, " ", written(u)); got != wanted()[n] {
			t.Errorf("P4.7: what is told shares memory: %q", got)
		}
		n++
		_ = append(p, -7)
		for i := range p {
			p[i] = -9
		}
		scribble(u)
	}
	if n != 8 || !slices.Equal(gone(all), wanted()) {
		t.Error("P4.7: what is told shares memory")
	}
}

func TestEachLeftByAPanic(t *testing.T) {
	all := tree.Each(sample())
	func() {
		defer func() { _ = recover() }()
		for range all {
			panic("left")
		}
	}()
	if !slices.Equal(gone(all), wanted()) {
		t.Error("P4.7: it can't be gone over again")
	}
}

func TestKinds(t *testing.T) {
	many := of("a.b")
	var want []string
	for i := range 1023 {
		many.Kids = append(many.Kids, of(fmt.Sprint("k", i)))
	}
	want = append(want, "a.b")
	for i := range 1023 {
		want = append(want, fmt.Sprint("k", i))
	}
	for _, c := range []struct {
		t     api.Tree
		kinds []string
	}{
		{sample(), []string{"a.b", "c.d", "e.f", "no name", "g.h"}}, {of("a.b", of("c.d"), of("a.b"), of("c.d")), []string{"a.b", "c.d"}}, {api.Tree{}, []string{""}},
		{of("z", of("y", of("b")), of("x"), of("a")), []string{"z", "y", "b", "x", "a"}}, {shared(10, 2), []string{"a.b"}}, {many, want},
	} {
		got := tree.Kinds(c.t)
		if !slices.Equal(got, c.kinds) {
			t.Errorf("P4.8: %.80q", got)
		}
		got[0] = "written over"
		_ = append(got, "behind")
		if !slices.Equal(tree.Kinds(c.t), c.kinds) {
			t.Error("P4.9: kinds are kept")
		}
	}
	for name, x := range greatTrees() {
		if got := tree.Kinds(x); len(got) != 0 {
			t.Errorf("P4.8: %s: %q", name, got)
		}
	}
}

func TestNothingIsChanged(t *testing.T) {
	x := sample()
	x.Kids = append(make([]api.Tree, 0, 5), x.Kids...)
	x.Kids[:5][3] = of("spare.room")
	p := append(make([]int, 0, 5), 0, 1)
	p[:3][2] = 42
	u := of("x.y", of("y.z"))
	before := written(x) + written(u)
	tree.May(x)
	tree.Size(x)
	tree.Same(x, u)
	tree.Copy(x)
	tree.At(x, p)
	got, _ := tree.Put(x, p, u)
	gone(tree.Each(x))
	tree.Kinds(x)
	if written(x)+written(u) != before || x.Kids[:4][3].Kind != "spare.room" || !slices.Equal(p[:3], []int{0, 1, 42}) {
		t.Error("P4.9: what was handed in is changed")
	}
	kept := written(got)
	scribble(x)
	scribble(u)
	if written(got) != kept {
		t.Error("P4.9: what was handed in is kept")
	}
}

func TestSpareRoomIsNotShared(t *testing.T) {
	spare := make([]api.Tree, 2)
	leaf := api.Tree{Kind: "a.b", Kids: spare[:0]}
	x := of("a.b", leaf, of("c.d", leaf))
	answers := []api.Tree{}
	take := func(u api.Tree, _ api.Errno) { answers = append(answers, u) }
	take(tree.Copy(x))
	take(tree.Copy(leaf))
	take(tree.At(x, []int{0}))
	take(tree.At(x, []int{1}))
	take(tree.Put(x, []int{1}, leaf))
	take(tree.Put(leaf, nil, x))
	for _, u := range tree.Each(x) {
		answers = append(answers, u)
	}
	for _, u := range answers {
		for _, node := range flat(&u) {
			_ = append(node.Kids, of("behind"))
		}
		scribble(u)
	}
	if !equal(spare[0], api.Tree{}) || !equal(spare[1], api.Tree{}) {
		t.Error("P0.3: an answer has an argument's spare room")
	}
}

func TestSeveralGoroutines(t *testing.T) {
	x := sample()
	each := tree.Each(x)
	var all sync.WaitGroup
	for range 8 {
		all.Go(func() {
			for i := range 50 {
				u, e := tree.Put(x, []int{2, 0}, api.Tree{Num: int64(i)})
				at, f := tree.At(u, []int{2, 0})
				if e != api.OK || f != api.OK || at.Num != int64(i) || len(tree.Kinds(x)) != 5 || !slices.Equal(gone(each), wanted()) {
					t.Error("P4.9: an answer hangs on other calls")
				}
			}
		})
	}
	all.Wait()
}

func TestExamples(t *testing.T) {
	x := of("a.b", of("c.d"), of("e.f", of("g.h")))
	for _, c := range []struct {
		p    []int
		kind string
		e    api.Errno
	}{{[]int{1, 0}, "g.h", api.OK}, {[]int{2}, "", api.ErrBounds}, {[]int{0, 0}, "", api.ErrBounds}} {
		if u, e := tree.At(x, c.p); u.Kind != c.kind || e != c.e {
			t.Errorf("P4.5: at %v: %s, %d", c.p, written(u), e)
		}
	}
	if u, e := tree.Put(of("a.b", of("c.d")), []int{0}, of("x.y")); e != api.OK || !tree.Same(u, of("a.b", of("x.y"))) {
		t.Errorf("P4.6: %s, %d", written(u), e)
	}
	if u, e := tree.Put(of("a.b"), nil, of("x.y")); e != api.OK || !tree.Same(u, of("x.y")) {
		t.Errorf("P4.6: %s, %d", written(u), e)
	}
	var got []string
	for p, u := range tree.Each(of("a.b", of("c.d", of("e.f")), of("g.h"))) {
		got = append(got, fmt.Sprint(p, u.Kind))
	}
	if want := []string{"[]a.b", "[0]c.d", "[0 0]e.f", "[1]g.h"}; !slices.Equal(got, want) {
		t.Errorf("P4.7: %q", got)
	}
}
