package shape_test

// The tests of what package sort does not show of shapes: its own tests go through the rest.

import (
	"testing"

	"espalier/api"
	"espalier/shape"
)

func leaf(name string) shape.Shape { return shape.Shape{Leaf: name} }

func lists(n int, name string) shape.Shape { return shape.Shape{Lists: n, Leaf: name} }

func TestFixed(t *testing.T) {
	for _, c := range []struct{ x, want shape.Shape }{
		{leaf("a"), leaf("A")}, {lists(3, "z"), lists(3, "Z")}, {leaf("int"), leaf("int")}, {lists(1, "text"), lists(1, "text")}, {leaf("7"), leaf("7")},
	} {
		if got := c.x.Fixed(); got != c.want {
			t.Errorf("%v: %v", c.x, got)
		}
	}
	if _, e := shape.Of(leaf("a").Fixed().Sort()); e != api.ErrSort {
		t.Errorf("a sort of its own may be told as a sort")
	}
}

func TestMeet(t *testing.T) {
	for _, c := range []struct {
		a, b shape.Shape
		want bool
	}{
		{leaf("A"), leaf("A"), true}, {leaf("A"), leaf("B"), false}, {leaf("A"), leaf("int"), false}, {leaf("A"), lists(1, "A"), false}, {lists(2, "A"), lists(2, "A"), true},
		{leaf("a"), leaf("A"), true}, {lists(1, "a"), lists(5, "A"), true}, {lists(1, "A"), leaf("a"), true}, {lists(2, "a"), lists(1, "A"), false}, {leaf("a"), lists(1, "a"), false},
		{lists(1000, "a"), lists(5000, "int"), true}, {lists(5000, "text"), lists(1000, "A"), false},
	} {
		s := shape.NewSolver()
		if got := s.Meet(c.a, c.b); got != c.want {
			t.Errorf("%v and %v: %v", c.a, c.b, got)
		}
		if c.want && s.Found(c.a) != s.Found(c.b) {
			t.Errorf("%v and %v: not the same: %v, %v", c.a, c.b, s.Found(c.a), s.Found(c.b))
		}
		if !c.want && (s.Found(c.a) != c.a || s.Found(c.b) != c.b) {
			t.Errorf("%v and %v: something is found out", c.a, c.b)
		}
	}
}

func TestFresh(t *testing.T) {
	s := shape.NewSolver()
	a, b := s.Fresh(), s.Fresh()
	if a == b || !s.Meet(a, leaf("int")) || !s.Meet(b, leaf("text")) || s.Meet(a, b) {
		t.Errorf("two new variables are one: %v, %v", a, b)
	}
	if x := s.Found(a.Within(2)); x != lists(2, "int") {
		t.Errorf("%v", x)
	}
}
