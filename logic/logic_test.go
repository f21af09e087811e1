package logic_test

import (
	"math"
	"reflect"
	"slices"
	"strings"
	"testing"

	"moot/api"
	"moot/logic"
)

func v(n int) api.Node { return api.Node{N: n} }

func f(name string, parts int) api.Node { return api.Node{Name: name, N: parts} }

func is(nodes ...api.Node) api.Literal { return api.Literal{Atom: nodes} }

func not(nodes ...api.Node) api.Literal { return api.Literal{Not: true, Atom: nodes} }

func TestIsName(t *testing.T) {
	for name, want := range map[string]bool{
		"a": true, "A b": true, "'": true, "\uFFFD": true, "\x00": true, strings.Repeat("\U0001F600", 20): true,
		"": false, "\n": false, "a\n": false, "\xff": false, "\xc3": false, strings.Repeat("a", 21): false, strings.Repeat("é", 21): false, strings.Repeat("a", 1<<20): false,
	} {
		if got := logic.IsName(name); got != want {
			t.Errorf("IsName(%.30q) = %t", name, got)
		}
	}
}

func TestIsTerm(t *testing.T) {
	for _, c := range []struct {
		nodes      []api.Node
		term, atom bool
	}{
		{nil, false, false},
		{[]api.Node{v(0)}, true, false},
		{[]api.Node{v(59)}, true, false},
		{[]api.Node{v(60)}, false, false},
		{[]api.Node{v(-1)}, false, false},
		{[]api.Node{f("a", 0)}, true, true},
		{[]api.Node{f("a", 1)}, false, false},
		{[]api.Node{f("a", -1)}, false, false},
		{[]api.Node{f("a", 0), v(0)}, false, false},
		{[]api.Node{f("f", 2), f("g", 1), v(7), f("a", 0)}, true, true},
		{[]api.Node{f("f", 2), f("g", 1), v(7)}, false, false},
		{[]api.Node{f("f", 5), v(0), v(0), v(0), v(0), v(0)}, true, true},
		{[]api.Node{f("f", 6), v(0), v(0), v(0), v(0), v(0), v(0)}, false, false},
		{[]api.Node{f("f", math.MaxInt), v(0)}, false, false},
		{[]api.Node{f("f", 1), f("\n", 0)}, false, false},
		{append(slices.Repeat([]api.Node{f("f", 1)}, 59), v(0)), true, true},
		{append(slices.Repeat([]api.Node{f("f", 1)}, 60), v(0)), false, false},
	} {
		if got := logic.IsTerm(c.nodes); got != c.term {
			t.Errorf("IsTerm(%v) = %t", c.nodes, got)
		}
		if got := logic.IsAtom(c.nodes); got != c.atom {
			t.Errorf("IsAtom(%v) = %t", c.nodes, got)
		}
	}
}

func TestOrder(t *testing.T) {
	given := []api.Literal{is(f("p", 2), v(7), v(3)), not(f("p", 2), v(7), v(3)), is(f("p", 2), v(7), v(3)), is(f("p", 2), v(3), v(7)), is(f("q", 1), v(-4))}
	want := []api.Literal{is(f("p", 2), v(0), v(1)), not(f("p", 2), v(0), v(1)), is(f("p", 2), v(1), v(0)), is(f("q", 1), v(2))}
	got := logic.Order(given)
	if !reflect.DeepEqual(got, want) {
		t.Errorf("Order = %v, want %v", got, want)
	}
	if !reflect.DeepEqual(given[0], is(f("p", 2), v(7), v(3))) || len(given) != 5 {
		t.Errorf("Order changed what it was given: %v", given)
	}
	got[0].Atom[0] = f("spoilt", 2)
	if given[0].Atom[0] != f("p", 2) {
		t.Errorf("Order answers an atom that it was given")
	}
	if !logic.IsClause(want) || logic.IsClause(given) {
		t.Errorf("IsClause does not tell what is in order")
	}
	if got := logic.Order(nil); len(got) != 0 || !logic.IsClause(got) {
		t.Errorf("Order(nil) = %v", got)
	}
}

func TestIsIdle(t *testing.T) {
	p, q := []api.Node{f("p", 1), v(0)}, []api.Node{f("p", 1), v(1)}
	for _, c := range []struct {
		clause []api.Literal
		want   bool
	}{
		{nil, false},
		{[]api.Literal{is(p...)}, false},
		{[]api.Literal{not(p...)}, false},
		{[]api.Literal{is(p...), is(q...)}, false},
		{[]api.Literal{is(p...), not(q...)}, false},
		{[]api.Literal{is(p...), not(p...)}, true},
		{[]api.Literal{not(p...), is(q...), is(p...)}, true},
		{[]api.Literal{is(p...), not(q...), is(q...)}, true},
		{[]api.Literal{is(f("p", 1), f("a", 0)), not(f("p", 1), f("b", 0))}, false},
	} {
		if got := logic.IsIdle(c.clause); got != c.want {
			t.Errorf("IsIdle(%v) = %t", c.clause, got)
		}
	}
}

func TestAtOdds(t *testing.T) {
	for _, c := range []struct {
		literals []api.Literal
		want     int
	}{
		{nil, -1},
		{[]api.Literal{is(f("p", 1), v(0)), not(f("p", 1), f("a", 0))}, -1},
		{[]api.Literal{is(f("p", 1), f("a", 0)), not(f("a", 0))}, 2},
		{[]api.Literal{is(f("p", 1), f("p", 0))}, 1},
		{[]api.Literal{is(f("p", 2), v(0), v(0)), not(f("p", 1), v(0)), is(f("p", 3), v(0), v(0), v(0))}, 1},
		{[]api.Literal{is(f("p", 6), v(0), v(0), v(0), v(0), v(0), f("p", 0))}, 0},
	} {
		if got := logic.AtOdds(logic.Uses(c.literals)); got != c.want {
			t.Errorf("AtOdds(%v) = %d, want %d", c.literals, got, c.want)
		}
	}
}

func TestEnd(t *testing.T) {
	nodes := []api.Node{f("f", 2), f("g", 1), v(7), f("f", 2), f("a", 0), v(0)}
	for at, want := range []int{6, 3, 3, 6, 5, 6} {
		if got := logic.End(nodes, at); got != want {
			t.Errorf("End(%v, %d) = %d, want %d", nodes, at, got, want)
		}
	}
}

func TestParts(t *testing.T) {
	for n, want := range map[api.Node]int{v(0): 0, v(7): 0, f("a", 0): 0, f("f", 3): 3} {
		if got := logic.Parts(n); got != want {
			t.Errorf("Parts(%v) = %d, want %d", n, got, want)
		}
	}
}
