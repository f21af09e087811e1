package unify_test

import (
	"reflect"
	"testing"

	"moot/api"
	"moot/unify"
)

func v(n int) api.Node { return api.Node{N: n} }

func f(name string, parts int) api.Node { return api.Node{Name: name, N: parts} }

func TestOwnersHaveVariablesOfTheirOwn(t *testing.T) {
	terms := unify.New(3)
	x, fx := terms.Add(0, []api.Node{v(0)}), terms.Add(1, []api.Node{f("f", 1), v(0)})
	if !terms.Unify(x, fx) {
		t.Errorf("the variables of two owners are taken for one")
	}
	terms = unify.New(3)
	x, fx = terms.Add(1, []api.Node{v(0)}), terms.Add(1, []api.Node{f("f", 1), v(0)})
	if terms.Unify(x, fx) {
		t.Errorf("a variable is unified with what it is a part of")
	}
}

// A term that comes later is made what its variables were made before.
func TestMadeOfLaterTerms(t *testing.T) {
	terms := unify.New(3)
	x, a := terms.Add(0, []api.Node{v(3)}), terms.Add(0, []api.Node{f("f", 1), f("a", 0)})
	if !terms.Unify(x, a) {
		t.Fatalf("a variable and f(a) cannot be unified")
	}
	got, ok := terms.Made(terms.Add(0, []api.Node{f("g", 2), v(3), f("b", 0)}))
	if want := []api.Node{f("g", 2), f("f", 1), f("a", 0), f("b", 0)}; !ok || !reflect.DeepEqual(got, want) {
		t.Errorf("made %v, %t, want %v", got, ok, want)
	}
}

func TestUnifyMoreThanOnce(t *testing.T) {
	terms := unify.New(3)
	x, fy := terms.Add(0, []api.Node{v(0)}), terms.Add(0, []api.Node{f("f", 1), v(1)})
	y, gz := terms.Add(0, []api.Node{v(1)}), terms.Add(0, []api.Node{f("g", 1), v(2)})
	if !terms.Unify(x, fy) || !terms.Unify(y, gz) {
		t.Fatalf("variables and other terms cannot be unified")
	}
	if got, ok := terms.Made(x); !ok || len(got) != 3 || got[0] != f("f", 1) || got[1] != f("g", 1) {
		t.Errorf("made %v, %t, want f of g of a variable", got, ok)
	}
	if terms.Unify(terms.Add(0, []api.Node{v(2)}), x) {
		t.Errorf("a variable is unified with what it became a part of")
	}
}
