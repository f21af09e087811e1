package moot_test

import (
	"math"
	"math/rand"
	"reflect"
	"slices"
	"testing"

	"moot/api"
	"moot/moot"
)

// read is the one clause of a text without its end.
func read(t *testing.T, text string) []api.Literal {
	t.Helper()
	list, at, e := moot.Read(text + ".")
	if e != api.OK || len(list) != 1 {
		t.Fatalf("Read(%q.) = %v, %d, %d", text, list, at, e)
	}
	return list[0]
}

// terms are those of a text, parted by commas; their variables are numbered together.
func terms(t *testing.T, text string) [][]api.Node {
	t.Helper()
	c := read(t, "list("+text+")")
	var list [][]api.Node
	for rest := c[0].Atom[1:]; len(rest) > 0; {
		_, behind := treeOf(rest, 0)
		list = append(list, rest[:len(rest)-len(behind)])
		rest = behind
	}
	return list
}

func TestUnifyTerms(t *testing.T) {
	for _, c := range []struct{ both, want string }{
		{"a, a", "a"},
		{"a, b", ""},
		{"X, X", "X"},
		{"X, Y", "X"},
		{"X, a", "a"},
		{"a, X", "a"},
		{"X, f(Y)", "f(X)"},
		{"f(Y), X", "f(X)"},
		{"X, f(X)", ""},
		{"f(X), X", ""},
		{"f(X), f(X)", "f(X)"},
		{"f(X), f(f(X))", ""},
		{"f(X), g(X)", ""},
		{"f(X), a", ""},
		{"g(X, Y), g(Y, X)", "g(X, X)"},
		{"g(X, Y), g(Y, Z)", "g(X, X)"},
		{"g(X, Y), g(Z, V)", "g(X, Y)"},
		{"g(Z, Y), g(Z, Z)", "g(X, X)"},
		{"g(X, a), g(b, X)", ""},
		{"g(X, a), g(Y, Y)", "g(a, a)"},
		{"g(X, f(X)), g(Y, Y)", ""},
		{"g(X, Y), g(f(Y), f(X))", ""},
		{"g(X, Y), g(f(Y), f(Z))", "g(f(f(X)), f(X))"},
		{"h(X, Y, Z), h(f(Y), f(Z), f(X))", ""},
		{"h(X, Y, Z), h(Y, Z, a)", "h(a, a, a)"},
		{"h(X, Y, Z), h(Y, Z, X)", "h(X, X, X)"},
		{"h(X, X, Y), h(f(Y), f(Z), a)", "h(f(a), f(a), a)"},
		{"h(X, X, Y), h(f(Y), f(b), a)", ""},
		{"h(X, f(X), f(f(X))), h(Y, Z, f(Z))", "h(X, f(X), f(f(X)))"},
		{"k(X, Y, Z, V, V), k(Y, Z, V, a, W)", "k(a, a, a, a, a)"},
	} {
		l := terms(t, c.both)
		for _, turned := range []bool{false, true} {
			if turned {
				slices.Reverse(l)
			}
			got, ok, e := moot.Unify(l[0], l[1])
			if ok != (c.want != "") || e != api.OK || !ok && len(got) > 0 || ok && !reflect.DeepEqual(got, terms(t, c.want)[0]) {
				t.Errorf("Unify(%s), turned %t = %v, %t, %d, want %q", c.both, turned, got, ok, e, c.want)
			}
		}
	}
}

// Atoms are unified like terms, and a name may be several things.
func TestUnifyNames(t *testing.T) {
	for _, c := range []struct {
		a, b, want []api.Node
	}{
		{[]api.Node{f("p", 1), v(0)}, []api.Node{f("p", 1), f("p", 0)}, []api.Node{f("p", 1), f("p", 0)}},
		{[]api.Node{f("p", 1), v(0)}, []api.Node{f("p", 0)}, nil},
		{[]api.Node{f("p", 1), v(0)}, []api.Node{f("p", 2), v(1), v(2)}, nil},
		{[]api.Node{f("p", 0)}, []api.Node{f("P", 0)}, nil},
		{[]api.Node{v(59)}, []api.Node{v(59)}, []api.Node{v(0)}},
		{[]api.Node{v(59)}, []api.Node{v(7)}, []api.Node{v(0)}},
		{[]api.Node{f("g", 2), v(59), v(58)}, []api.Node{f("g", 2), v(3), f("f", 1), v(3)}, []api.Node{f("g", 2), v(0), f("f", 1), v(0)}},
		{[]api.Node{f("g", 2), v(9), v(4)}, []api.Node{v(0)}, []api.Node{f("g", 2), v(0), v(1)}},
		{[]api.Node{f(times("\U0001F600", 20), 0)}, []api.Node{v(0)}, []api.Node{f(times("\U0001F600", 20), 0)}},
		{[]api.Node{f("X0", 0)}, []api.Node{f("X0", 0)}, []api.Node{f("X0", 0)}},
	} {
		got, ok, e := moot.Unify(c.a, c.b)
		if ok != (c.want != nil) || e != api.OK || !slices.Equal(got, c.want) {
			t.Errorf("Unify(%v, %v) = %v, %t, %d, want %v", c.a, c.b, got, ok, e, c.want)
		}
	}
}

// pairs lists terms: pair(first, pair(second, .. end)).
func pairs(list ...[]api.Node) []api.Node {
	var nodes []api.Node
	for _, l := range list {
		nodes = append(append(nodes, f("pair", 2)), l...)
	}
	return append(nodes, f("end", 0))
}

// towers lists variables, and what each shall be: the variable n is two of n-1, up to high. What is put behind comes last on both sides.
func towers(high int, variable, shall []api.Node) (a, b []api.Node) {
	var left, right [][]api.Node
	for n := 1; n <= high; n++ {
		left = append(left, []api.Node{v(n)})
		right = append(right, []api.Node{f("g", 2), v(n - 1), v(n - 1)})
	}
	return pairs(append(left, variable)...), pairs(append(right, shall)...)
}

func TestUnifyCountsWhatIsMade(t *testing.T) {
	last := v(20)
	// With six towers the list has 253 nodes, and 1 + 1 + 127 + 63 + 31 + 15 + 1 + 1 + 7 behind them: 500.
	full := []api.Node{f("h", 5), v(6), v(5), v(4), v(3), f("f", 1), f("f", 1), v(2)}
	a, b := towers(6, []api.Node{last}, full)
	for range 2 {
		got, ok, e := moot.Unify(a, b)
		if want, _ := treeUnify(a, b); len(got) != 500 || !ok || e != api.OK || !slices.Equal(got, want) {
			t.Errorf("Unify to 500 nodes = %d nodes, %t, %d", len(got), ok, e)
		}
		a, b = b, a
	}
	over := slices.Insert(slices.Clone(full), 5, f("f", 1))
	a, b = towers(6, []api.Node{last}, over)
	for range 2 {
		if got, ok, e := moot.Unify(a, b); len(got) != 0 || ok || e != api.ErrMany {
			t.Errorf("Unify to 501 nodes = %d nodes, %t, %d", len(got), ok, e)
		}
		a, b = b, a
	}
}

func TestUnifyToFarTooMuch(t *testing.T) {
	end := []api.Node{f("a", 0)}
	for high := 8; high <= 13; high++ {
		a, b := towers(high, end, end)
		if got, ok, e := moot.Unify(a, b); len(got) != 0 || ok || e != api.ErrMany {
			t.Errorf("Unify of %d towers = %d nodes, %t, %d", high, len(got), ok, e)
		}
		// Whether they can be unified comes ahead of how much it is.
		a, b = towers(high, end, []api.Node{f("b", 0)})
		if got, ok, e := moot.Unify(a, b); len(got) != 0 || ok || e != api.OK {
			t.Errorf("Unify of %d towers and two names = %d nodes, %t, %d", high, len(got), ok, e)
		}
		a, b = towers(high, []api.Node{v(0)}, []api.Node{v(high)})
		if got, ok, e := moot.Unify(a, b); len(got) != 0 || ok || e != api.OK {
			t.Errorf("Unify of %d towers in a ring = %d nodes, %t, %d", high, len(got), ok, e)
		}
	}
}

// wrongTerms are none.
func wrongTerms() [][]api.Node {
	return [][]api.Node{
		nil,
		{},
		{v(60)},
		{v(-1)},
		{v(math.MaxInt)},
		{v(math.MinInt)},
		{v(0), v(0)},
		{f("a", 0), v(0)},
		{f("a", 1)},
		{f("a", -1)},
		{f("a", math.MaxInt)},
		{f("a", math.MinInt)},
		{f("f", 2), v(0)},
		{f("f", 1), v(0), v(0)},
		{f("f", 6), v(0), v(0), v(0), v(0), v(0), v(0)},
		{f("f", 1), v(60)},
		{f("\n", 0)},
		{f("a\n", 0)},
		{f("\xff", 0)},
		{f("a\xc3", 0)},
		{f(times("a", 21), 0)},
		{f(times("é", 21), 0)},
		{f("f", 1), f(times("a", 21), 0)},
		{f(times("a", 1<<20), 0)},
		slices.Repeat([]api.Node{f("f", 1)}, 60),
		append(slices.Repeat([]api.Node{f("f", 1)}, 60), v(0)),
		slices.Repeat([]api.Node{v(0)}, 100000),
	}
}

func TestUnifyRefuses(t *testing.T) {
	for _, l := range wrongTerms() {
		for _, other := range append(wrongTerms(), []api.Node{v(0)}, []api.Node{f("a", 0)}, []api.Node{f("f", 1), v(0)}) {
			if got, ok, e := moot.Unify(l, other); len(got) != 0 || ok || e != api.ErrTerm {
				t.Errorf("Unify(%.60v, %.60v) = %v, %t, %d", l, other, got, ok, e)
			}
			if got, ok, e := moot.Unify(other, l); len(got) != 0 || ok || e != api.ErrTerm {
				t.Errorf("Unify(%.60v, %.60v) = %v, %t, %d", other, l, got, ok, e)
			}
		}
	}
	long := append(slices.Repeat([]api.Node{f("f", 1)}, 59), v(59))
	got, ok, e := moot.Unify(long, []api.Node{v(0)})
	if !ok || e != api.OK || len(got) != 60 || got[59] != v(0) {
		t.Errorf("Unify of 60 nodes and a variable = %v, %t, %d", got, ok, e)
	}
}

func TestUnifyLikeTrees(t *testing.T) {
	r := rand.New(rand.NewSource(4))
	counts := map[bool]int{}
	for range 60000 {
		variables := 1 + r.Intn(6)
		a := append(append([]api.Node{f("p", 2)}, grow(r, 3, variables)...), grow(r, 3, variables)...)
		b := append(append([]api.Node{f("p", 2)}, grow(r, 3, variables)...), grow(r, 3, variables)...)
		want, can := treeUnify(a, b)
		got, ok, e := moot.Unify(a, b)
		if ok != can || e != api.OK || !slices.Equal(got, want) {
			t.Fatalf("Unify(%v, %v) = %v, %t, %d, want %v, %t", a, b, got, ok, e, want, can)
		}
		counts[ok]++
	}
	if counts[true] < 5000 || counts[false] < 5000 {
		t.Errorf("the terms by chance are one-sided: %v", counts)
	}
}
