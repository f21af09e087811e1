package moot_test

import (
	"math"
	"math/rand"
	"slices"
	"testing"

	"moot/api"
	"moot/moot"
)

// made holds what Resolve or Factor answered against a clause's text, or against there being none.
func made(t *testing.T, call string, got []api.Literal, ok bool, e api.Errno, want string) {
	t.Helper()
	if ok != (want != "") || e != api.OK || !ok && len(got) > 0 || ok && !sameClause(got, read(t, want)) {
		t.Errorf("%s = %v, %t, %d, want %q", call, got, ok, e, want)
	}
}

func TestResolveClauses(t *testing.T) {
	for _, c := range []struct {
		one   string
		i     int
		other string
		j     int
		want  string
	}{
		{"p(X) | ~q(X, a)", 1, "q(Y, Y)", 0, "p(a)"},
		{"p", 0, "~p", 0, "$false"},
		{"~p", 0, "p", 0, "$false"},
		{"p", 0, "~q", 0, ""},
		{"p(a)", 0, "~p(b)", 0, ""},
		{"p(X)", 0, "~p(f(X))", 0, "$false"},
		{"p(X, f(X))", 0, "~p(Y, Y)", 0, ""},
		{"p(X, Y)", 0, "~p(f(Y), X)", 0, "$false"},
		// Their variables are others, though their numbers are the same.
		{"p(X) | q(X)", 0, "~p(f(X)) | r(X)", 0, "q(f(X)) | r(X)"},
		{"p(X, a) | q(X)", 0, "~p(b, X) | r(X)", 0, "q(b) | r(a)"},
		{"q(X) | p(a)", 1, "~p(Y) | r(X)", 0, "q(X) | r(Y)"},
		{"q(X) | p(a)", 1, "q(X) | ~p(a)", 1, "q(X) | q(Y)"},
		{"q(X) | p(X)", 1, "q(X) | ~p(X)", 1, "q(X)"},
		// c's literals come first, each in its place.
		{"a | p | b", 1, "c | ~p | d", 1, "a | b | c | d"},
		{"c | ~p | d", 1, "a | p | b", 1, "c | d | a | b"},
		{"p | ~p", 0, "p | ~p", 1, "~p | p"},
		{"p | ~p", 1, "p | ~p", 0, "p | ~p"},
		// What stood there already is left out, the first one stays.
		{"a | b | p", 2, "~p | b | c | a", 0, "a | b | c"},
		{"q(X) | q(Y) | p(X, Y)", 2, "~p(Z, Z)", 0, "q(X)"},
		{"q(X) | ~q(Y) | p(X, Y)", 2, "~p(Z, Z)", 0, "q(X) | ~q(X)"},
		{"p(X) | p(f(X))", 0, "~p(f(Y)) | p(f(f(Y)))", 0, "p(f(f(X)))"},
		// A literal that is the same as the one resolved upon, once made so, stays.
		{"p(X) | p(Y)", 0, "~p(Z)", 0, "p(X)"},
		{"p(X) | p(a)", 0, "~p(a)", 0, "p(a)"},
		// The numbers are new, as the variables stand first.
		{"p(X, Y, Z) | q(Z, Y, X)", 0, "~p(X, Y, Z) | r(Y)", 0, "q(A, B, C) | r(B)"},
		{"r(X, Y) | p(Y)", 1, "~p(f(V, W)) | s(W, V)", 0, "r(A, f(B, C)) | s(C, B)"},
	} {
		got, ok, e := moot.Resolve(read(t, c.one), c.i, read(t, c.other), c.j)
		made(t, "Resolve("+c.one+"; "+c.other+")", got, ok, e, c.want)
	}
}

func TestFactorClauses(t *testing.T) {
	for _, c := range []struct {
		clause string
		i, j   int
		want   string
	}{
		{"p(X) | p(f(Y))", 0, 1, "p(f(X))"},
		{"p(f(Y)) | p(X)", 0, 1, "p(f(X))"},
		{"p(a) | p(b)", 0, 1, ""},
		{"p(X) | q(X)", 0, 1, ""},
		{"p(X) | p(f(X))", 0, 1, ""},
		{"p(X, Y) | p(Y, X)", 0, 1, "p(X, X)"},
		{"~p(X, a) | ~p(b, Y)", 0, 1, "~p(b, a)"},
		{"p(X) | q(X, Y) | p(Y)", 0, 2, "p(X) | q(X, X)"},
		{"q(X, Y) | p(X) | p(a) | ~q(Y, X)", 1, 2, "q(a, X) | p(a) | ~q(X, a)"},
		{"p(X) | p(Y) | p(a)", 0, 1, "p(X) | p(a)"},
		{"p(X) | p(Y) | p(a)", 0, 2, "p(a) | p(X)"},
		{"p(X) | p(Y) | p(a)", 1, 2, "p(X) | p(a)"},
		{"q(X) | q(Y) | p(X) | p(Y)", 2, 3, "q(X) | p(X)"},
		{"~q(X) | q(Y) | p(X) | p(Y)", 2, 3, "~q(X) | q(X) | p(X)"},
		{"p(X, Y, Z) | q(Z, Y, X) | p(Y, X, V)", 0, 2, "p(A, A, B) | q(B, A, A)"},
	} {
		got, ok, e := moot.Factor(read(t, c.clause), c.i, c.j)
		made(t, "Factor("+c.clause+")", got, ok, e, c.want)
	}
}

// A name may be several things here.
func TestFollowsWithNames(t *testing.T) {
	c := clause(is(f("p", 1), v(0)), is(f("p", 0)), is(f("p", 1), f("p", 1), f("p", 0)))
	got, ok, e := moot.Factor(c, 0, 2)
	if want := clause(is(f("p", 1), f("p", 1), f("p", 0)), is(f("p", 0))); !ok || e != api.OK || !sameClause(got, want) {
		t.Errorf("Factor = %v, %t, %d, want %v", got, ok, e, want)
	}
	if got, ok, e := moot.Factor(c, 0, 1); len(got) != 0 || ok || e != api.OK {
		t.Errorf("Factor of p(X) and p = %v, %t, %d", got, ok, e)
	}
	if got, ok, e := moot.Resolve(c, 1, clause(not(f("p", 1), v(0))), 0); len(got) != 0 || ok || e != api.OK {
		t.Errorf("Resolve of p and p(X) = %v, %t, %d", got, ok, e)
	}
}

func TestResolveRefuses(t *testing.T) {
	fine := clause(is(f("p", 0)), not(f("p", 0)))
	for _, c := range wrongClauses() {
		for _, i := range []int{0, 1, -1, 100} {
			if got, ok, e := moot.Resolve(c, i, fine, 1); len(got) != 0 || ok || e != api.ErrTerm {
				t.Errorf("Resolve(%.80v, %d, p | ~p, 1) = %v, %t, %d", c, i, got, ok, e)
			}
			if got, ok, e := moot.Resolve(fine, 1, c, i); len(got) != 0 || ok || e != api.ErrTerm {
				t.Errorf("Resolve(p | ~p, 1, %.80v, %d) = %v, %t, %d", c, i, got, ok, e)
			}
			if got, ok, e := moot.Factor(c, i, 1); len(got) != 0 || ok || e != api.ErrTerm {
				t.Errorf("Factor(%.80v, %d, 1) = %v, %t, %d", c, i, got, ok, e)
			}
		}
	}
}

func TestResolvePlaces(t *testing.T) {
	c, d := read(t, "p | q | ~r"), read(t, "~p | q")
	for _, i := range []int{math.MinInt, -1, 0, 1, 2, 3, 4, math.MaxInt} {
		for _, j := range []int{math.MinInt, -1, 0, 1, 2, 3, math.MaxInt} {
			want := api.ErrPlace
			if j == 0 && (i == 0 || i == 1) || j == 1 && i == 2 {
				want = api.OK
			}
			got, ok, e := moot.Resolve(c, i, d, j)
			if e != want || ok != (i == 0 && j == 0) || !ok && len(got) > 0 {
				t.Errorf("Resolve at %d and %d = %v, %t, %d, want %d", i, j, got, ok, e, want)
			}
		}
	}
	if _, ok, e := moot.Resolve(nil, 0, d, 0); ok || e != api.ErrPlace {
		t.Errorf("Resolve of the empty clause = %t, %d", ok, e)
	}
	if _, ok, e := moot.Resolve(d, 0, nil, 0); ok || e != api.ErrPlace {
		t.Errorf("Resolve with the empty clause = %t, %d", ok, e)
	}
}

func TestFactorPlaces(t *testing.T) {
	c := read(t, "p(X) | p(Y) | ~p(Z) | q | ~p(a)")
	for _, i := range []int{math.MinInt, -1, 0, 1, 2, 3, 4, 5, math.MaxInt} {
		for _, j := range []int{math.MinInt, -1, 0, 1, 2, 3, 4, 5, math.MaxInt} {
			want := api.ErrPlace
			if 0 <= i && i < j && j < 5 && c[i].Not == c[j].Not {
				want = api.OK
			}
			got, ok, e := moot.Factor(c, i, j)
			if e != want || ok != (i == 0 && j == 1 || i == 2 && j == 4) || !ok && len(got) > 0 {
				t.Errorf("Factor at %d and %d = %v, %t, %d, want %d", i, j, got, ok, e, want)
			}
		}
	}
	if _, ok, e := moot.Factor(nil, 0, 1); ok || e != api.ErrPlace {
		t.Errorf("Factor of the empty clause = %t, %d", ok, e)
	}
}

// doublings are two clauses. The first literals resolved upon, the first one's variable n is two of n-1, up to high. To the rest of each the literals beside are put.
func doublings(high int, one, other []api.Literal) (c, d []api.Literal) {
	var left, right [][]api.Node
	for n := range high {
		left = append(left, []api.Node{f("to", 2), v(n), v(n + 1)})
		right = append(right, []api.Node{f("to", 2), v(n), f("g", 2), v(n), v(n)})
	}
	c = clause(is(append([]api.Node{f("p", 1)}, pairs(left...)...)...))
	d = clause(not(append([]api.Node{f("p", 1)}, pairs(right...)...)...))
	return append(c, one...), append(d, other...)
}

func TestResolveCountsWhatIsMade(t *testing.T) {
	deep := func(n int, last api.Node) []api.Node { return append(slices.Repeat([]api.Node{f("f", 1)}, n), last) }
	// 255 + 127 + 63 + 31 nodes of four variables, the name, and 8 + 15.
	full := append([]api.Node{f("q", 5), v(7), v(6), v(5), v(4)}, deep(8, v(3))...)
	over := append([]api.Node{f("q", 5), v(7), v(6), v(5), v(4)}, deep(9, v(3))...)
	for _, c := range []struct {
		high       int
		one, other []api.Literal
		nodes      int // -1: too many
	}{
		{7, clause(is(full...)), nil, 500},
		{7, clause(is(over...)), nil, -1},
		{7, clause(is(full...)), clause(is(f("r", 0))), -1},
		{7, clause(is(f("q", 1), v(7))), clause(is(f("r", 0))), 257},
		{7, clause(is(f("q", 1), v(7)), not(f("q", 1), v(7))), nil, -1},
		{7, clause(is(f("q", 1), v(7)), is(f("q", 1), v(6))), nil, 256 + 128},
		// The same literal from both sides counts once.
		{7, clause(is(f("q", 2), v(6), v(6))), clause(is(f("q", 2), f("g", 2), v(5), v(5), v(6))), 255},
		{7, clause(is(f("q", 2), v(7), v(6))), clause(is(f("q", 2), f("g", 2), v(6), v(6), v(6))), 383},
		{8, clause(is(f("q", 1), v(8))), nil, -1},
		{9, clause(is(f("q", 1), v(9))), clause(is(f("r", 0))), -1},
		// What was unified does not stand in the resolvent: however much it is.
		{8, nil, nil, 0},
		{9, nil, clause(is(f("r", 0))), 1},
		{9, clause(is(f("r", 1), v(1))), clause(is(f("s", 0))), 5},
	} {
		one, other := doublings(c.high, c.one, c.other)
		for _, turned := range []bool{false, true} {
			if turned {
				one, other = other, one
			}
			got, ok, e := moot.Resolve(one, 0, other, 0)
			if c.nodes < 0 {
				if len(got) != 0 || ok || e != api.ErrMany {
					t.Errorf("Resolve of %d doublings, %v, %v = %d nodes, %t, %d, want too many", c.high, c.one, c.other, nodes(got), ok, e)
				}
				continue
			}
			if want, _ := treeResolve(one, 0, other, 0); nodes(got) != c.nodes || !ok || e != api.OK || !sameClause(got, want) {
				t.Errorf("Resolve of %d doublings, %v, %v = %d nodes, %t, %d, want %d", c.high, c.one, c.other, nodes(got), ok, e, c.nodes)
			}
		}
	}
}

func nodes(c []api.Literal) int {
	count := 0
	for _, l := range c {
		count += len(l.Atom)
	}
	return count
}

// Whether there is a resolvent comes ahead of how much it is.
func TestResolveNoneOfTooMuch(t *testing.T) {
	c, d := doublings(8, clause(is(f("q", 1), v(8))), nil)
	c[0].Atom[len(c[0].Atom)-1].Name = "other"
	if got, ok, e := moot.Resolve(c, 0, d, 0); len(got) != 0 || ok || e != api.OK {
		t.Errorf("Resolve of clauses that differ at last = %v, %t, %d", got, ok, e)
	}
}

func TestFactorCountsWhatIsMade(t *testing.T) {
	// 1 + 127 + 63 + 31 + 5 + 15 nodes.
	beside := is(f("r", 4), v(6), v(5), v(4), f("f", 1), f("f", 1), f("f", 1), f("f", 1), f("f", 1), f("g", 2), v(2), v(2))
	less := is(f("r", 4), v(6), v(5), v(4), f("f", 1), f("f", 1), f("f", 1), f("g", 2), v(2), v(2))
	a := f("a", 0)
	for _, c := range []struct {
		high  int
		rest  []api.Literal
		nodes int // -1: too many
	}{
		// What both literals are made has 2 to the power of high + 2 nodes.
		{5, nil, 128},
		{6, nil, 256},
		{6, clause(beside), 498},
		{6, clause(beside, is(f("s", 1), a)), 500},
		{6, clause(beside, is(f("s", 2), a, a)), -1},
		// What becomes the same counts once.
		{6, clause(less, is(f("s", 2), v(40), v(40)), is(f("s", 2), a, v(40))), 499},
		{6, clause(less, is(f("s", 2), v(40), v(40)), not(f("s", 2), a, v(40))), -1},
		{7, nil, -1},
		{8, nil, -1},
	} {
		one := doubledFactor(c.high, c.rest)
		got, ok, e := moot.Factor(one, 0, 1)
		if c.nodes < 0 {
			if len(got) != 0 || ok || e != api.ErrMany {
				t.Errorf("Factor of %d towers, %v = %d nodes, %t, %d, want too many", c.high, c.rest, nodes(got), ok, e)
			}
			continue
		}
		if want, _ := treeFactor(one, 0, 1); nodes(got) != c.nodes || !ok || e != api.OK || !sameClause(got, want) {
			t.Errorf("Factor of %d towers, %v = %d nodes, %t, %d, want %d", c.high, c.rest, nodes(got), ok, e, c.nodes)
		}
	}
}

// doubledFactor is a clause in order, the first two literals of which make the variable n two of n-1, up to high, and the variable 40 a.
func doubledFactor(high int, rest []api.Literal) []api.Literal {
	a, b := towers(high, []api.Node{v(40)}, []api.Node{f("a", 0)})
	one, other := not(append([]api.Node{f("q", 1)}, a...)...), not(append([]api.Node{f("q", 1)}, b...)...)
	return orderTrees(treesOf(append(clause(one, other), rest...), 0))
}

// They may be above the size of a clause.
func TestFollowsAboveTheSize(t *testing.T) {
	got, ok, e := moot.Resolve(read(t, "p | a | b | c | d | e | f | g"), 0, read(t, "~p | h | i | j | k | l | m | n"), 0)
	made(t, "Resolve", got[:min(8, len(got))], ok, e, "a | b | c | d | e | f | g | h")
	if len(got) != 14 {
		t.Errorf("Resolve of two clauses with 8 literals = %v", got)
	}
	c := clause(is(f("p", 1), v(0)), is(append(slices.Repeat([]api.Node{f("p", 1)}, 40), v(1))...), is(f("q", 2), v(0), v(0)))
	if got, ok, e := moot.Factor(c, 0, 1); !ok || e != api.OK || nodes(got) != 41+1+80 {
		t.Errorf("Factor = %v, %t, %d", got, ok, e)
	}
}

func TestFollowsLikeTrees(t *testing.T) {
	r := rand.New(rand.NewSource(6))
	counts := map[bool]int{}
	for range 20000 {
		c, d := growClause(r, 1+r.Intn(4), 1+r.Intn(4)), growClause(r, 1+r.Intn(4), 1+r.Intn(4))
		for i := range c {
			for j := range d {
				if c[i].Not != d[j].Not {
					want, can := treeResolve(c, i, d, j)
					got, ok, e := moot.Resolve(c, i, d, j)
					if ok != can || e != api.OK || !sameClause(got, want) {
						t.Fatalf("Resolve(%v, %d, %v, %d) = %v, %t, %d, want %v, %t", c, i, d, j, got, ok, e, want, can)
					}
					counts[ok]++
				}
			}
			for j := i + 1; j < len(c); j++ {
				if c[i].Not == c[j].Not {
					want, can := treeFactor(c, i, j)
					got, ok, e := moot.Factor(c, i, j)
					if ok != can || e != api.OK || !sameClause(got, want) {
						t.Fatalf("Factor(%v, %d, %d) = %v, %t, %d, want %v, %t", c, i, j, got, ok, e, want, can)
					}
					counts[ok]++
				}
			}
		}
	}
	if counts[true] < 5000 || counts[false] < 5000 {
		t.Errorf("the clauses by chance are one-sided: %v", counts)
	}
}
