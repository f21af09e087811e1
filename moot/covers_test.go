package moot_test

import (
	"math/rand"
	"slices"
	"testing"

	"moot/api"
	"moot/moot"
)

func TestCoversClauses(t *testing.T) {
	for _, c := range []struct {
		one, other string
		want       bool
	}{
		{"$false", "$false", true},
		{"$false", "p", true},
		{"p", "$false", false},
		{"p", "p", true},
		{"p", "~p", false},
		{"~p", "~p", true},
		{"p", "q", false},
		{"p", "q | p", true},
		{"p | q", "q | p", true},
		{"p | q", "q | p | r", true},
		{"p | q", "p | r", false},
		{"p(X)", "p(X)", true},
		{"p(X)", "p(f(Y))", true},
		{"p(f(X))", "p(Y)", false},
		{"p(f(X))", "p(f(f(X)))", true},
		{"p(a)", "p(X)", false},
		{"p(X, X)", "p(X, Y)", false},
		{"p(X, X)", "p(f(Y), f(Y))", true},
		{"p(X, X)", "p(f(Y), f(Z))", false},
		{"p(X, Y)", "p(Y, X)", true},
		{"p(X, f(X))", "p(Y, f(Y))", true},
		{"p(X, f(Y))", "p(f(Y), f(f(Y)))", true},
		{"p(X, f(X))", "p(f(Y), Y)", false},
		// The one's variables are not the other's.
		{"p(X, Y)", "p(f(Y), X)", true},
		{"p(X, Y)", "p(Y, f(X))", true},
		{"p(f(X), Y)", "p(f(Y), X)", true},
		// No more literals: the factor of a clause does not make that cover it.
		{"p(X) | p(Y)", "p(Z)", false},
		{"p(X) | p(Y)", "p(Z) | p(f(Z))", true},
		{"p(X) | p(f(Y))", "p(f(X))", false},
		{"p(X0) | p(X1)", "p(X) | p(f(Y))", true},
		{"p(f(X0))", "p(X) | p(f(Y))", true},
		// One substitution for all literals.
		{"p(X) | q(X)", "p(a) | q(b)", false},
		{"p(X) | q(X)", "p(a) | q(b) | q(a)", true},
		{"p(X) | ~q(X)", "p(a) | q(a)", false},
		{"p(X, Y) | p(Y, Z) | p(Z, X)", "p(a, b) | p(b, c) | p(c, a)", true},
		{"p(X, Y) | p(Y, Z) | p(Z, X)", "p(a, b) | p(b, c) | p(a, c)", false},
		{"p(X, Y) | p(Y, Z) | p(Z, X)", "p(a, b) | p(b, a) | p(a, c)", false},
		{"p(X, Y) | p(Y, Z) | p(Z, X)", "p(a, a) | q | r", true},
		// Several literals may be made one.
		{"p(X) | p(Y) | q", "p(a) | q | r", true},
		{"p(X) | p(Y) | q", "p(a) | r | s", false},
		{"p(a, X) | p(Y, b)", "p(a, b) | q", true},
		// What the first choice would spoil.
		{"p(X) | q(X) | r(X)", "p(a) | p(b) | q(b) | q(a) | r(b)", true},
		{"p(X, Y) | q(Y, Z) | r(Z, X)", "p(a, b) | p(c, d) | q(b, a) | q(d, e) | r(a, c) | r(e, c)", true},
		{"p(X, Y) | q(Y, Z) | r(Z, X)", "p(a, b) | p(c, d) | q(b, a) | q(d, e) | r(a, c) | r(e, a)", false},
	} {
		if got, e := moot.Covers(read(t, c.one), read(t, c.other)); got != c.want || e != api.OK {
			t.Errorf("Covers(%s, %s) = %t, %d", c.one, c.other, got, e)
		}
	}
}

// A name may be several things here.
func TestCoversNames(t *testing.T) {
	one := clause(is(f("p", 1), v(0)), is(f("p", 0)))
	if got, e := moot.Covers(one, clause(is(f("p", 0)), is(f("p", 1), f("p", 0)))); !got || e != api.OK {
		t.Errorf("Covers = %t, %d", got, e)
	}
	if got, e := moot.Covers(one, clause(is(f("p", 1), f("p", 0)), is(f("p", 2), v(0), v(1)))); got || e != api.OK {
		t.Errorf("Covers = %t, %d", got, e)
	}
}

// wrongClauses are none in order, or above their size.
func wrongClauses() [][]api.Literal {
	p := func(n int) api.Literal { return is(f("p", 1), v(n)) }
	list := [][]api.Literal{
		clause(is(v(0))),
		clause(api.Literal{}),
		clause(p(1)),
		clause(p(0), p(2)),
		clause(p(0), p(0)),
		clause(p(0), not(f("p", 1), v(0)), p(0)),
		clause(is(f("p", 2), v(1), v(0))),
		clause(p(0), is(v(0))),
		slices.Repeat(clause(p(0)), 100000),
	}
	var nine, long []api.Literal
	for n := range 9 {
		nine = append(nine, p(n))
	}
	for n := range 6 {
		long = append(long, is(append(append([]api.Node{f("p", 2), v(n)}, slices.Repeat([]api.Node{f("f", 1)}, 7)...), v(n))...))
	}
	long = append(long, is(f("q", 0)))
	for _, l := range wrongTerms() {
		list = append(list, clause(p(0), is(l...)))
	}
	return append(list, nine, long)
}

func TestCoversRefuses(t *testing.T) {
	for _, c := range wrongClauses() {
		for _, other := range [][]api.Literal{nil, clause(is(f("p", 0))), c} {
			if got, e := moot.Covers(c, other); got || e != api.ErrTerm {
				t.Errorf("Covers(%.80v, %.80v) = %t, %d", c, other, got, e)
			}
			if got, e := moot.Covers(other, c); got || e != api.ErrTerm {
				t.Errorf("Covers(%.80v, %.80v) = %t, %d", other, c, got, e)
			}
		}
	}
}

// fullClauses are just not above their size: of 8 literals, and of 60 nodes.
func fullClauses() [][]api.Literal {
	var eight, long []api.Literal
	for n := range 8 {
		eight = append(eight, is(f("p", 1), v(n)))
	}
	for n := range 6 {
		long = append(long, is(append(append([]api.Node{f("p", 2), v(n)}, slices.Repeat([]api.Node{f("f", 1)}, 7)...), v(n))...))
	}
	one := clause(is(append(slices.Repeat([]api.Node{f("f", 1)}, 59), v(0))...))
	return [][]api.Literal{eight, long, one}
}

func TestCoversFullClauses(t *testing.T) {
	for _, c := range fullClauses() {
		if got, e := moot.Covers(c, c); !got || e != api.OK {
			t.Errorf("Covers(%v, itself) = %t, %d", c, got, e)
		}
	}
}

func TestCoversLikeTrees(t *testing.T) {
	r := rand.New(rand.NewSource(5))
	counts := map[bool]int{}
	for range 20000 {
		c, d := growClause(r, r.Intn(4), 1+r.Intn(4)), growClause(r, r.Intn(5), 1+r.Intn(3))
		if r.Intn(2) == 0 {
			d = instance(r, c)
		}
		want := treeCovers(c, d)
		if got, e := moot.Covers(c, d); got != want || e != api.OK {
			t.Fatalf("Covers(%v, %v) = %t, %d, want %t", c, d, got, e, want)
		}
		counts[want]++
	}
	if counts[true] < 2000 || counts[false] < 2000 {
		t.Errorf("the clauses by chance are one-sided: %v", counts)
	}
}

// instance puts terms in the place of a clause's variables, turns the order of the literals, and puts others beside them; at times one that was there is lost.
func instance(r *rand.Rand, c []api.Literal) []api.Literal {
	nots, trees := treesOf(c, 0)
	for k, t := range trees {
		trees[k] = t.put(0, &tree{name: "a"}).put(1, &tree{name: "f", parts: []*tree{{number: r.Intn(3)}}})
		if r.Intn(8) == 0 {
			nots[k] = !nots[k]
		}
	}
	more := growClause(r, 1+r.Intn(2), 3)
	moreNots, others := treesOf(more, 0)
	nots, trees = append(nots, moreNots...), append(trees, others...)
	r.Shuffle(len(trees), func(i, k int) {
		nots[i], nots[k] = nots[k], nots[i]
		trees[i], trees[k] = trees[k], trees[i]
	})
	return orderTrees(nots, trees)
}

// Laid on each other in all ways, these would take long.
func TestCoversSoon(t *testing.T) {
	// Each literal of p can be any, and that of q none that fits.
	var c, d []api.Literal
	for n := range 7 {
		c = append(c, is(f("p", 3), v(2*n), v(2*n+1), v(2*n+2)))
		d = append(d, is(f("p", 3), f("a", 0), f(times("b", n+1), 0), f("a", 0)))
	}
	c, d = append(c, is(f("q", 1), v(14))), append(d, is(f("q", 1), f("c", 0)))
	// Each one of the first five can be any; the ring of three cannot be, whichever they are.
	ring := read(t, "p(A, B) | p(C, D) | p(E, F) | p(G, H) | p(I, J) | p(X, Y) | p(Y, Z) | p(Z, X)")
	even := read(t, "p(a, b) | p(b, a) | p(a, d) | p(d, a) | p(c, b) | p(b, c) | p(c, d) | p(d, c)")
	for range 1000 {
		if got, e := moot.Covers(c, d); got || e != api.OK {
			t.Fatalf("Covers(%v, %v) = %t, %d", c, d, got, e)
		}
		if got, e := moot.Covers(ring, even); got || e != api.OK {
			t.Fatalf("Covers(%v, %v) = %t, %d", ring, even, got, e)
		}
	}
}
