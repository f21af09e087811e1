package moot_test

import (
	"math"
	"math/rand"
	"reflect"
	"slices"
	"testing"

	"moot/api"
	"moot/moot"
)

// wild makes things by chance that are rarely right, and rarely all wrong.
type wild struct{ *rand.Rand }

func (w wild) number() int {
	return []int{0, 0, 0, 1, 1, 2, 3, 5, 6, 59, 60, -1, math.MaxInt, math.MinInt}[w.Intn(14)]
}

func (w wild) nodes() []api.Node {
	var list []api.Node
	for range w.Intn(5) {
		name := []string{"", "", "p", "f", "\n", "\xff", times("n", 21)}[w.Intn(7)]
		list = append(list, api.Node{Name: name, N: w.number()})
	}
	return list
}

func (w wild) clause() []api.Literal {
	c := growClause(w.Rand, w.Intn(5), 1+w.Intn(3))
	for w.Intn(3) == 0 {
		c = append(c, api.Literal{Not: w.Intn(2) == 0, Atom: w.nodes()})
	}
	if len(c) > 0 && w.Intn(3) == 0 {
		l := c[w.Intn(len(c))]
		if len(l.Atom) > 0 {
			l.Atom[w.Intn(len(l.Atom))].N = w.number()
		}
	}
	return c
}

// P1: no call panics, and with an error or a false there is nothing else.
func TestNothingBesideAnError(t *testing.T) {
	w := wild{rand.New(rand.NewSource(8))}
	counts := map[api.Errno]int{}
	look := func(call string, length int, ok bool, e api.Errno) {
		t.Helper()
		if e != api.OK && ok || !ok && length > 0 {
			t.Errorf("%s = a list of %d, %t, %d", call, length, ok, e)
		}
		counts[e]++
	}
	for range 20000 {
		c, d, i, j := w.clause(), w.clause(), w.number(), w.number()
		_, e := moot.Covers(c, d)
		counts[e]++
		got, ok, e := moot.Resolve(c, i, d, j)
		look("Resolve", len(got), ok, e)
		got, ok, e = moot.Factor(c, i, j)
		look("Factor", len(got), ok, e)
		term, ok, e := moot.Unify(w.nodes(), w.nodes())
		look("Unify", len(term), ok, e)
		steps := []api.Step{{Rule: api.Given, A: 0, Clause: c}, {Rule: api.Given, A: 1, Clause: d}, {Rule: 1 + w.Intn(3), A: i, B: j, I: w.number(), J: w.number(), Clause: w.clause()}, {Rule: w.number(), A: w.number(), B: w.number(), I: i, J: j}}
		if moot.Refutes("p(a, b). ~p(X, X).", steps) {
			t.Errorf("Refutes by %v", steps)
		}
	}
	for _, e := range []api.Errno{api.OK, api.ErrTerm, api.ErrPlace} {
		if counts[e] < 1000 {
			t.Errorf("the error %d came %d times", e, counts[e])
		}
	}
}

// P1: at lists of any length.
func TestListsOfAnyLength(t *testing.T) {
	nodes := slices.Repeat([]api.Node{f("f", 1)}, 1<<20)
	long := clause(is(nodes...))
	many := slices.Repeat(clause(is(f("p", 0))), 1<<20)
	for _, c := range [][]api.Literal{long, many} {
		if got, e := moot.Covers(c, c); got || e != api.ErrTerm {
			t.Errorf("Covers = %t, %d", got, e)
		}
		if got, ok, e := moot.Resolve(c, 0, c, 0); len(got) != 0 || ok || e != api.ErrTerm {
			t.Errorf("Resolve = %v, %t, %d", got, ok, e)
		}
		if got, ok, e := moot.Factor(c, 0, 1); len(got) != 0 || ok || e != api.ErrTerm {
			t.Errorf("Factor = %v, %t, %d", got, ok, e)
		}
		if moot.Refutes("p.", []api.Step{{Rule: api.Given, Clause: c}, {Rule: api.Factor, J: 1}}) {
			t.Errorf("Refutes = true")
		}
	}
	if got, ok, e := moot.Unify(nodes, nodes); len(got) != 0 || ok || e != api.ErrTerm {
		t.Errorf("Unify = %v, %t, %d", got, ok, e)
	}
}

// P1: Solve answers whatever it is given, and with an error nothing else.
func TestSolveAnything(t *testing.T) {
	w := wild{rand.New(rand.NewSource(14))}
	pieces := []string{"p", "q(X, a)", "q(f(Y), X)", "~", "~", " | ", " | ", ".", ".", ".\n", "$false", "r(X)", "%", "\xff", "(", "'s'"}
	counts := map[api.Errno]int{}
	for range 20000 {
		text := ""
		for range w.Intn(12) {
			text += pieces[w.Intn(len(pieces))]
		}
		if w.Intn(2) == 0 {
			text = chance(w.Rand, 4, 3, "p", "q(X, a)", "q(f(Y), X)", "r(X)", "r(q)", "s(X, X, X, Y, Y)")
		}
		limit := w.number()
		a, e := moot.Solve(text, limit)
		if e != api.OK && !reflect.DeepEqual(a, api.Answer{}) {
			t.Errorf("Solve(%q, %d) = %v, %d", text, limit, a, e)
		}
		counts[e]++
	}
	for _, e := range []api.Errno{api.OK, api.ErrForm, api.ErrName, api.ErrNumber} {
		if counts[e] < 500 {
			t.Errorf("the error %d came %d times", e, counts[e])
		}
	}
	if a, e := moot.Solve(times("p. ", 1<<20), 5); e != api.ErrLong || !reflect.DeepEqual(a, api.Answer{}) {
		t.Errorf("Solve of a long text = %v, %d", a, e)
	}
}

// P1: it ends soon, where much follows, or where it is hard to tell what is covered.
func TestSolveEnds(t *testing.T) {
	for _, text := range []string{
		"~p(X, Z, U) | p(U, V, W) | p(X, W, U) | ~p(U, V, V).",
		"p(A, B) | p(B, C) | p(C, D) | p(D, E) | p(E, F) | p(F, G) | p(G, H) | p(H, A). ~p(X, Y) | p(Y, X). ~p(X, X).",
		"p(g(A, o), g(B, C)) | ~p(f(A), g(D, D)) | ~p(B, g(E, B)) | ~p(g(B, B), f(B)). ~p(g(o, A), g(E, B)) | p(g(C, o), g(B, D)) | p(g(D, D), C).",
		"p(e, X, X). p(X, e, X). p(X, X, e). p(a, b, c). ~p(X, Y, U) | ~p(Y, Z, V) | ~p(U, Z, W) | p(X, V, W). ~p(X, Y, U) | ~p(Y, Z, V) | ~p(X, V, W) | p(U, Z, W).",
	} {
		if a, e := moot.Solve(text, 100); e != api.OK || a.Verdict == 0 {
			t.Errorf("Solve(%q, 100) = %d, %d", text, a.Verdict, e)
		}
	}
}
