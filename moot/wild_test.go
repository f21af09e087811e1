package moot_test

import (
	"math"
	"math/rand"
	"slices"
	"testing"

	"moot/api"
	"moot/moot"
)

// wild makes things by chance that are rarely right, and rarely all wrong.
type wild struct{ *rand.Rand }

func (w wild) number() int {
	return []int{0, 0, 0, 1, 1, 2, 3, 5, 6, 59, 60, -1, math.MaxInt, math.MinInt}[w.Intn(14)]
}

func (w wild) nodes() []api.Node {
	var list []api.Node
	for range w.Intn(5) {
		name := []string{"", "", "p", "f", "\n", "\xff", times("n", 21)}[w.Intn(7)]
		list = append(list, api.Node{Name: name, N: w.number()})
	}
	return list
}

func (w wild) clause() []api.Literal {
	c := growClause(w.Rand, w.Intn(5), 1+w.Intn(3))
	for w.Intn(3) == 0 {
		c = append(c, api.Literal{Not: w.Intn(2) == 0, Atom: w.nodes()})
	}
	if len(c) > 0 && w.Intn(3) == 0 {
		l := c[w.Intn(len(c))]
		if len(l.Atom) > 0 {
			l.Atom[w.Intn(len(l.Atom))].N = w.number()
		}
	}
	return c
}

// P1: no call panics, and with an error or a false there is nothing else.
func TestNothingBesideAnError(t *testing.T) {
	w := wild{rand.New(rand.NewSource(8))}
	counts := map[api.Errno]int{}
	look := func(call string, length int, ok bool, e api.Errno) {
		t.Helper()
		if e != api.OK && ok || !ok && length > 0 {
			t.Errorf("%s = a list of %d, %t, %d", call, length, ok, e)
		}
		counts[e]++
	}
	for range 20000 {
		c, d, i, j := w.clause(), w.clause(), w.number(), w.number()
		_, e := moot.Covers(c, d)
		counts[e]++
		got, ok, e := moot.Resolve(c, i, d, j)
		look("Resolve", len(got), ok, e)
		got, ok, e = moot.Factor(c, i, j)
		look("Factor", len(got), ok, e)
		term, ok, e := moot.Unify(w.nodes(), w.nodes())
		look("Unify", len(term), ok, e)
		steps := []api.Step{{Rule: api.Given, A: 0, Clause: c}, {Rule: api.Given, A: 1, Clause: d}, {Rule: 1 + w.Intn(3), A: i, B: j, I: w.number(), J: w.number(), Clause: w.clause()}, {Rule: w.number(), A: w.number(), B: w.number(), I: i, J: j}}
		if moot.Refutes("p(a, b). ~p(X, X).", steps) {
			t.Errorf("Refutes by %v", steps)
		}
	}
	for _, e := range []api.Errno{api.OK, api.ErrTerm, api.ErrPlace} {
		if counts[e] < 1000 {
			t.Errorf("the error %d came %d times", e, counts[e])
		}
	}
}

// P1: at lists of any length.
func TestListsOfAnyLength(t *testing.T) {
	nodes := slices.Repeat([]api.Node{f("f", 1)}, 1<<20)
	long := clause(is(nodes...))
	many := slices.Repeat(clause(is(f("p", 0))), 1<<20)
	for _, c := range [][]api.Literal{long, many} {
		if got, e := moot.Covers(c, c); got || e != api.ErrTerm {
			t.Errorf("Covers = %t, %d", got, e)
		}
		if got, ok, e := moot.Resolve(c, 0, c, 0); len(got) != 0 || ok || e != api.ErrTerm {
			t.Errorf("Resolve = %v, %t, %d", got, ok, e)
		}
		if got, ok, e := moot.Factor(c, 0, 1); len(got) != 0 || ok || e != api.ErrTerm {
			t.Errorf("Factor = %v, %t, %d", got, ok, e)
		}
		if moot.Refutes("p.", []api.Step{{Rule: api.Given, Clause: c}, {Rule: api.Factor, J: 1}}) {
			t.Errorf("Refutes = true")
		}
	}
	if got, ok, e := moot.Unify(nodes, nodes); len(got) != 0 || ok || e != api.ErrTerm {
		t.Errorf("Unify = %v, %t, %d", got, ok, e)
	}
}
