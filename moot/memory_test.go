package moot_test

import (
	"reflect"
	"testing"

	"moot/api"
	"moot/moot"
)

// spoil writes into all of the lists, spare room too.
func spoil(clauses [][]api.Literal) {
	clauses = clauses[:cap(clauses)]
	for i, c := range clauses {
		c = c[:cap(c)]
		for k, l := range c {
			atom := l.Atom[:cap(l.Atom)]
			for m := range atom {
				atom[m] = f("spoilt", 7)
			}
			c[k] = not(v(99))
		}
		clauses[i] = clause(is(v(98)))
	}
}

const sampleText = "p(X) | ~q(X, f(Y)) | p(X). q(Y, Y). $false. r(a, b, c) | ~r(c, b, a)."

// P2: what comes out is new memory.
func TestReadAnswersNewMemory(t *testing.T) {
	before, _, _ := moot.Read(sampleText)
	want := copyAll(before)
	spoilt, _, _ := moot.Read(sampleText)
	spoil(spoilt)
	after, _, _ := moot.Read(sampleText)
	if !sameClauses(before, want) || !sameClauses(after, want) {
		t.Errorf("one answer of Read written into: others are %v and %v, want %v", before, after, want)
	}
}

// P2: no list of an answer shares memory with another one of it.
func TestReadSharesNothingWithin(t *testing.T) {
	for i := range 4 {
		got, _, _ := moot.Read(sampleText)
		want := copyAll(got)
		spoil(got[i : i+1 : i+1])
		for k := range want {
			if k != i && !sameClause(got[k], want[k]) {
				t.Errorf("clause %d written into: clause %d is %v", i, k, got[k])
			}
		}
	}
	got, _, _ := moot.Read(sampleText)
	want := copyAll(got)
	for _, c := range got {
		_ = append(c, not(v(99)))
		for _, l := range c {
			_ = append(l.Atom, f("spoilt", 7))
		}
	}
	if !sameClauses(got, want) {
		t.Errorf("behind each list of an answer written: %v, want %v", got, want)
	}
}

// roomy copies a clause into lists with spare room.
func roomy(c []api.Literal) []api.Literal {
	list := append(make([]api.Literal, 0, len(c)+9), c...)
	for i, l := range list {
		list[i].Atom = append(make([]api.Node, 0, len(l.Atom)+9), l.Atom...)
	}
	return list
}

// untouched tells whether a roomy clause is still the one that it was, and nothing stands behind its lists.
func untouched(t *testing.T, call string, list, was []api.Literal) {
	t.Helper()
	if !reflect.DeepEqual(copyOf(list), copyOf(was)) {
		t.Errorf("%s made %v of %v", call, list, was)
	}
	for _, l := range list {
		for _, n := range l.Atom[len(l.Atom):cap(l.Atom)] {
			if n != (api.Node{}) {
				t.Errorf("%s wrote %v behind an atom", call, n)
			}
		}
	}
	for _, l := range list[len(list):cap(list)] {
		if l.Not || l.Atom != nil {
			t.Errorf("%s wrote %v behind a clause", call, l)
		}
	}
}

// P2: what is handed in is not changed, not even behind its end.
func TestPrintChangesNothing(t *testing.T) {
	for _, c := range [][]api.Literal{
		clause(is(f("p", 2), v(0), f("a'", 0)), not(f("q", 1), v(1))),
		clause(is(f("p", 1), v(5)), is(f("p", 1), v(5)), not()),
	} {
		list := roomy(c)
		moot.Print(list)
		untouched(t, "Print", list, c)
	}
}

func TestFollowsChangesNothing(t *testing.T) {
	c := clause(is(f("p", 2), v(0), f("f", 1), v(1)), is(f("p", 2), v(2), v(2)), is(f("q", 1), v(1)), is(f("q", 1), v(3)))
	d := clause(not(f("p", 2), v(0), v(1)), is(f("q", 1), v(2)), is(f("p", 2), v(2), f("f", 1), f("a", 0)), not(f("r", 0)), is(f("q", 1), v(1)))
	one, other := roomy(c), roomy(d)
	for range 2 {
		moot.Covers(one, other)
		moot.Covers(one[:2], other)
		for i := range one {
			for j := range other {
				moot.Resolve(one, i, other, j)
				moot.Resolve(other, j, one, i)
				moot.Resolve(one, i, one, j)
				moot.Factor(one, i, j)
				moot.Factor(other, i, j)
				moot.Unify(one[i].Atom, other[j].Atom)
			}
		}
		untouched(t, "a call", one, c)
		untouched(t, "a call", other, d)
		// Now one that is out of order.
		c = append(copyOf(c), c[0])
		one = roomy(c)
	}
}

func TestRefutesChangesNothing(t *testing.T) {
	for _, p := range proofs(t) {
		steps := append(make([]api.Step, 0, len(p.steps)+4), p.steps...)
		for n, s := range steps {
			steps[n].Clause = roomy(s.Clause)
		}
		moot.Refutes(p.text, steps)
		for n, s := range steps {
			untouched(t, "Refutes", s.Clause, p.steps[n].Clause)
			s.Clause, p.steps[n].Clause = nil, nil
			if !reflect.DeepEqual(s, p.steps[n]) {
				t.Errorf("Refutes made %v of %v", s, p.steps[n])
			}
		}
		for _, s := range steps[len(steps):cap(steps)] {
			if !reflect.DeepEqual(s, api.Step{}) {
				t.Errorf("Refutes wrote %v behind the steps", s)
			}
		}
	}
}

// follows are calls that answer a clause, and what they are given.
func follows() (given [][]api.Literal, calls []func() []api.Literal) {
	c := clause(is(f("p", 2), v(0), f("f", 1), v(1)), is(f("p", 2), v(2), v(3)), is(f("q", 1), v(1)), not(f("r", 0)))
	d := clause(not(f("p", 2), v(0), v(1)), is(f("q", 2), v(0), f("g", 1), v(1)), is(f("r", 0)))
	return [][]api.Literal{c, d}, []func() []api.Literal{
		func() []api.Literal { l, _, _ := moot.Resolve(c, 0, d, 0); return l },
		func() []api.Literal { l, _, _ := moot.Resolve(d, 0, c, 1); return l },
		func() []api.Literal { l, _, _ := moot.Resolve(c, 3, d, 2); return l },
		func() []api.Literal { l, _, _ := moot.Factor(c, 0, 1); return l },
		func() []api.Literal { l, _, _ := moot.Unify(c[0].Atom, c[1].Atom); return clause(is(l...)) },
		func() []api.Literal { l, _, _ := moot.Unify(c[2].Atom, c[2].Atom); return clause(is(l...)) },
		func() []api.Literal { l, _, _ := moot.Unify(d[2].Atom, []api.Node{v(0)}); return clause(is(l...)) },
	}
}

// P2: what comes out is new memory.
func TestFollowsAnswersNewMemory(t *testing.T) {
	given, calls := follows()
	was := copyAll(given)
	for k, call := range calls {
		before := call()
		want := copyOf(before)
		spoil([][]api.Literal{call()})
		if after := call(); !sameClause(before, want) || !sameClause(after, want) || !sameClauses(given, was) {
			t.Errorf("one answer of call %d written into: others are %v and %v, want %v", k, before, after, want)
		}
	}
}

// P2: no list of an answer shares memory with another one of it.
func TestFollowsSharesNothingWithin(t *testing.T) {
	_, calls := follows()
	for k, call := range calls {
		got := call()
		want := copyOf(got)
		_ = append(got, not(v(99)))
		for _, l := range got {
			_ = append(l.Atom, f("spoilt", 7))
		}
		if !sameClause(got, want) {
			t.Errorf("call %d: behind each list of its answer written: %v, want %v", k, got, want)
		}
		for i := range got {
			got := call()
			spoil([][]api.Literal{got[i : i+1 : i+1]})
			if !sameClause(without(got, i), without(want, i)) {
				t.Errorf("call %d: literal %d written into: %v, want %v", k, i, got, want)
			}
		}
	}
}

// solveTexts have an answer of each verdict.
func solveTexts() []string {
	return []string{
		"$false.",
		"p(X) | p(Y). ~p(Z) | ~p(V).",
		"p(X) | ~q(X, a). q(Y, Y) | p(f(Y)). r | ~p(b).",
		"p(a). ~p(X) | p(f(X)).",
	}
}

// lists are the lists of an answer: each clause is one, the lists in it its own.
func lists(a api.Answer) [][]api.Literal {
	var list [][]api.Literal
	for _, s := range a.Steps {
		list = append(list, s.Clause)
	}
	return list
}

// P2: what comes out is new memory.
func TestSolveAnswersNewMemory(t *testing.T) {
	for _, text := range solveTexts() {
		before, want, spoilt := solve(t, text, 9), solve(t, text, 9), solve(t, text, 9)
		spoil(lists(spoilt))
		for k := range spoilt.Steps[:cap(spoilt.Steps)] {
			spoilt.Steps[:cap(spoilt.Steps)][k] = api.Step{Rule: 9, A: 9}
		}
		for k := range spoilt.Kept[:cap(spoilt.Kept)] {
			spoilt.Kept[:cap(spoilt.Kept)][k] = 99
		}
		if after := solve(t, text, 9); !sameAnswer(before, want) || !sameAnswer(after, want) {
			t.Errorf("Solve(%q, 9), one answer written into: others are %v and %v, want %v", text, before, after, want)
		}
	}
}

// P2: no list of an answer shares memory with another one of it.
func TestSolveSharesNothingWithin(t *testing.T) {
	for _, text := range solveTexts() {
		want := solve(t, text, 9)
		for n, s := range want.Steps {
			for i := range s.Clause {
				got := solve(t, text, 9)
				c := got.Steps[n].Clause
				spoil([][]api.Literal{c[i : i+1 : i+1]})
				c[i] = s.Clause[i]
				if !sameAnswer(got, want) {
					t.Errorf("Solve(%q, 9), the literal %d of the clause %d written into: %v, want %v", text, i, n, got, want)
				}
			}
		}
		got := solve(t, text, 9)
		_, _ = append(got.Steps, api.Step{Rule: 9}), append(got.Kept, 99)
		for _, c := range lists(got) {
			_ = append(c, not(v(99)))
			for _, l := range c {
				_ = append(l.Atom, f("spoilt", 7))
			}
		}
		if !sameAnswer(got, want) {
			t.Errorf("Solve(%q, 9), behind each list written: %v, want %v", text, got, want)
		}
	}
}

// P2: nothing is kept from call to call.
func TestAnswersDependOnArgumentsAlone(t *testing.T) {
	c := clause(is(f("p", 1), v(0)))
	first, _ := moot.Print(c)
	moot.Read("p. p(a).")
	moot.Read("p(")
	moot.Print(clause(is(f("p", 3))))
	if again, e := moot.Print(c); again != first || e != api.OK {
		t.Errorf("Print = %q, %d, and before %q", again, e, first)
	}
	c[0].Atom[0].Name = "q"
	if other, e := moot.Print(c); other != "q(X0).\n" || e != api.OK {
		t.Errorf("Print of a list that was written into = %q, %d", other, e)
	}
	c[0].Atom[0].Name = "p"
	d := clause(not(f("p", 1), f("a", 0)))
	for range 2 {
		if got, ok, e := moot.Resolve(c, 0, d, 0); len(got) != 0 || !ok || e != api.OK {
			t.Errorf("Resolve = %v, %t, %d", got, ok, e)
		}
		if got, ok, e := moot.Unify(c[0].Atom, d[0].Atom); !ok || e != api.OK || !reflect.DeepEqual(got, d[0].Atom) {
			t.Errorf("Unify = %v, %t, %d", got, ok, e)
		}
		if got, e := moot.Covers(d, d); !got || e != api.OK {
			t.Errorf("Covers = %t, %d", got, e)
		}
	}
	for limit := 1; limit < 9; limit++ {
		one := solve(t, sampleText, limit)
		moot.Solve("p. p(a).", limit)
		solve(t, "p(a). ~p(X).", 10-limit)
		if again := solve(t, sampleText, limit); !sameAnswer(one, again) {
			t.Errorf("Solve = %v, and before %v", again, one)
		}
	}
	reads(t, map[string][][]api.Literal{"p(Z).": {c}, "p.": {{is(f("p", 0))}}, "q(p).": {{is(f("q", 1), f("p", 0))}}})
}
