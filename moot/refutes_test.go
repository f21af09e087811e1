package moot_test

import (
	"math"
	"math/rand"
	"slices"
	"strings"
	"testing"

	"moot/api"
	"moot/moot"
)

// treeStep is the clause to which a step leads, gone over by trees; false if its numbers cannot be.
func treeStep(given [][]api.Literal, ahead []api.Step, s api.Step) ([]api.Literal, bool) {
	in := func(k, n int) bool { return k >= 0 && k < n }
	switch {
	case s.Rule == api.Given && in(s.A, len(given)) && s.B == 0 && s.I == 0 && s.J == 0:
		return given[s.A], true
	case s.Rule == api.Resolve && in(s.A, len(ahead)) && in(s.B, len(ahead)):
		c, d := ahead[s.A].Clause, ahead[s.B].Clause
		if in(s.I, len(c)) && in(s.J, len(d)) && c[s.I].Not != d[s.J].Not {
			return treeResolve(c, s.I, d, s.J)
		}
	case s.Rule == api.Factor && in(s.A, len(ahead)) && s.B == 0:
		c := ahead[s.A].Clause
		if in(s.I, len(c)) && in(s.J, len(c)) && s.I < s.J && c[s.I].Not == c[s.J].Not {
			return treeFactor(c, s.I, s.J)
		}
	}
	return nil, false
}

func treeRefutes(text string, steps []api.Step) bool {
	given, _, e := moot.Read(text)
	if e != api.OK || len(steps) == 0 {
		return false
	}
	for n, s := range steps {
		want, ok := treeStep(given, steps[:n], s)
		if !ok || !sameClause(s.Clause, want) || len(want) > 8 || nodes(want) > 60 {
			return false
		}
	}
	return len(steps[len(steps)-1].Clause) == 0
}

// prove fills in the clauses of steps.
func prove(t *testing.T, text string, steps ...api.Step) []api.Step {
	t.Helper()
	given, _, e := moot.Read(text)
	if e != api.OK {
		t.Fatalf("Read(%q): %d", text, e)
	}
	for n, s := range steps {
		c, ok := treeStep(given, steps[:n], s)
		if !ok {
			t.Fatalf("%q: the step %d cannot be: %v", text, n, s)
		}
		steps[n].Clause = copyOf(c)
	}
	return steps
}

func given(a int) api.Step { return api.Step{Rule: api.Given, A: a} }

func resolve(a, i, b, j int) api.Step { return api.Step{Rule: api.Resolve, A: a, I: i, B: b, J: j} }

func factor(a, i, j int) api.Step { return api.Step{Rule: api.Factor, A: a, I: i, J: j} }

type proof struct {
	text  string
	steps []api.Step
}

// proofs refute their texts.
func proofs(t *testing.T) []proof {
	t.Helper()
	var list []proof
	add := func(text string, steps ...api.Step) {
		t.Helper()
		list = append(list, proof{text, prove(t, text, steps...)})
	}
	add("$false.", given(0))
	add("q. $false. p.", given(1))
	add("p. ~p.", given(0), given(1), resolve(0, 0, 1, 0))
	add("p. ~p.", given(1), given(0), given(1), given(1), resolve(2, 0, 1, 0))
	add("p(X) | p(Y). ~p(Z) | ~p(V).", given(0), factor(0, 0, 1), given(1), factor(2, 0, 1), resolve(1, 0, 3, 0))
	add("p(X) | ~q(X, a). q(Y, Y). ~p(a) | ~p(a).", given(0), given(1), resolve(0, 1, 1, 0), given(2), resolve(2, 0, 3, 0))
	add("p(a). ~p(X) | p(f(X)). ~p(f(f(a))).", given(0), given(1), resolve(1, 0, 0, 0), resolve(1, 0, 2, 0), given(2), resolve(4, 0, 3, 0))
	// A clause with itself.
	add("p(X) | ~p(f(X)). ~p(Y). p(f(f(a))).", given(0), resolve(0, 1, 0, 0), given(2), resolve(1, 1, 2, 0), given(1), resolve(4, 0, 3, 0))
	add("~p(X, Y) | ~p(Y, X) | q(Y). p(a, a). ~q(Z).", given(0), factor(0, 0, 1), given(1), resolve(1, 0, 2, 0), given(2), resolve(4, 0, 3, 0))
	return list
}

func TestRefutesByRightSteps(t *testing.T) {
	for _, p := range proofs(t) {
		if !moot.Refutes(p.text, p.steps) {
			t.Errorf("Refutes(%q, %v) = false", p.text, p.steps)
		}
		// The last clause must be the empty one.
		last := len(p.steps) - 1
		if moot.Refutes(p.text, p.steps[:last]) || moot.Refutes(p.text, append(slices.Clone(p.steps), p.steps[0])) != (last == 0) {
			t.Errorf("%q: Refutes by too few or too many steps", p.text)
		}
		empty := slices.Clone(p.steps)
		empty[last].Clause = []api.Literal{}
		if !moot.Refutes(p.text, empty) {
			t.Errorf("Refutes(%q, %v) = false", p.text, empty)
		}
	}
	if moot.Refutes("$false.", nil) || moot.Refutes("", nil) || moot.Refutes("", []api.Step{{}}) {
		t.Errorf("Refutes by no step")
	}
}

func TestRefutesByOtherNumbers(t *testing.T) {
	for _, p := range proofs(t) {
		for n := range p.steps {
			for _, to := range []int{math.MinInt, -2, -1, 0, 1, 2, 3, 4, 5, 6, 7, math.MaxInt} {
				for field := range 5 {
					steps := slices.Clone(p.steps)
					s := &steps[n]
					*[]*int{&s.Rule, &s.A, &s.B, &s.I, &s.J}[field] = to
					if got, want := moot.Refutes(p.text, steps), treeRefutes(p.text, steps); got != want {
						t.Errorf("Refutes(%q, %v) = %t", p.text, steps, got)
					}
				}
			}
		}
	}
}

func TestRefutesByOtherClauses(t *testing.T) {
	for _, p := range proofs(t) {
		for n, s := range p.steps {
			for _, c := range otherClauses(s.Clause) {
				steps := slices.Clone(p.steps)
				steps[n].Clause = c
				if moot.Refutes(p.text, steps) {
					t.Errorf("Refutes(%q, %v) = true", p.text, steps)
				}
			}
		}
	}
}

// otherClauses are not the same as the clause, each in another way.
func otherClauses(c []api.Literal) [][]api.Literal {
	list := [][]api.Literal{append(copyOf(c), is(f("new", 0))), append(copyOf(c), api.Literal{}), slices.Repeat(clause(is(f("p", 0))), 100000)}
	for i := range c {
		turned, other := copyOf(c), copyOf(c)
		turned[i].Not = !turned[i].Not
		other[i].Atom[0].Name += "'"
		list = append(list, turned, other, without(c, i), append(copyOf(c), c[i]))
		for k := range c[i].Atom {
			number := copyOf(c)
			number[i].Atom[k].N++
			short := copyOf(c)
			short[i].Atom = short[i].Atom[:k]
			list = append(list, number, short)
		}
		if i > 0 {
			turned := copyOf(c)
			turned[i], turned[i-1] = turned[i-1], turned[i]
			// p(X0) | p(X1) would be the same clause, but it is not in order.
			list = append(list, turned)
		}
	}
	return list
}

func TestRefutesByOtherSteps(t *testing.T) {
	r := rand.New(rand.NewSource(7))
	all := proofs(t)
	counts := map[bool]int{}
	for range 20000 {
		p := all[r.Intn(len(all))]
		steps := slices.Clone(p.steps)
		for range 1 + r.Intn(2) {
			i, k := r.Intn(len(steps)), r.Intn(len(steps))
			switch r.Intn(4) {
			case 0:
				steps[i], steps[k] = steps[k], steps[i]
			case 1:
				steps[i] = steps[k]
			case 2:
				steps[i].A, steps[i].B, steps[i].I, steps[i].J = steps[i].B, steps[i].A, steps[i].J, steps[i].I
			case 3:
				more := given(0)
				more.Clause = steps[k].Clause
				steps = slices.Insert(steps, len(steps)-1, more)
			}
		}
		got, want := moot.Refutes(p.text, steps), treeRefutes(p.text, steps)
		if got != want {
			t.Fatalf("Refutes(%q, %v) = %t", p.text, steps, got)
		}
		counts[got]++
	}
	if counts[true] < 1000 || counts[false] < 1000 {
		t.Errorf("the steps by chance are one-sided: %v", counts)
	}
}

func TestRefutesAnotherText(t *testing.T) {
	all := proofs(t)
	for _, p := range all {
		for _, text := range []string{
			p.text + "q(",               // ErrForm
			p.text + "new. new(a).",     // ErrName
			p.text + times("new. ", 40), // ErrMany
			p.text + times(" ", 3000),   // ErrLong
			"",                          // nothing is given
			strings.ToUpper(p.text),     // ErrForm, or no names as they were
			"new. " + p.text,            // the numbers are others'
			strings.ReplaceAll(p.text, "p", "r"),
		} {
			if got, want := moot.Refutes(text, p.steps), treeRefutes(text, p.steps); got != want {
				t.Errorf("Refutes(%q, %v) = %t", text, p.steps, got)
			}
		}
		for _, other := range all {
			if got, want := moot.Refutes(other.text, p.steps), treeRefutes(other.text, p.steps); got != want {
				t.Errorf("Refutes(%q, %v) = %t", other.text, p.steps, got)
			}
		}
		spaced := "% more\n" + strings.ReplaceAll(p.text, " ", "\t")
		if !moot.Refutes(spaced, p.steps) {
			t.Errorf("Refutes(%q, %v) = false", spaced, p.steps)
		}
	}
	if moot.Refutes(times("p. ", 40)+"$false.", []api.Step{given(40)}) || moot.Refutes("$false", []api.Step{given(0)}) || moot.Refutes("$false. p. p(a).", []api.Step{given(0)}) {
		t.Errorf("a text that is none is refuted")
	}
	if !moot.Refutes(times("p. ", 39)+"$false.", []api.Step{given(39)}) {
		t.Errorf("the last one of 40 clauses does not refute")
	}
}

// A step's clause must not be above its size, even if smaller ones follow.
func TestRefutesWithinTheSize(t *testing.T) {
	text := "p | a | b | c | d | e | g | h. ~p | i | j. ~a. ~b. ~c. ~d. ~e. ~g. ~h. ~i. ~j."
	units := func(steps []api.Step, from int) []api.Step {
		for unit := from; unit <= 10; unit++ {
			n := len(steps)
			steps = append(steps, given(unit), resolve(n-1, 0, n, 0))
		}
		return steps
	}
	wide := prove(t, text, units([]api.Step{given(0), given(1), resolve(0, 0, 1, 0)}, 2)...)
	if len(wide[2].Clause) != 9 || moot.Refutes(text, wide) {
		t.Errorf("Refutes by a clause of %d literals", len(wide[2].Clause))
	}
	fine := prove(t, text, units([]api.Step{given(0), given(2), resolve(0, 1, 1, 0), given(1), resolve(2, 0, 3, 0)}, 3)...)
	if len(fine[4].Clause) != 8 || !moot.Refutes(text, fine) {
		t.Errorf("no Refutes by a clause of %d literals", len(fine[4].Clause))
	}
	for deep, want := range map[int]bool{27: true, 28: false} {
		// 1 + 2 * (deep + 1) nodes of q, and 3 of r.
		text := "p(X) | q(X, X) | r(a, b). ~p(" + times("f(", deep) + "a" + times(")", deep) + "). ~q(X, Y). ~r(X, Y)."
		steps := prove(t, text, given(0), given(1), resolve(0, 0, 1, 0), given(2), resolve(2, 0, 3, 0), given(3), resolve(4, 0, 5, 0))
		if size := nodes(steps[2].Clause); want != (size == 60) || moot.Refutes(text, steps) != want {
			t.Errorf("Refutes by a clause of %d nodes = %t", size, !want)
		}
	}
}

func TestRefutesByManySteps(t *testing.T) {
	text := "p(X) | p(Y). ~p(Z) | ~p(V)."
	steps := slices.Repeat(prove(t, text, given(0)), 50000)
	n := len(steps)
	tail := proofs(t)[4].steps
	for _, s := range tail {
		if s.Rule != api.Given {
			s.A += n
		}
		if s.Rule == api.Resolve {
			s.B += n
		}
		steps = append(steps, s)
	}
	if !moot.Refutes(text, steps) {
		t.Errorf("Refutes by %d steps = false", len(steps))
	}
	steps[7].A = 1
	if moot.Refutes(text, steps) {
		t.Errorf("Refutes by %d steps, one of which is wrong", len(steps))
	}
}
