package moot_test

import (
	"reflect"
	"slices"
	"testing"

	"moot/api"
	"moot/moot"
)

// What P6 says of an answer: its steps are gone over by trees; whether what is kept is closed, by Resolve, Factor and Covers, which other tests hold against trees.

// solve asks for an answer, and goes over it.
func solve(t *testing.T, text string, limit int) api.Answer {
	t.Helper()
	a, e := moot.Solve(text, limit)
	if e != api.OK || a.Used < 0 || a.Used > limit {
		t.Fatalf("Solve(%q, %d) = %v, %d", text, limit, a, e)
	}
	given := readAll(t, text)
	for n, s := range a.Steps {
		want, ok := treeStep(given, a.Steps[:n], s)
		if !ok || !sameClause(s.Clause, want) || isGreat(want) {
			t.Fatalf("Solve(%q, %d): the step %d is not right: %v", text, limit, n, s)
		}
	}
	if a.Verdict != api.Sat && len(a.Kept) > 0 {
		t.Fatalf("Solve(%q, %d) keeps something beside the verdict %d", text, limit, a.Verdict)
	}
	switch a.Verdict {
	case api.Unsat:
		if !treeRefutes(text, a.Steps) || !moot.Refutes(text, a.Steps) {
			t.Fatalf("Solve(%q, %d): the steps do not refute it: %v", text, limit, a.Steps)
		}
	case api.Sat:
		closed(t, text, given, a)
	case api.Out:
		if a.Used != limit && !a.Big {
			t.Fatalf("Solve(%q, %d) is out at %d", text, limit, a.Used)
		}
	default:
		t.Fatalf("Solve(%q, %d): the verdict is %d", text, limit, a.Verdict)
	}
	return a
}

func readAll(t *testing.T, text string) [][]api.Literal {
	t.Helper()
	clauses, at, e := moot.Read(text)
	if e != api.OK {
		t.Fatalf("Read(%q) = %d, %d", text, at, e)
	}
	return clauses
}

func isGreat(c []api.Literal) bool { return len(c) > 8 || nodes(c) > 60 }

func isIdle(c []api.Literal) bool {
	return slices.ContainsFunc(c, func(l api.Literal) bool {
		return slices.ContainsFunc(c, func(k api.Literal) bool {
			return k.Not != l.Not && slices.Equal(k.Atom, l.Atom)
		})
	})
}

// isCovered tells whether one of the clauses covers another, which may be above its size.
func isCovered(clauses [][]api.Literal, c []api.Literal) bool {
	return slices.ContainsFunc(clauses, func(k []api.Literal) bool {
		if isGreat(c) {
			return treeCovers(k, c)
		}
		yes, _ := moot.Covers(k, c)
		return yes
	})
}

// closed goes over what is kept.
func closed(t *testing.T, text string, given [][]api.Literal, a api.Answer) {
	t.Helper()
	var kept [][]api.Literal
	for i, k := range a.Kept {
		if k < 0 || k >= len(a.Steps) || i > 0 && a.Kept[i-1] >= k {
			t.Fatalf("Solve(%q): kept is %v of %d", text, a.Kept, len(a.Steps))
		}
		c := a.Steps[k].Clause
		if len(c) == 0 || isIdle(c) {
			t.Fatalf("Solve(%q): %v is kept", text, c)
		}
		kept = append(kept, c)
	}
	for _, c := range given {
		if !isIdle(c) && !isCovered(kept, c) {
			t.Fatalf("Solve(%q): %v of the text is not covered", text, c)
		}
	}
	for _, c := range all(kept) {
		if c.many || !isIdle(c.clause) && !isCovered(kept, c.clause) {
			t.Fatalf("Solve(%q): %v follows, and is not covered", text, c)
		}
		if !a.Big && isGreat(c.clause) {
			t.Fatalf("Solve(%q): %v follows, and Big is no", text, c.clause)
		}
	}
}

// concluded is a resolvent or a factor; of too many nodes, or not.
type concluded struct {
	clause []api.Literal
	many   bool
}

// all lists the resolvents and factors of clauses, each of one with itself, too.
func all(clauses [][]api.Literal) []concluded {
	var list []concluded
	add := func(c []api.Literal, ok bool, e api.Errno) {
		if ok || e == api.ErrMany {
			list = append(list, concluded{c, e == api.ErrMany})
		}
	}
	for _, c := range clauses {
		for i := range c {
			for j := range c {
				add(moot.Factor(c, i, j))
			}
			for _, d := range clauses {
				for j := range d {
					add(moot.Resolve(c, i, d, j))
				}
			}
		}
	}
	return list
}

func sameAnswer(a, b api.Answer) bool {
	if a.Verdict != b.Verdict || a.Used != b.Used || a.Big != b.Big || !slices.Equal(a.Kept, b.Kept) {
		return false
	}
	return slices.EqualFunc(a.Steps, b.Steps, func(s, r api.Step) bool {
		same := sameClause(s.Clause, r.Clause)
		s.Clause, r.Clause = nil, nil
		return same && reflect.DeepEqual(s, r)
	})
}
