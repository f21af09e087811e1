package infer_test

import (
	"reflect"
	"testing"

	"moot/api"
	"moot/infer"
	"moot/syntax"
)

// given are steps to the clauses of a text.
func given(t *testing.T, text string) []api.Step {
	t.Helper()
	clauses, _, e := syntax.Read(text)
	if e != api.OK {
		t.Fatalf("Read(%q): %d", text, e)
	}
	var steps []api.Step
	for a, c := range clauses {
		steps = append(steps, api.Step{Rule: api.Given, A: a, Clause: c})
	}
	return steps
}

type found struct {
	step api.Step
	e    api.Errno
}

// asked asks for a factor and a resolvent at each place there may be.
func asked(steps []api.Step, a int, others []int) []found {
	var list []found
	add := func(s api.Step, clause []api.Literal, ok bool, e api.Errno) {
		if ok || e == api.ErrMany {
			s.Clause = clause
			list = append(list, found{s, e})
		}
	}
	c := steps[a].Clause
	for i := range c {
		for j := range c {
			clause, ok, e := infer.Factor(c, i, j)
			add(api.Step{Rule: api.Factor, A: a, I: i, J: j}, clause, ok, e)
		}
	}
	for _, b := range others {
		d := steps[b].Clause
		for i := range c {
			for j := range d {
				clause, ok, e := infer.Resolve(c, i, d, j)
				add(api.Step{Rule: api.Resolve, A: a, B: b, I: i, J: j}, clause, ok, e)
			}
		}
	}
	return list
}

func followTexts() map[string]int {
	return map[string]int{
		"":                              0,
		"p.":                            0,
		"$false. p.":                    0,
		"p. ~p.":                        1,
		"p(X) | p(Y).":                  1,
		"p(X) | p(Y) | p(a).":           3,
		"p(a) | p(b).":                  0,
		"p(X) | ~p(f(Y)).":              2, // at both places of one with itself
		"p(X) | ~p(f(X)). q(Y). ~q(a).": 3,
		"p(X) | p(f(Y)) | ~q(X, Y) | ~p(f(a)). q(X, X) | ~p(X) | q(a, Y). ~q(X, Y) | ~q(Y, Z) | q(X, Z). r(f(a)) | ~r(f(b)).": -1,
		// Of what is made X4 has 781 nodes, and X3 156.
		"s(t(X0, X1), t(X1, X2), t(X2, X3), t(X3, X4)) | u(X4) | u(X3). ~s(t(A, h(A, A, A, A, A)), t(B, h(B, B, B, B, B)), t(C, h(C, C, C, C, C)), t(D, h(D, D, D, D, D))).": 2,
		"~s(t(X0, X1), t(X1, X2), t(X2, X3), t(X3, X4)) | ~s(t(A, h(A, A, A, A, A)), t(B, h(B, B, B, B, B)), t(C, h(C, C, C, C, C)), t(D, h(D, D, D, D, D))).":               1,
	}
}

func TestFollowing(t *testing.T) {
	many := 0
	for text, want := range followTexts() {
		steps := given(t, text)
		var others []int
		count := 0
		for a := range steps {
			others = append(others, a)
			var got []found
			for s, e := range infer.Following(steps, a, others) {
				got = append(got, found{s, e})
				if e == api.ErrMany {
					many++
				}
			}
			if want := asked(steps, a, others); !reflect.DeepEqual(got, want) {
				t.Errorf("%q: from the clause %d: %v, want %v", text, a, got, want)
			}
			count += len(got)
		}
		if want >= 0 && count != want {
			t.Errorf("%q: %d follow, want %d", text, count, want)
		}
	}
	if many != 2 {
		t.Errorf("%d of too many nodes, want a resolvent and a factor", many)
	}
}

// Whoever ranges may stop at any place.
func TestFollowingStops(t *testing.T) {
	steps := given(t, "p(X) | p(f(Y)) | p(Z) | ~q(X, Y) | ~q(Y, X). q(X, Y) | ~p(X) | ~p(Y).")
	all := asked(steps, 0, []int{0, 1})
	if len(all) < 10 {
		t.Fatalf("only %d follow", len(all))
	}
	for stop := range all {
		var got []found
		for s, e := range infer.Following(steps, 0, []int{0, 1}) {
			got = append(got, found{s, e})
			if len(got) > stop {
				break
			}
		}
		if !reflect.DeepEqual(got, all[:stop+1]) {
			t.Errorf("stopped behind %d: %v, want %v", stop, got, all[:stop+1])
		}
	}
}
