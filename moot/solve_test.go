package moot_test

import (
	"math"
	"reflect"
	"strconv"
	"strings"
	"testing"

	"moot/api"
	"moot/moot"
)

func TestSolveTexts(t *testing.T) {
	for _, c := range []struct {
		text string
		want int
	}{
		{"", api.Sat},
		{" % nothing", api.Sat},
		{"$false.", api.Unsat},
		{"p. $false. q.", api.Unsat},
		{"p | ~p. $false.", api.Unsat},
		{"p.", api.Sat},
		{"p. p. p.", api.Sat},
		{"p. ~p.", api.Unsat},
		{"~p. p.", api.Unsat},
		{"p | ~p.", api.Sat},
		{"p | ~p. p.", api.Sat},
		{"p | ~p. p. ~p.", api.Unsat},
		{"p | q. p | ~q. ~p | q. ~p | ~q.", api.Unsat},
		{"p | q. p | ~q. ~p | q.", api.Sat},
		{"p(a). ~p(b).", api.Sat},
		{"p(X). ~p(b).", api.Unsat},
		{"p(X, X). ~p(a, b).", api.Sat},
		{"p(X, f(X)). ~p(Y, Y).", api.Sat},
		{"p(X) | ~q(X, a). q(Y, Y). ~p(b).", api.Sat},
		{"p(X) | ~q(X, a). q(Y, Y). ~p(a).", api.Unsat},
		// Factors are needed.
		{"p(X) | p(Y). ~p(Z) | ~p(V).", api.Unsat},
		{"q(X, Y) | q(Y, X). ~q(X, X).", api.Unsat},
		{"~shaves(barber, X) | ~shaves(X, X). shaves(barber, X) | shaves(X, X).", api.Unsat},
		{"p(X, Y) | p(Y, Z) | p(Z, X). ~p(U, V) | ~p(V, U).", api.Unsat},
		// A clause with itself.
		{"p(X) | ~p(f(X)). ~p(a). p(f(f(f(a)))).", api.Unsat},
		{"p(a). ~p(X) | p(f(X)). ~p(f(f(f(a)))).", api.Unsat},
		{"q(X, Y) | ~q(Y, X). q(a, b). ~q(b, a).", api.Unsat},
		{"q(X, Y) | ~q(Y, X). q(a, b). ~q(b, b).", api.Sat},
		// What is covered is not kept, and all that it covered is covered.
		{"p(a) | q. p(X) | q. p(b) | q | r. p(Y).", api.Sat},
		{"p(X) | q(X). ~p(a). ~q(b).", api.Sat},
		{"p(X) | q(X). ~p(a). ~q(Y).", api.Unsat},
		// Longer ones.
		{"~sub(X, Y) | ~in(Z, X) | in(Z, Y). in(s(X, Y), X) | sub(X, Y). ~in(s(X, Y), Y) | sub(X, Y). sub(a, b). sub(b, c). ~sub(a, c).", api.Unsat},
		{"~r(X, Y) | ~r(Y, Z) | r(X, Z). ~r(X, Y) | r(Y, X). r(X, f(X)). ~r(a, a).", api.Unsat},
		{"plus(o, X, X). ~plus(X, Y, Z) | plus(s(X), Y, s(Z)). ~plus(s(s(s(o))), s(s(o)), X).", api.Unsat},
		{"~p(X, Y) | ~p(Y, Z) | p(X, Z). ~q(X, Y) | ~q(Y, Z) | q(X, Z). ~q(X, Y) | q(Y, X). p(X, Y) | q(X, Y). ~p(a, b). ~q(c, d).", api.Unsat},
		{"a1 | a2. b1 | b2. c1 | c2. ~a1 | ~b1. ~a1 | ~c1. ~b1 | ~c1. ~a2 | ~b2. ~a2 | ~c2. ~b2 | ~c2.", api.Unsat},
		{"a1 | a2. b1 | b2. ~a1 | ~b1. ~a2 | ~b2.", api.Sat},
	} {
		if a := solve(t, c.text, 100); a.Verdict != c.want {
			t.Errorf("Solve(%q, 100): the verdict is %d, want %d", c.text, a.Verdict, c.want)
		}
	}
}

func TestSolveRefuses(t *testing.T) {
	for _, limit := range []int{math.MinInt, -1, 0, 1, 100, 101, math.MaxInt} {
		for text, want := range map[string]api.Errno{
			times(" ", 3001):             api.ErrLong,
			"p":                          api.ErrForm,
			"p. ?":                       api.ErrForm,
			"p. p(a).":                   api.ErrName,
			"p(a, a, a, a, a, a).":       api.ErrName,
			times("p. ", 41):             api.ErrMany,
			"p(" + times("X, ", 5) + ".": api.ErrForm,
			"a|b|c|d|e|g|h|i|j.":         api.ErrMany,
			"$false. p. p(a).":           api.ErrName,
		} {
			if a, e := moot.Solve(text, limit); e != want || !reflect.DeepEqual(a, api.Answer{}) {
				t.Errorf("Solve(%.20q, %d) = %v, %d, want %d", text, limit, a, e, want)
			}
		}
		want := api.ErrNumber
		if 1 <= limit && limit <= 100 {
			want = api.OK
		}
		for _, text := range []string{"", "p.", "$false.", "p. ~p."} {
			a, e := moot.Solve(text, limit)
			if e != want || e != api.OK && !reflect.DeepEqual(a, api.Answer{}) {
				t.Errorf("Solve(%q, %d) = %v, %d, want %d", text, limit, a, e, want)
			}
		}
	}
}

// units is a text of clauses of one literal that have nothing to do with each other.
func units(n int) string {
	text := ""
	for k := range n {
		text += "q" + strconv.Itoa(k) + ". "
	}
	return text
}

func TestSolveUpToTheLimit(t *testing.T) {
	for limit := 1; limit <= 50; limit++ {
		text := "p(a). ~p(X) | p(f(X))."
		if a := solve(t, text, limit); a.Verdict != api.Out || a.Used != limit || a.Big {
			t.Errorf("Solve(%q, %d) = %d, %d, %t", text, limit, a.Verdict, a.Used, a.Big)
		}
	}
	for _, c := range []struct {
		text  string
		needs int // so many clauses must be taken
		then  int
	}{
		{"p. q. ~r.", 3, api.Sat},
		{"p. ~p.", 2, api.Unsat},
		{"p(X). q. ~p(a).", 2, api.Unsat},
		{units(40), 40, api.Sat},
		{units(38) + "p | q0. ~p | q0.", 38, api.Sat},
	} {
		for _, limit := range []int{1, 2, 3, c.needs - 1, c.needs, c.needs + 1, 99, 100} {
			a := solve(t, c.text, limit)
			if limit < c.needs && (a.Verdict != api.Out || a.Used != limit) || limit == 100 && a.Verdict != c.then {
				t.Errorf("Solve(%q, %d) = %d, %d", c.text, limit, a.Verdict, a.Used)
			}
		}
	}
	// What waits when the limit is reached is all covered, or empty.
	for text, want := range map[string]int{"p.": api.Sat, "p. p. p.": api.Sat, "p(X). p(a). p(b) | q.": api.Sat, "p | ~p. q. p | q.": api.Sat, "$false.": api.Unsat, "p. $false.": api.Unsat} {
		if a := solve(t, text, 1); a.Verdict != want {
			t.Errorf("Solve(%q, 1): the verdict is %d, want %d", text, a.Verdict, want)
		}
	}
	if a := solve(t, "p. ~p.", 2); a.Verdict != api.Unsat {
		t.Errorf("the verdict on p and not p by a limit of 2 is %d", a.Verdict)
	}
}

// printed is the text of clauses.
func printed(t *testing.T, clauses ...[]api.Literal) string {
	t.Helper()
	text := ""
	for _, c := range clauses {
		line, e := moot.Print(c)
		if e != api.OK {
			t.Fatalf("Print(%v): %d", c, e)
		}
		text += line
	}
	return text
}

func TestSolveWhatGetsBig(t *testing.T) {
	deep := func(n int) string { return times("f(", n) + "o" + times(")", n) }
	for _, c := range []struct {
		verdict int
		big     bool
		texts   []string
	}{
		// What follows has 8 literals, or 60 nodes.
		{api.Sat, false, []string{
			"p | a | b | c | d. ~p | e | g | h | i.",
			"p | a | b | c | d | e | g. ~p | h | i.",
			"p(X) | q(X, X). ~p(" + deep(28) + ") | s.",
			"p(X) | q(X, X) | r(a). ~p(" + deep(27) + ") | s.",
			"p(X, X) | p(" + deep(18) + ", Y) | q(X) | s.",
		}},
		// It has one more.
		{api.Out, true, []string{
			"p | a | b | c | d. ~p | e | g | h | i | j.",
			"p | a | b | c | d | e | g | k. ~p | h | i.",
			"p(X) | q(X, X). ~p(" + deep(28) + ") | s(a).",
			"p(X) | q(X, X) | r(f(a)). ~p(" + deep(27) + ") | s.",
			"p(X, X) | p(" + deep(18) + ", Y) | q(X) | s(a).",
			"p(X) | ~p(f(Y)) | a(X) | b(X) | c(X) | d(X).",
		}},
		// It is idle.
		{api.Sat, true, []string{
			"a | b | c | d | e | g. ~a | ~b | ~c | ~d | ~e | ~g.",
			"p(X) | q(" + deep(40) + "). ~p(Y) | ~q(" + deep(40) + ").",
		}},
		// It follows from a clause that is not kept: the second one is covered by what it and the first one make.
		{api.Sat, true, []string{
			"d. ~d | e | a | b | c | g | h. ~e | i | j | k.",
		}},
		// It is above the size, and the rest cannot be true.
		{api.Unsat, true, []string{
			"p | a | b | c | d. ~p | e | g | h | i | j. s(" + deep(20) + "). ~s(" + deep(20) + ").",
		}},
	} {
		for _, text := range c.texts {
			if a := solve(t, text, 100); a.Verdict != c.verdict || a.Big != c.big {
				t.Errorf("Solve(%q, 100) = %d, %t, want %d, %t", text, a.Verdict, a.Big, c.verdict, c.big)
			}
		}
	}
}

// What follows has more than 60 nodes, or more than may be made.
func TestSolveWhatIsFarTooMuch(t *testing.T) {
	for high := 3; high <= 8; high++ {
		c, d := doublings(high, clause(is(f("q", 1), v(high))), nil)
		text := printed(t, c, d)
		want := api.Out
		if high < 5 { // q has 1 << (high + 1) nodes
			want = api.Sat
		}
		if a := solve(t, text, 100); a.Verdict != want || a.Big != (want == api.Out) {
			t.Errorf("Solve(%q, 100) = %d, %t", text, a.Verdict, a.Big)
		}
	}
}

// What is idle is no harm above its size, but it is above what may be made: here one of two literals of 235 nodes each, and one of two of 391.
func TestSolveWhatIsIdleAndFarTooMuch(t *testing.T) {
	variables := "t(A, B), t(B, C), t(C, D)"
	shall := "t(A, h(A, A, A, A, A)), t(B, h(B, B, B, B, B)), t(C, h(C, C, C, C, C))"
	for more, want := range map[string]int{"": api.Sat, ", D": api.Out} {
		one, other := "("+variables+more+")", "("+shall+more+")"
		text := "p" + one + " | q" + one + ". ~p" + other + " | ~q" + other + "."
		if a := solve(t, text, 100); a.Verdict != want || !a.Big {
			t.Errorf("Solve(%q, 100) = %d, %t", text, a.Verdict, a.Big)
		}
	}
}

// So it is with what one clause makes by itself.
func TestSolveFactorsThatAreFarTooMuch(t *testing.T) {
	variables := []string{"t(A, B)", "t(B, C)", "t(C, D)", "t(D, E)"}
	shall := []string{"t(Q, h(Q, Q, Q, Q, Q))", "t(R, h(R, R, R, R, R))", "t(S, h(S, S, S, S, S))", "t(T, h(T, T, T, T, T))"}
	for n, want := range []int{api.Sat, api.Sat, api.Out, api.Out} { // of 9, 47, 235 nodes, and of more than may be
		for _, not := range []string{"", "~"} {
			text := not + "s(" + strings.Join(variables[:n+1], ", ") + ") | " + not + "s(" + strings.Join(shall[:n+1], ", ") + ")."
			if a := solve(t, text, 100); a.Verdict != want || a.Big != (want == api.Out) {
				t.Errorf("Solve(%q, 100) = %d, %t", text, a.Verdict, a.Big)
			}
		}
	}
}
