package moot_test

import (
	"math/rand"
	"slices"
	"strings"
	"testing"

	"moot/api"
)

// hasModel tells whether some choice of which atoms are true makes each clause true, for clauses without variables and few atoms.
func hasModel(clauses [][]api.Literal) bool {
	var atoms []string
	var signed [][]int // by clause: the places of its atoms, from 1 on, below 0 with NOT
	for _, c := range clauses {
		var row []int
		for _, l := range c {
			t, _ := treeOf(l.Atom, 0)
			at := slices.Index(atoms, t.text())
			if at < 0 {
				at = len(atoms)
				atoms = append(atoms, t.text())
			}
			if l.Not {
				row = append(row, -at-1)
			} else {
				row = append(row, at+1)
			}
		}
		signed = append(signed, row)
	}
	for choice := range 1 << len(atoms) {
		wrong := func(row []int) bool {
			return !slices.ContainsFunc(row, func(n int) bool {
				return n > 0 && choice>>(n-1)&1 == 1 || n < 0 && choice>>(-n-1)&1 == 0
			})
		}
		if !slices.ContainsFunc(signed, wrong) {
			return true
		}
	}
	return false
}

// spread puts each of the constants in the place of each variable.
func spread(clauses [][]api.Literal, constants ...string) [][]api.Literal {
	var list [][]api.Literal
	for _, c := range clauses {
		rows := [][]api.Literal{c}
		for n := range 60 {
			if !slices.ContainsFunc(c, func(l api.Literal) bool { return slices.Contains(l.Atom, v(n)) }) {
				break
			}
			var more [][]api.Literal
			for _, row := range rows {
				for _, name := range constants {
					more = append(more, put(row, n, name))
				}
			}
			rows = more
		}
		list = append(list, rows...)
	}
	return list
}

func put(c []api.Literal, variable int, name string) []api.Literal {
	made := copyOf(c)
	for _, l := range made {
		for k, n := range l.Atom {
			if n == v(variable) {
				l.Atom[k] = f(name, 0)
			}
		}
	}
	return made
}

// chance makes a text by chance: of at least one and at most so many clauses, of at most so many literals.
func chance(r *rand.Rand, clauses, literals int, atoms ...string) string {
	var text []string
	for range 1 + r.Intn(clauses) {
		var c []string
		for range 1 + r.Intn(literals) {
			c = append(c, []string{"", "~"}[r.Intn(2)]+atoms[r.Intn(len(atoms))])
		}
		text = append(text, strings.Join(c, " | ")+".")
	}
	return strings.Join(text, "\n")
}

// P7: where no name stands but two constants, whether there is a model can be found out by trying all.
func TestSolveLikeModels(t *testing.T) {
	r := rand.New(rand.NewSource(9))
	counts := map[int]int{}
	for range 2500 {
		text := chance(r, 6, 3, "p(X)", "p(a)", "p(Y)", "q(X, Y)", "q(a, X)", "q(Y, b)", "q(X, X)", "q(Y, X)")
		a := solve(t, text, 40)
		model := hasModel(spread(readAll(t, text), "a", "b"))
		if a.Verdict == api.Sat && !model || a.Verdict == api.Unsat && model {
			t.Fatalf("Solve(%q, 40): the verdict is %d, there is a model: %t", text, a.Verdict, model)
		}
		counts[a.Verdict]++
	}
	if counts[api.Sat] < 500 || counts[api.Unsat] < 500 || counts[api.Out] > 100 {
		t.Errorf("the verdicts are one-sided: %v", counts)
	}
}

// P7: the verdict on few atoms is never Out.
func chosen(t *testing.T, text string) bool {
	t.Helper()
	model := hasModel(readAll(t, text))
	if a := solve(t, text, 100); a.Verdict != api.Sat && model || a.Verdict != api.Unsat && !model || a.Big {
		t.Fatalf("Solve(%q, 100): the verdict is %d, there is a model: %t", text, a.Verdict, model)
	}
	return model
}

func TestSolveAllOfTwoAtoms(t *testing.T) {
	all := []string{"$false.", "p.", "~p.", "q.", "~q.", "p | q.", "p | ~q.", "~p | q.", "~p | ~q.", "q | ~q.", "p | ~p | q."}
	for set := range 1 << len(all) {
		var text []string
		for k, c := range all {
			if set>>k&1 == 1 {
				text = append(text, c)
			}
		}
		chosen(t, strings.Join(text, " "))
	}
}

func TestSolveFourAtoms(t *testing.T) {
	r := rand.New(rand.NewSource(10))
	counts := map[bool]int{}
	for _, atoms := range [][]string{
		{"p", "q", "r", "s"},
		{"p(a)", "p(b)", "q(a, b)", "q(b, a)"},
		// Of 7 nodes each: one with and without NOT of all of them has 56.
		{"p(a, b, c, d, f(a))", "p(a, b, c, d, f(b))", "q(g(g(g(g(g(a))))))", "r(h(h(a, a), h(a, b)))"},
	} {
		for _, most := range [][2]int{{6, 2}, {12, 3}, {20, 4}, {40, 4}, {40, 8}} {
			for range 60 {
				text := chance(r, most[0], most[1], atoms...)
				if len(text) > api.MaxText {
					continue
				}
				counts[chosen(t, text)]++
			}
		}
		// Clauses of all four atoms: as many steps as there can be.
		for left := range 17 {
			counts[chosen(t, fullOf(atoms, left))]++
		}
	}
	if counts[true] < 200 || counts[false] < 200 {
		t.Errorf("the texts are one-sided: %v", counts)
	}
}

// fullOf is all clauses in which each of four atoms stands, but for one.
func fullOf(atoms []string, left int) string {
	var text []string
	for choice := range 16 {
		if choice == left {
			continue
		}
		var c []string
		for k, atom := range atoms {
			c = append(c, []string{"", "~"}[choice>>k&1]+atom)
		}
		text = append(text, strings.Join(c, " | ")+".")
	}
	return strings.Join(text, "\n")
}

// P6 of texts of many kinds.
func TestSolveTextsByChance(t *testing.T) {
	r := rand.New(rand.NewSource(11))
	counts := map[int]int{}
	big := 0
	for _, atoms := range [][]string{
		{"p(X)", "p(f(X))", "q(X, g(Y))", "q(g(X), Y)", "q(X, X)", "r(X)", "r(f(a))"},
		{"p(X, Y)", "p(Y, Z)", "p(Z, X)", "p(X, f(Y))", "p(a, Y)"},
		{"a", "b", "c", "d", "e", "g", "h", "i", "j", "k"},
		{"a(X)", "b(X)", "c(X)", "d(X)", "a(m)", "b(m)", "c(m)", "d(n)", "e(n)", "e(X)", "a(n)"},
	} {
		for _, most := range [][2]int{{3, 3}, {8, 3}, {12, 6}, {20, 8}} {
			for range 60 {
				text := chance(r, most[0], most[1], atoms...)
				limit := []int{1, 10, 30, 60}[r.Intn(4)]
				a := solve(t, text, limit)
				counts[a.Verdict]++
				if a.Big {
					big++
				}
				if a.Big && !someGreat(a.Steps) {
					t.Fatalf("Solve(%q, %d): nothing big follows", text, limit)
				}
			}
		}
	}
	if counts[api.Sat] < 50 || counts[api.Unsat] < 50 || counts[api.Out] < 50 || big < 20 {
		t.Errorf("the verdicts are one-sided: %v, %d of them big", counts, big)
	}
}

// someGreat tells whether something above its size follows from the clauses of steps.
func someGreat(steps []api.Step) bool {
	var clauses [][]api.Literal
	for _, s := range steps {
		clauses = append(clauses, s.Clause)
	}
	return slices.ContainsFunc(all(clauses), func(c concluded) bool { return c.many || isGreat(c.clause) })
}

// P8: no order changes Sat into Unsat.
func TestSolveInAnyOrder(t *testing.T) {
	r := rand.New(rand.NewSource(12))
	counts := map[int]int{}
	for range 200 {
		text := chance(r, 8, 3, "p(X)", "p(f(X))", "q(X, f(Y))", "q(f(X), Y)", "q(X, X)", "q(a, X)", "p(a)")
		first := solve(t, text, 30)
		counts[first.Verdict]++
		clauses := strings.Split(text, "\n")
		for range 5 {
			r.Shuffle(len(clauses), func(i, k int) { clauses[i], clauses[k] = clauses[k], clauses[i] })
			turned := strings.Join(clauses, "\n")
			a := solve(t, turned, 30)
			if first.Verdict+a.Verdict == api.Sat+api.Unsat {
				t.Fatalf("Solve(%q, 30): the verdict is %d, and of %q %d", text, first.Verdict, turned, a.Verdict)
			}
		}
	}
	if counts[api.Sat] < 30 || counts[api.Unsat] < 30 {
		t.Errorf("the verdicts are one-sided: %v", counts)
	}
}

// P8: what was printed says the same.
func TestSolveWhatWasPrinted(t *testing.T) {
	r := rand.New(rand.NewSource(13))
	for range 100 {
		text := chance(r, 6, 3, "p(X)", "p('A b')", "q(X, f(Y))", "q(f(X), Y)", "'\\''", "q(a, Z)")
		again := printed(t, readAll(t, text)...)
		a, b := solve(t, text, 20), solve(t, again, 20)
		if !sameAnswer(a, b) {
			t.Errorf("Solve(%q, 20) = %v, and of %q %v", text, a, again, b)
		}
	}
}
