package moot_test

import (
	"reflect"
	"testing"

	"moot/api"
	"moot/moot"
)

// spoil writes into all of the lists, spare room too.
func spoil(clauses [][]api.Literal) {
	clauses = clauses[:cap(clauses)]
	for i, c := range clauses {
		c = c[:cap(c)]
		for k, l := range c {
			atom := l.Atom[:cap(l.Atom)]
			for m := range atom {
				atom[m] = f("spoilt", 7)
			}
			c[k] = not(v(99))
		}
		clauses[i] = clause(is(v(98)))
	}
}

const sampleText = "p(X) | ~q(X, f(Y)) | p(X). q(Y, Y). $false. r(a, b, c) | ~r(c, b, a)."

// P2: what comes out is new memory.
func TestReadAnswersNewMemory(t *testing.T) {
	before, _, _ := moot.Read(sampleText)
	want := copyAll(before)
	spoilt, _, _ := moot.Read(sampleText)
	spoil(spoilt)
	after, _, _ := moot.Read(sampleText)
	if !sameClauses(before, want) || !sameClauses(after, want) {
		t.Errorf("one answer of Read written into: others are %v and %v, want %v", before, after, want)
	}
}

// P2: no list of an answer shares memory with another one of it.
func TestReadSharesNothingWithin(t *testing.T) {
	for i := range 4 {
		got, _, _ := moot.Read(sampleText)
		want := copyAll(got)
		spoil(got[i : i+1 : i+1])
		for k := range want {
			if k != i && !sameClause(got[k], want[k]) {
				t.Errorf("clause %d written into: clause %d is %v", i, k, got[k])
			}
		}
	}
	got, _, _ := moot.Read(sampleText)
	want := copyAll(got)
	for _, c := range got {
		_ = append(c, not(v(99)))
		for _, l := range c {
			_ = append(l.Atom, f("spoilt", 7))
		}
	}
	if !sameClauses(got, want) {
		t.Errorf("behind each list of an answer written: %v, want %v", got, want)
	}
}

// P2: what is handed in is not changed, not even behind its end.
func TestPrintChangesNothing(t *testing.T) {
	for _, c := range [][]api.Literal{
		clause(is(f("p", 2), v(0), f("a'", 0)), not(f("q", 1), v(1))),
		clause(is(f("p", 1), v(5)), is(f("p", 1), v(5)), not()),
	} {
		list := append(make([]api.Literal, 0, 9), c...)
		list[0].Atom = append(make([]api.Node, 0, 9), c[0].Atom...)
		want := copyOf(list)
		moot.Print(list)
		if !reflect.DeepEqual(copyOf(list), want) {
			t.Errorf("Print made %v of %v", list, want)
		}
		for _, n := range list[0].Atom[len(c[0].Atom):9] {
			if n != (api.Node{}) {
				t.Errorf("Print wrote %v behind an atom", n)
			}
		}
		for _, l := range list[len(c):9] {
			if l.Not || l.Atom != nil {
				t.Errorf("Print wrote %v behind a clause", l)
			}
		}
	}
}

// P2: nothing is kept from call to call.
func TestAnswersDependOnArgumentsAlone(t *testing.T) {
	c := clause(is(f("p", 1), v(0)))
	first, _ := moot.Print(c)
	moot.Read("p. p(a).")
	moot.Read("p(")
	moot.Print(clause(is(f("p", 3))))
	if again, e := moot.Print(c); again != first || e != api.OK {
		t.Errorf("Print = %q, %d, and before %q", again, e, first)
	}
	c[0].Atom[0].Name = "q"
	if other, e := moot.Print(c); other != "q(X0).\n" || e != api.OK {
		t.Errorf("Print of a list that was written into = %q, %d", other, e)
	}
	c[0].Atom[0].Name = "p"
	reads(t, map[string][][]api.Literal{"p(Z).": {c}, "p.": {{is(f("p", 0))}}, "q(p).": {{is(f("q", 1), f("p", 0))}}})
}
