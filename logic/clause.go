package logic

import (
	"slices"

	"moot/api"
)

// IsClause tells whether the literals are a clause in order that is not above its size.
func IsClause(literals []api.Literal) bool {
	// The size is asked first, so that a list of any length is refused without going through it.
	if !Fits(literals) {
		return false
	}
	for _, l := range literals {
		if !IsAtom(l.Atom) {
			return false
		}
	}
	return inOrder(literals)
}

// Fits tells whether a clause is not above its size.
func Fits(clause []api.Literal) bool {
	return len(clause) <= api.MaxLiterals && Nodes(clause) <= api.MaxNodes
}

// IsIdle tells whether an atom stands in a clause with and without NOT.
func IsIdle(clause []api.Literal) bool {
	for i, l := range clause {
		turned := api.Literal{Not: !l.Not, Atom: l.Atom}
		if slices.ContainsFunc(clause[:i], func(k api.Literal) bool { return Same(k, turned) }) {
			return true
		}
	}
	return false
}

// Nodes counts the nodes of all literals.
func Nodes(literals []api.Literal) int {
	count := 0
	for _, l := range literals {
		count += len(l.Atom)
	}
	return count
}

// Order brings literals to order, in new memory.
func Order(literals []api.Literal) []api.Literal {
	return number(distinct(literals))
}

func inOrder(clause []api.Literal) bool {
	return len(distinct(clause)) == len(clause) && isNumbered(clause)
}

// distinct leaves out each literal that stood there already; what it answers shares the atoms of what it is given.
func distinct(literals []api.Literal) []api.Literal {
	var kept []api.Literal
	for _, l := range literals {
		stood := func(k api.Literal) bool { return Same(k, l) }
		if !slices.ContainsFunc(kept, stood) {
			kept = append(kept, l)
		}
	}
	return kept
}

// Same tells whether two literals are the same to the variables' numbers.
func Same(a, b api.Literal) bool {
	return a.Not == b.Not && slices.Equal(a.Atom, b.Atom)
}

// number copies the literals, each list into memory of its own, with the variables numbered as they stand first.
func number(literals []api.Literal) []api.Literal {
	numbers := map[int]int{}
	numbered := make([]api.Literal, len(literals))
	for i, l := range literals {
		atom := make([]api.Node, len(l.Atom))
		for k, n := range l.Atom {
			if IsVariable(n) {
				n.N = NumberOf(numbers, n.N)
			}
			atom[k] = n
		}
		numbered[i] = api.Literal{Not: l.Not, Atom: atom}
	}
	return numbered
}

// NumberOf is the number of a variable; one that is new gets the next number.
func NumberOf[V comparable](numbers map[V]int, variable V) int {
	n, known := numbers[variable]
	if !known {
		n = len(numbers)
		numbers[variable] = n
	}
	return n
}

func isNumbered(clause []api.Literal) bool {
	next := 0
	for _, l := range clause {
		for _, n := range l.Atom {
			if !IsVariable(n) {
				continue
			}
			if n.N > next {
				return false
			}
			if n.N == next {
				next++
			}
		}
	}
	return true
}
