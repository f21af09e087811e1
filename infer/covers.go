package infer

import (
	"slices"

	"moot/api"
	"moot/logic"
)

// Covers tells whether c covers d.
func Covers(c, d []api.Literal) (bool, api.Errno) {
	if !logic.IsClause(c) || !logic.IsClause(d) {
		return false, api.ErrTerm
	}
	return CoversInOrder(c, d), api.OK
}

// CoversInOrder tells whether c covers d, if both are known to be clauses in order and not above their size.
func CoversInOrder(c, d []api.Literal) bool {
	m := matcher{among: d}
	return len(c) <= len(d) && m.all(c)
}

// matcher looks for terms in the place of variables by which literals come to be among others.
type matcher struct {
	among []api.Literal
	terms [api.MaxNodes][]api.Node // by variable; none: it is free
	bound []int                    // the variables that are not free, as they were bound
}

// all tells whether the literals can be made ones that are among the others. Those that hang together by free variables are looked at apart from the rest: else the ways to make the one would be gone through again for each way to make the other.
func (m *matcher) all(literals []api.Literal) bool {
	for len(literals) > 0 {
		group, rest := m.linked(literals)
		if !m.group(group) {
			return false
		}
		literals = rest
	}
	return true
}

// group does so with literals of which there are some.
func (m *matcher) group(literals []api.Literal) bool {
	k := m.tightest(literals)
	rest := slices.Concat(literals[:k], literals[k+1:])
	for _, l := range m.among {
		before := len(m.bound)
		if m.match(literals[k], l) && m.all(rest) {
			return true
		}
		m.free(before)
	}
	return false
}

// tightest finds the literal that can be made the fewest others: what fails there fails soon.
func (m *matcher) tightest(literals []api.Literal) int {
	best, fewest := 0, len(m.among)+1
	for k, l := range literals {
		if ways := m.ways(l); ways < fewest {
			best, fewest = k, ways
		}
	}
	return best
}

func (m *matcher) ways(literal api.Literal) int {
	count := 0
	for _, l := range m.among {
		before := len(m.bound)
		if m.match(literal, l) {
			count++
		}
		m.free(before)
	}
	return count
}

// match binds free variables such that the one literal becomes the other. Where it tells false, some may be bound all the same.
func (m *matcher) match(one, other api.Literal) bool {
	if one.Not != other.Not {
		return false
	}
	at := 0
	for _, n := range one.Atom {
		end := at + 1
		if logic.IsVariable(n) {
			end = logic.End(other.Atom, at)
			if !m.bind(n.N, other.Atom[at:end]) {
				return false
			}
		} else if n != other.Atom[at] {
			return false
		}
		at = end
	}
	return true
}

func (m *matcher) bind(variable int, term []api.Node) bool {
	if m.terms[variable] != nil {
		return slices.Equal(m.terms[variable], term)
	}
	m.terms[variable] = term
	m.bound = append(m.bound, variable)
	return true
}

// free takes back what was bound since there were so many.
func (m *matcher) free(before int) {
	for _, variable := range m.bound[before:] {
		m.terms[variable] = nil
	}
	m.bound = m.bound[:before]
}

// linked parts the literals into those that hang together with the first one by free variables, and the rest.
func (m *matcher) linked(literals []api.Literal) (group, rest []api.Literal) {
	group, rest = literals[:1:1], literals[1:]
	for k := 0; k < len(group); k++ {
		var apart []api.Literal
		for _, l := range rest {
			if m.share(group[k], l) {
				group = append(group, l)
			} else {
				apart = append(apart, l)
			}
		}
		rest = apart
	}
	return group, rest
}

// share tells whether a free variable stands in both literals.
func (m *matcher) share(a, b api.Literal) bool {
	return slices.ContainsFunc(a.Atom, func(n api.Node) bool {
		return logic.IsVariable(n) && m.terms[n.N] == nil && slices.Contains(b.Atom, n)
	})
}
