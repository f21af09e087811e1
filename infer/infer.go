// Package infer: what follows from terms and clauses in one step.
package infer

import (
	"moot/api"
	"moot/logic"
	"moot/unify"
)

// Unify is what two terms are made by what makes them the same; a variable that stands in both is one.
func Unify(a, b []api.Node) ([]api.Node, bool, api.Errno) {
	if !logic.IsTerm(a) || !logic.IsTerm(b) {
		return nil, false, api.ErrTerm
	}
	terms := unify.New(len(a) + len(b))
	at := terms.Add(0, a)
	if !terms.Unify(at, terms.Add(0, b)) {
		return nil, false, api.OK
	}
	made, ok := terms.Made(at)
	if !ok {
		return nil, false, api.ErrMany
	}
	return numbered(made), true, api.OK
}

func numbered(term []api.Node) []api.Node {
	return logic.Order([]api.Literal{{Atom: term}})[0].Atom
}

// Resolve is the resolvent of c at i and d at j.
func Resolve(c []api.Literal, i int, d []api.Literal, j int) ([]api.Literal, bool, api.Errno) {
	if !logic.IsClause(c) || !logic.IsClause(d) {
		return nil, false, api.ErrTerm
	}
	if !isPlace(c, i) || !isPlace(d, j) || c[i].Not == d[j].Not {
		return nil, false, api.ErrPlace
	}
	return resolvent(c, i, d, j)
}

// resolvent is that of clauses and places that may be.
func resolvent(c []api.Literal, i int, d []api.Literal, j int) ([]api.Literal, bool, api.Errno) {
	terms := unify.New(logic.Nodes(c) + logic.Nodes(d))
	if !terms.Unify(terms.Add(0, c[i].Atom), terms.Add(1, d[j].Atom)) {
		return nil, false, api.OK
	}
	return conclude(terms, premise{c, i}, premise{d, j})
}

// Factor is the factor of c at i and j.
func Factor(c []api.Literal, i, j int) ([]api.Literal, bool, api.Errno) {
	if !logic.IsClause(c) {
		return nil, false, api.ErrTerm
	}
	if !isPlace(c, i) || !isPlace(c, j) || i >= j || c[i].Not != c[j].Not {
		return nil, false, api.ErrPlace
	}
	return factor(c, i, j)
}

// factor is that of a clause and places that may be.
func factor(c []api.Literal, i, j int) ([]api.Literal, bool, api.Errno) {
	terms := unify.New(logic.Nodes(c))
	if !terms.Unify(terms.Add(0, c[i].Atom), terms.Add(0, c[j].Atom)) {
		return nil, false, api.OK
	}
	return conclude(terms, premise{c, j})
}

func isPlace(clause []api.Literal, i int) bool {
	return 0 <= i && i < len(clause)
}

// premise is a clause that something follows from, and the place of its literal that is left out.
type premise struct {
	clause []api.Literal
	out    int
}

// conclude orders the literals of the premises as the unified terms make them. The variables of each premise are its own: those of the first one have the owner 0 among the terms, and so on.
func conclude(terms *unify.Terms, premises ...premise) ([]api.Literal, bool, api.Errno) {
	var made []api.Literal
	for owner, p := range premises {
		for k, l := range p.clause {
			if k == p.out {
				continue
			}
			atom, ok := terms.Made(terms.Add(owner, l.Atom))
			if !ok {
				return nil, false, api.ErrMany
			}
			made = append(made, api.Literal{Not: l.Not, Atom: atom})
		}
	}
	made = logic.Order(made)
	if logic.Nodes(made) > api.MaxMade {
		return nil, false, api.ErrMany
	}
	return made, true, api.OK
}
