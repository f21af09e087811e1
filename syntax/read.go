package syntax

import (
	"moot/api"
	"moot/logic"
)

// Read reads the clauses of a text, or tells what is wrong and where.
func Read(text string) ([][]api.Literal, int, api.Errno) {
	if len(text) > api.MaxText {
		return nil, 0, api.ErrLong
	}
	p := newParser(text)
	if !p.text() {
		return nil, p.now.at, api.ErrForm
	}
	if odd := logic.AtOdds(p.uses()); odd >= 0 {
		return nil, p.places[odd], api.ErrName
	}
	return ordered(p.clauses)
}

// uses lists what the names of the whole text are. As data a name is ahead of its parts, just as in the text: each use has its place in p.places.
func (p *parser) uses() []logic.Use {
	var uses []logic.Use
	for _, c := range p.clauses {
		uses = append(uses, logic.Uses(c.literals)...)
	}
	return uses
}

func ordered(clauses []parsed) ([][]api.Literal, int, api.Errno) {
	var list [][]api.Literal
	for i, c := range clauses {
		clause := logic.Order(c.literals)
		if i >= api.MaxClauses || !logic.Fits(clause) {
			return nil, c.at, api.ErrMany
		}
		list = append(list, clause)
	}
	return list, 0, api.OK
}
