package syntax

import (
	"moot/api"
	"moot/logic"
)

// parsed is a clause as it stands in the text, not yet ordered, and where it begins.
type parsed struct {
	at       int
	literals []api.Literal
}

// parser goes along the grammar. Each of its methods that tells false has stopped at the token that cannot stand there.
type parser struct {
	scanner   scanner
	now       token
	clauses   []parsed
	places    []int          // of all names, as they stand
	variables map[string]int // of the clause that is being read
}

func newParser(text string) *parser {
	p := &parser{scanner: scanner{glyphs(text)}}
	p.now = p.scanner.next()
	return p
}

// take goes past the token if it is of that kind.
func (p *parser) take(kind rune) bool {
	if p.now.kind != kind {
		return false
	}
	p.now = p.scanner.next()
	return true
}

func (p *parser) text() bool {
	for p.now.kind != endToken {
		if !p.clause() {
			return false
		}
	}
	return true
}

func (p *parser) clause() bool {
	c := parsed{at: p.now.at}
	p.variables = map[string]int{}
	if !p.take(falseToken) {
		var ok bool
		if c.literals, ok = p.literals(); !ok {
			return false
		}
	}
	p.clauses = append(p.clauses, c)
	return p.take('.')
}

func (p *parser) literals() ([]api.Literal, bool) {
	var list []api.Literal
	for {
		not := p.take('~')
		atom, ok := p.atom()
		if !ok {
			return nil, false
		}
		list = append(list, api.Literal{Not: not, Atom: atom})
		if !p.take('|') {
			return list, true
		}
	}
}

func (p *parser) atom() ([]api.Node, bool) {
	if p.now.kind == variableToken {
		return nil, false
	}
	return p.term(nil)
}

// term puts the nodes of a term behind those that are there.
func (p *parser) term(nodes []api.Node) ([]api.Node, bool) {
	t := p.now
	if p.take(variableToken) {
		return append(nodes, api.Node{N: logic.NumberOf(p.variables, t.word)}), true
	}
	if !p.take(nameToken) {
		return nil, false
	}
	p.places = append(p.places, t.at)
	nodes = append(nodes, api.Node{Name: t.word})
	if !p.take('(') {
		return nodes, true
	}
	return p.parts(nodes)
}

// parts reads the parts of the name that is the last node.
func (p *parser) parts(nodes []api.Node) ([]api.Node, bool) {
	name := len(nodes) - 1
	for {
		var ok bool
		if nodes, ok = p.term(nodes); !ok {
			return nil, false
		}
		nodes[name].N++
		if !p.take(',') {
			return nodes, p.take(')')
		}
	}
}
