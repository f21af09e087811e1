// Package logic: terms, literals and clauses as data.
package logic

import (
	"strings"
	"unicode/utf8"

	"moot/api"
)

// IsVariable tells whether a node is a variable: no name is empty.
func IsVariable(n api.Node) bool { return n.Name == "" }

// Parts is the number of a node's parts: a variable has none.
func Parts(n api.Node) int {
	if IsVariable(n) {
		return 0
	}
	return n.N
}

// IsName tells whether a text can be a name, in quotes if need be.
func IsName(name string) bool {
	// Names of any length come in here: a look at the bytes spares going through a long one.
	if len(name) > api.MaxName*utf8.UTFMax {
		return false
	}
	if !utf8.ValidString(name) || strings.Contains(name, "\n") {
		return false
	}
	count := utf8.RuneCountInString(name)
	return 1 <= count && count <= api.MaxName
}

// IsTerm tells whether the nodes are one term and nothing behind it.
func IsTerm(nodes []api.Node) bool {
	if len(nodes) > api.MaxNodes {
		return false
	}
	missing := 1
	for _, n := range nodes {
		if missing == 0 || !isNode(n) {
			return false
		}
		missing += Parts(n) - 1
	}
	return missing == 0
}

// End is the place behind the term that begins at a place of a term's nodes.
func End(nodes []api.Node, at int) int {
	for missing := 1; missing > 0; at++ {
		missing += Parts(nodes[at]) - 1
	}
	return at
}

// IsAtom tells whether the nodes are one atom: a term that is no variable.
func IsAtom(nodes []api.Node) bool {
	return IsTerm(nodes) && !IsVariable(nodes[0])
}

func isNode(n api.Node) bool {
	if IsVariable(n) {
		return 0 <= n.N && n.N < api.MaxNodes
	}
	return 0 <= n.N && n.N <= api.MaxParts && IsName(n.Name)
}
