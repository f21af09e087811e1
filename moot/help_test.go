package moot_test

import (
	"reflect"
	"strings"

	"moot/api"
)

func v(n int) api.Node { return api.Node{N: n} }

func f(name string, parts int) api.Node { return api.Node{Name: name, N: parts} }

func is(nodes ...api.Node) api.Literal { return api.Literal{Atom: nodes} }

func not(nodes ...api.Node) api.Literal { return api.Literal{Not: true, Atom: nodes} }

func clause(literals ...api.Literal) []api.Literal { return literals }

func times(s string, n int) string { return strings.Repeat(s, n) }

// sameClause takes nil and an empty list for the same.
func sameClause(a, b []api.Literal) bool {
	return len(a) == 0 && len(b) == 0 || reflect.DeepEqual(a, b)
}

func sameClauses(a, b [][]api.Literal) bool {
	same := len(a) == len(b)
	for i := 0; same && i < len(a); i++ {
		same = sameClause(a[i], b[i])
	}
	return same
}

func copyOf(clause []api.Literal) []api.Literal {
	var out []api.Literal
	for _, l := range clause {
		out = append(out, api.Literal{Not: l.Not, Atom: append([]api.Node(nil), l.Atom...)})
	}
	return out
}

func copyAll(clauses [][]api.Literal) [][]api.Literal {
	var out [][]api.Literal
	for _, c := range clauses {
		out = append(out, copyOf(c))
	}
	return out
}
