// Package moot: what follows from clauses, step by step: see DOC.md.
package moot

import (
	"moot/api"
	"moot/infer"
	"moot/proof"
	"moot/search"
	"moot/syntax"
)

// Read reads clauses (P3).
func Read(text string) ([][]api.Literal, int, api.Errno) { return syntax.Read(text) }

// Print writes one (P3).
func Print(clause []api.Literal) (string, api.Errno) { return syntax.Print(clause) }

// Unify makes two the same (P4).
func Unify(a []api.Node, b []api.Node) ([]api.Node, bool, api.Errno) { return infer.Unify(a, b) }

// Covers asks whether one clause says what another does (P4).
func Covers(c []api.Literal, d []api.Literal) (bool, api.Errno) { return infer.Covers(c, d) }

// Resolve makes a resolvent (P4).
func Resolve(c []api.Literal, i int, d []api.Literal, j int) ([]api.Literal, bool, api.Errno) {
	return infer.Resolve(c, i, d, j)
}

// Factor makes a factor (P4).
func Factor(c []api.Literal, i int, j int) ([]api.Literal, bool, api.Errno) {
	return infer.Factor(c, i, j)
}

// Refutes goes over steps (P5).
func Refutes(text string, steps []api.Step) bool { return proof.Refutes(text, steps) }

// Solve looks whether all clauses can be true (P6).
func Solve(text string, limit int) (api.Answer, api.Errno) { return search.Solve(text, limit) }
