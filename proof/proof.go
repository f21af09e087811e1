// Package proof goes over steps to clauses.
package proof

import (
	"slices"

	"moot/api"
	"moot/infer"
	"moot/logic"
	"moot/syntax"
)

// Refutes tells whether the steps refute the text.
func Refutes(text string, steps []api.Step) bool {
	clauses, _, e := syntax.Read(text)
	if e != api.OK || len(steps) == 0 {
		return false
	}
	for n, s := range steps {
		if !isRight(clauses, steps[:n], s) {
			return false
		}
	}
	return len(steps[len(steps)-1].Clause) == 0
}

// isRight tells whether a step is right behind others that are.
func isRight(clauses [][]api.Literal, ahead []api.Step, s api.Step) bool {
	clause, ok := goal(clauses, ahead, s)
	return ok && logic.Fits(clause) && slices.EqualFunc(clause, s.Clause, logic.Same)
}

// goal is the clause to which a step leads, if its numbers may be.
func goal(clauses [][]api.Literal, ahead []api.Step, s api.Step) ([]api.Literal, bool) {
	switch s.Rule {
	case api.Given:
		if !isIndex(s.A, len(clauses)) || s.B != 0 || s.I != 0 || s.J != 0 {
			return nil, false
		}
		return clauses[s.A], true
	case api.Resolve:
		if !isIndex(s.A, len(ahead)) || !isIndex(s.B, len(ahead)) {
			return nil, false
		}
		clause, ok, _ := infer.Resolve(ahead[s.A].Clause, s.I, ahead[s.B].Clause, s.J)
		return clause, ok
	case api.Factor:
		if !isIndex(s.A, len(ahead)) || s.B != 0 {
			return nil, false
		}
		clause, ok, _ := infer.Factor(ahead[s.A].Clause, s.I, s.J)
		return clause, ok
	}
	return nil, false
}

func isIndex(k, length int) bool {
	return 0 <= k && k < length
}
