package infer

import (
	"iter"

	"moot/api"
)

// Following goes through all that follows from the clause of a step and those of others: its factors, and its resolvents with each of them. Beside a step there is ErrMany, and no Clause in it, if what it leads to has too many nodes.
func Following(steps []api.Step, a int, others []int) iter.Seq2[api.Step, api.Errno] {
	return func(yield func(api.Step, api.Errno) bool) {
		for s, e := range factors(steps, a) {
			if !yield(s, e) {
				return
			}
		}
		for _, b := range others {
			for s, e := range resolvents(steps, a, b) {
				if !yield(s, e) {
					return
				}
			}
		}
	}
}

func factors(steps []api.Step, a int) iter.Seq2[api.Step, api.Errno] {
	c := steps[a].Clause
	return func(yield func(api.Step, api.Errno) bool) {
		for i, j := range pairs(c, c) {
			if i >= j || c[i].Not != c[j].Not {
				continue
			}
			clause, ok, e := factor(c, i, j)
			if (ok || e != api.OK) && !yield(api.Step{Rule: api.Factor, A: a, I: i, J: j, Clause: clause}, e) {
				return
			}
		}
	}
}

func resolvents(steps []api.Step, a, b int) iter.Seq2[api.Step, api.Errno] {
	c, d := steps[a].Clause, steps[b].Clause
	return func(yield func(api.Step, api.Errno) bool) {
		for i, j := range pairs(c, d) {
			if c[i].Not == d[j].Not {
				continue
			}
			clause, ok, e := resolvent(c, i, d, j)
			if (ok || e != api.OK) && !yield(api.Step{Rule: api.Resolve, A: a, B: b, I: i, J: j, Clause: clause}, e) {
				return
			}
		}
	}
}

// pairs goes through the places of the one's literals with those of the other's that have the same name.
func pairs(c, d []api.Literal) iter.Seq2[int, int] {
	return func(yield func(int, int) bool) {
		for i := range c {
			for j := range d {
				if c[i].Atom[0] == d[j].Atom[0] && !yield(i, j) {
					return
				}
			}
		}
	}
}
