// Package search looks whether clauses can all be true.
package search

import (
	"slices"

	"moot/api"
	"moot/heap"
	"moot/infer"
	"moot/logic"
	"moot/syntax"
)

// Solve looks whether the clauses of a text can all be true. It takes no more clauses than the limit.
func Solve(text string, limit int) (api.Answer, api.Errno) {
	clauses, _, e := syntax.Read(text)
	if e != api.OK {
		return api.Answer{}, e
	}
	if limit < 1 || limit > api.MaxLimit {
		return api.Answer{}, api.ErrNumber
	}
	s := start(clauses)
	return s.answer(s.run(limit)), api.OK
}

// search takes clauses one by one. What follows from one and those that were taken before waits until its turn comes: so each step is from clauses that were taken, and they are all the steps that an answer needs.
type search struct {
	waiting *heap.Heap[candidate]
	count   int        // of all that ever came to wait
	steps   []api.Step // to the clauses that were taken
	kept    []int      // the steps to those of them that none taken later covers
	big     bool       // whether something that followed was above the size
}

// candidate is a step to a clause that may be taken.
type candidate struct {
	step   api.Step
	weight int
	number int // as it came to wait
}

// lighter is the order in which clauses are taken: the less there is in one, the more it covers, and the less follows from it. The empty one comes ahead of all.
func lighter(a, b candidate) bool {
	if a.weight != b.weight {
		return a.weight < b.weight
	}
	return a.number < b.number
}

func start(clauses [][]api.Literal) *search {
	s := &search{waiting: heap.New(lighter)}
	for a, c := range clauses {
		s.wait(api.Step{Rule: api.Given, A: a, Clause: c})
	}
	return s
}

// wait lays a step to those that wait; but nothing is to be had from an idle clause.
func (s *search) wait(step api.Step) {
	if logic.IsIdle(step.Clause) {
		return
	}
	weight := logic.Nodes(step.Clause) + len(step.Clause)
	s.waiting.Push(candidate{step, weight, s.count})
	s.count++
}

// run takes clauses until there is a verdict.
func (s *search) run(limit int) int {
	for {
		step, some := s.next()
		switch {
		case !some && s.isClosed():
			return api.Sat
		case !some:
			return api.Out
		case len(step.Clause) == 0:
			s.steps = append(s.steps, step)
			return api.Unsat
		case len(s.steps) == limit:
			return api.Out
		}
		s.take(step)
	}
}

// next is the first one that waits and is not covered. That is asked no sooner than its turn comes, since most never come to it.
func (s *search) next() (api.Step, bool) {
	for {
		c, some := s.waiting.Pop()
		if !some || !s.isCovered(c.step.Clause) {
			return c.step, some
		}
	}
}

func (s *search) isCovered(clause []api.Literal) bool {
	return slices.ContainsFunc(s.kept, func(k int) bool {
		return infer.CoversInOrder(s.steps[k].Clause, clause)
	})
}

// take works with a clause and those that are kept; what it covers is not kept any longer: all that would be covered by that is covered by this.
func (s *search) take(step api.Step) {
	s.kept = slices.DeleteFunc(s.kept, func(k int) bool {
		return infer.CoversInOrder(step.Clause, s.steps[k].Clause)
	})
	last := len(s.steps)
	s.steps, s.kept = append(s.steps, step), append(s.kept, last)
	for next, e := range infer.Following(s.steps, last, s.kept) {
		if e != api.OK || !logic.Fits(next.Clause) {
			s.big = true
			continue
		}
		s.wait(next)
	}
}

// isClosed tells whether, when nothing waits any more, nothing but idle and covered clauses follows from what is kept. Only what was above its size has not waited. Whether that is covered is not asked: Covers refuses it, so that no one could go over it.
func (s *search) isClosed() bool {
	if !s.big {
		return true
	}
	for n, k := range s.kept {
		for next, e := range infer.Following(s.steps, k, s.kept[:n+1]) {
			if e != api.OK || !logic.Fits(next.Clause) && !logic.IsIdle(next.Clause) {
				return false
			}
		}
	}
	return true
}

func (s *search) answer(verdict int) api.Answer {
	a := api.Answer{Verdict: verdict, Steps: s.steps, Used: len(s.steps), Big: s.big}
	switch verdict {
	case api.Unsat:
		a.Used-- // nothing is worked with the empty clause: it is not among those taken
	case api.Sat:
		a.Kept = s.kept
	}
	return a
}
