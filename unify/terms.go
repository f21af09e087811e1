// Package unify makes terms the same.
package unify

import (
	"iter"

	"moot/api"
	"moot/logic"
)

// Terms holds the nodes of terms, one term behind the other; a node is known by its place. Places at which the same term shall stand form a class. So no term is copied into a variable's place while others are still to be unified: what comes of that can be far greater than all that it was made of.
type Terms struct {
	nodes   []api.Node
	ends    []int // of each place: where the term that begins there ends
	leaders []int // of each place: one of its class that is nearer to the leader, which is its own
	sizes   []int // of each leader: of what the class was made, once that is known
	first   map[variable]int
}

// variable is known by its number and by whose it is: clauses have their own ones.
type variable struct{ owner, number int }

// What sizes holds for a class that has no size yet.
const (
	unknown = 0
	asked   = -1
)

// New makes room for terms of so many nodes; there may come more.
func New(nodes int) *Terms {
	return &Terms{
		nodes:   make([]api.Node, 0, nodes),
		ends:    make([]int, 0, nodes),
		leaders: make([]int, 0, nodes),
		sizes:   make([]int, 0, nodes),
		first:   map[variable]int{},
	}
}

// Add puts a term behind the others, and answers its place. Variables with the same number are one if they have one owner.
func (t *Terms) Add(owner int, term []api.Node) int {
	start := len(t.nodes)
	for _, n := range term {
		t.leaders = append(t.leaders, t.leaderFor(owner, n))
		t.nodes = append(t.nodes, n)
	}
	t.ends = append(t.ends, make([]int, len(term))...)
	t.sizes = append(t.sizes, make([]int, len(term))...)
	// From the last one on: a name's term ends where that of its last part does.
	for at := len(t.nodes) - 1; at >= start; at-- {
		end := at + 1
		for range logic.Parts(t.nodes[at]) {
			end = t.ends[end]
		}
		t.ends[at] = end
	}
	return start
}

// leaderFor is where the node that comes next stood before, if it is a variable that did, or else its own place.
func (t *Terms) leaderFor(owner int, n api.Node) int {
	next := len(t.nodes)
	if !logic.IsVariable(n) {
		return next
	}
	v := variable{owner, n.N}
	if at, known := t.first[v]; known {
		return at
	}
	t.first[v] = next
	return next
}

// Unify makes the terms at two places the same, and tells whether that can be. If it can not, the terms are of no use any more.
func (t *Terms) Unify(a, b int) bool {
	clear(t.sizes) // what was known of them may hold no more
	if !t.join(a, b) {
		return false
	}
	_, ends := t.size(a)
	return ends
}

// join makes the classes of two places one, and so on with their parts. It does not see whether a term became a part of itself. Each time it goes on to parts there is one class less: so it ends.
func (t *Terms) join(a, b int) bool {
	a, b = t.leader(a), t.leader(b)
	if a == b {
		return true
	}
	if logic.IsVariable(t.nodes[a]) {
		t.leaders[a] = b
		return true
	}
	t.leaders[b] = a
	if logic.IsVariable(t.nodes[b]) {
		return true
	}
	if t.nodes[a] != t.nodes[b] {
		return false
	}
	other := b + 1
	for part := range t.parts(a) {
		if !t.join(part, other) {
			return false
		}
		other = t.ends[other]
	}
	return true
}

// leader is the place that stands for a place's class: a name's, if there is one in it.
func (t *Terms) leader(at int) int {
	for t.leaders[at] != at {
		at = t.leaders[at]
	}
	return at
}

// parts goes through the places of a node's parts.
func (t *Terms) parts(at int) iter.Seq[int] {
	return func(yield func(int) bool) {
		for part := at + 1; part < t.ends[at]; part = t.ends[part] {
			if !yield(part) {
				return
			}
		}
	}
}

// size counts the nodes of what the term at a place was made, but not further than one above what may be. It tells false if that has no end, since it is a part of itself.
func (t *Terms) size(at int) (int, bool) {
	at = t.leader(at)
	if t.sizes[at] == asked {
		return 0, false
	}
	if t.sizes[at] != unknown {
		return t.sizes[at], true
	}
	t.sizes[at] = asked
	count := 1
	for part := range t.parts(at) {
		more, ends := t.size(part)
		if !ends {
			return 0, false
		}
		count = min(count+more, api.MaxMade+1)
	}
	t.sizes[at] = count
	return count, true
}

// Made is what the term at a place was made; its variables have the numbers of places. It tells false if that has too many nodes.
func (t *Terms) Made(at int) ([]api.Node, bool) {
	size, ends := t.size(at)
	if !ends || size > api.MaxMade {
		return nil, false
	}
	return t.write(make([]api.Node, 0, size), at), true
}

// write puts the nodes of what the term at a place was made behind those that are there.
func (t *Terms) write(nodes []api.Node, at int) []api.Node {
	at = t.leader(at)
	if logic.IsVariable(t.nodes[at]) {
		return append(nodes, api.Node{N: at})
	}
	nodes = append(nodes, t.nodes[at])
	for part := range t.parts(at) {
		nodes = t.write(nodes, part)
	}
	return nodes
}
