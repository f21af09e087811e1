package moot_test

import (
	"math/rand"
	"slices"
	"strconv"

	"moot/api"
)

// A second way to what P4 asks for, to hold the program against: terms as trees, each substitution carried out at once in all of them.

type tree struct {
	name   string
	number int // of a variable
	parts  []*tree
}

// treeOf builds the tree of the first term of the nodes; the variables' numbers are moved by shift.
func treeOf(nodes []api.Node, shift int) (*tree, []api.Node) {
	n, rest := nodes[0], nodes[1:]
	if n.Name == "" {
		return &tree{number: n.N + shift}, rest
	}
	t := &tree{name: n.Name}
	for range n.N {
		var part *tree
		part, rest = treeOf(rest, shift)
		t.parts = append(t.parts, part)
	}
	return t, rest
}

func (t *tree) nodes() []api.Node {
	if t.name == "" {
		return []api.Node{{N: t.number}}
	}
	list := []api.Node{{Name: t.name, N: len(t.parts)}}
	for _, p := range t.parts {
		list = append(list, p.nodes()...)
	}
	return list
}

// text writes a tree such that two trees have one text just if they are the same.
func (t *tree) text() string {
	if t.name == "" {
		return "#" + strconv.Itoa(t.number)
	}
	s := strconv.Quote(t.name) + "("
	for _, p := range t.parts {
		s += p.text() + ","
	}
	return s + ")"
}

func (t *tree) has(variable int) bool {
	if t.name == "" {
		return t.number == variable
	}
	return slices.ContainsFunc(t.parts, func(p *tree) bool { return p.has(variable) })
}

func (t *tree) put(variable int, in *tree) *tree {
	if t.name == "" {
		if t.number == variable {
			return in
		}
		return t
	}
	made := &tree{name: t.name}
	for _, p := range t.parts {
		made.parts = append(made.parts, p.put(variable, in))
	}
	return made
}

// differ finds the first two parts, at the same place, in which two trees differ.
func differ(a, b *tree) (*tree, *tree, bool) {
	if a.name == "" && b.name == "" && a.number == b.number {
		return nil, nil, false
	}
	if a.name == "" || a.name != b.name || len(a.parts) != len(b.parts) {
		return a, b, true
	}
	for k := range a.parts {
		if x, y, ok := differ(a.parts[k], b.parts[k]); ok {
			return x, y, true
		}
	}
	return nil, nil, false
}

// unifyTrees makes the trees x and y of the list the same, and carries that out in all of the list.
func unifyTrees(list []*tree, x, y int) bool {
	for {
		a, b, ok := differ(list[x], list[y])
		if !ok {
			return true
		}
		if a.name != "" {
			a, b = b, a
		}
		if a.name != "" || b.has(a.number) {
			return false
		}
		for k := range list {
			list[k] = list[k].put(a.number, b)
		}
	}
}

// orderTrees orders literals, told by their NOT and their trees.
func orderTrees(nots []bool, trees []*tree) []api.Literal {
	stood := map[string]bool{}
	numbers := map[int]int{}
	var out []api.Literal
	for k, t := range trees {
		key := strconv.FormatBool(nots[k]) + t.text()
		if stood[key] {
			continue
		}
		stood[key] = true
		atom := t.nodes()
		for i, n := range atom {
			if n.Name != "" {
				continue
			}
			if _, known := numbers[n.N]; !known {
				numbers[n.N] = len(numbers)
			}
			atom[i].N = numbers[n.N]
		}
		out = append(out, api.Literal{Not: nots[k], Atom: atom})
	}
	return out
}

func treesOf(c []api.Literal, shift int) (nots []bool, trees []*tree) {
	for _, l := range c {
		t, _ := treeOf(l.Atom, shift)
		nots, trees = append(nots, l.Not), append(trees, t)
	}
	return nots, trees
}

func without[E any](list []E, i int) []E { return slices.Delete(slices.Clone(list), i, i+1) }

func treeUnify(a, b []api.Node) ([]api.Node, bool) {
	x, _ := treeOf(a, 0)
	y, _ := treeOf(b, 0)
	list := []*tree{x, y}
	if !unifyTrees(list, 0, 1) {
		return nil, false
	}
	return orderTrees([]bool{false}, list[:1])[0].Atom, true
}

func treeResolve(c []api.Literal, i int, d []api.Literal, j int) ([]api.Literal, bool) {
	nots, trees := treesOf(c, 0)
	moreNots, more := treesOf(d, 1000)
	nots, trees = append(nots, moreNots...), append(trees, more...)
	j += len(c)
	if !unifyTrees(trees, i, j) {
		return nil, false
	}
	return orderTrees(without(without(nots, j), i), without(without(trees, j), i)), true
}

func treeFactor(c []api.Literal, i, j int) ([]api.Literal, bool) {
	nots, trees := treesOf(c, 0)
	if !unifyTrees(trees, i, j) {
		return nil, false
	}
	return orderTrees(without(nots, j), without(trees, j)), true
}

// treeCovers goes through all ways to lay c's literals on d's. What stands in d is held fast: its variables are made names.
func treeCovers(c, d []api.Literal) bool {
	if len(c) > len(d) {
		return false
	}
	_, fast := treesOf(d, 0)
	for k, t := range fast {
		for n := range 60 {
			if !t.has(n) {
				continue
			}
			t = t.put(n, &tree{name: "fast" + strconv.Itoa(n)})
		}
		fast[k] = t
	}
	_, trees := treesOf(c, 0)
	return layTrees(c, d, trees, fast, 0)
}

func layTrees(c, d []api.Literal, trees, fast []*tree, k int) bool {
	if k == len(c) {
		return true
	}
	for m := range d {
		list := append(slices.Clone(trees), fast[m])
		if c[k].Not == d[m].Not && unifyTrees(list, k, len(trees)) && layTrees(c, d, list[:len(trees)], fast, k+1) {
			return true
		}
	}
	return false
}

// grow makes a term by chance. The name f stands there with one part and with two.
func grow(r *rand.Rand, depth, variables int) []api.Node {
	pick := r.Intn(8)
	if depth == 0 {
		pick = r.Intn(5)
	}
	switch pick {
	case 0:
		return []api.Node{f("a", 0)}
	case 1:
		return []api.Node{f("b", 0)}
	case 2, 3, 4:
		return []api.Node{v(r.Intn(variables))}
	case 5:
		return append([]api.Node{f("f", 1)}, grow(r, depth-1, variables)...)
	case 6:
		return append(append([]api.Node{f("g", 2)}, grow(r, depth-1, variables)...), grow(r, depth-1, variables)...)
	}
	return append(append([]api.Node{f("f", 2)}, grow(r, depth-1, variables)...), grow(r, depth-1, variables)...)
}

// growClause makes a clause in order by chance, of at most 60 nodes if there are at most 4 literals.
func growClause(r *rand.Rand, literals, variables int) []api.Literal {
	var nots []bool
	var trees []*tree
	for range literals {
		atom := []api.Node{f("p", 2)}
		for range 2 {
			atom = append(atom, grow(r, 1+r.Intn(2), variables)...)
		}
		if r.Intn(5) == 0 {
			atom = append([]api.Node{f("q", 1)}, grow(r, 2, variables)...)
		}
		t, _ := treeOf(atom, 0)
		nots, trees = append(nots, r.Intn(3) == 0), append(trees, t)
	}
	return orderTrees(nots, trees)
}
