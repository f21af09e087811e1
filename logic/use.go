package logic

import "moot/api"

// Use is what a name is at one place: an atom's or a term's, with so many parts.
type Use struct {
	Name  string
	Atom  bool
	Parts int
}

// Uses lists the uses of all names in the literals, as they stand there.
func Uses(literals []api.Literal) []Use {
	var uses []Use
	for _, l := range literals {
		for k, n := range l.Atom {
			if !IsVariable(n) {
				uses = append(uses, Use{Name: n.Name, Atom: k == 0, Parts: n.N})
			}
		}
	}
	return uses
}

// AtOdds finds the first use that cannot be: of too many parts, or other than where its name stood first. It is -1 if there is none.
func AtOdds(uses []Use) int {
	first := map[string]Use{}
	for i, u := range uses {
		if u.Parts > api.MaxParts {
			return i
		}
		stood, known := first[u.Name]
		if known && stood != u {
			return i
		}
		first[u.Name] = u
	}
	return -1
}
