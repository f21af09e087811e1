package syntax

import (
	"strconv"
	"strings"

	"moot/api"
	"moot/logic"
)

// Print writes a clause as a line of text.
func Print(clause []api.Literal) (string, api.Errno) {
	if !logic.IsClause(clause) || logic.AtOdds(logic.Uses(clause)) >= 0 {
		return "", api.ErrTerm
	}
	w := &strings.Builder{}
	if len(clause) == 0 {
		w.WriteString(emptyClause)
	}
	for i, l := range clause {
		if i > 0 {
			w.WriteString(" | ")
		}
		if l.Not {
			w.WriteByte('~')
		}
		writeTerm(w, l.Atom)
	}
	w.WriteString(".\n")
	return w.String(), api.OK
}

// writeTerm writes the term that begins the nodes, and answers the nodes behind it.
func writeTerm(w *strings.Builder, nodes []api.Node) []api.Node {
	head, rest := nodes[0], nodes[1:]
	if logic.IsVariable(head) {
		w.WriteString("X" + strconv.Itoa(head.N))
		return rest
	}
	writeName(w, head.Name)
	if head.N == 0 {
		return rest
	}
	before := "("
	for range head.N {
		w.WriteString(before)
		rest = writeTerm(w, rest)
		before = ", "
	}
	w.WriteByte(')')
	return rest
}

func writeName(w *strings.Builder, name string) {
	if isPlain(name) {
		w.WriteString(name)
		return
	}
	w.WriteByte('\'')
	for _, char := range name {
		if isEscaped(char) {
			w.WriteByte('\\')
		}
		w.WriteRune(char)
	}
	w.WriteByte('\'')
}

// isPlain tells whether a name can stand without quotes.
func isPlain(name string) bool {
	for i, char := range name {
		if !isInWord(char) || i == 0 && !isLower(char) {
			return false
		}
	}
	return true
}
