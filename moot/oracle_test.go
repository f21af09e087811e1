package moot_test

import (
	"math/rand"
	"regexp"
	"strings"
	"testing"
	"unicode/utf8"

	"moot/api"
	"moot/moot"
)

var (
	gap  = regexp.MustCompile(`^(?:[ \t\n]|%[^\n]*)*`)
	word = regexp.MustCompile(`^(?:\$false|[|~(),.]|[A-Za-z][A-Za-z0-9_]*|'(?:[^'\\\n]|\\['\\])+')`)
)

// cutToken cuts the first token off, and tells its kind: '$', a mark, 'a' for names and 'A' for variables; 0 if there is none.
func cutToken(text string) (byte, string) {
	w := word.FindString(text)
	if w == "" {
		return 0, ""
	}
	rest := text[len(w):]
	bare := strings.NewReplacer(`\\`, "x", `\'`, "x").Replace(w)
	switch {
	case strings.ContainsAny(w[:1], "$|~(),."):
		return w[0], rest
	case w[0] == '\'' && utf8.ValidString(w) && utf8.RuneCountInString(bare) <= 22:
		return 'a', rest
	case 'a' <= w[0] && w[0] <= 'z' && len(w) <= 20:
		return 'a', rest
	case 'A' <= w[0] && w[0] <= 'Z' && len(w) <= 20:
		return 'A', rest
	}
	return 0, ""
}

// move is one step of an automaton that says the grammar over again, with a count of what is open in place of calls within calls. The states: 'c' ahead of a clause, 'l' of a literal, 'n' of its name, 't' of a term; 'f' behind `$false`, 'w' behind a name, 'v' behind a term that is whole.
func move(state byte, open int, kind byte) (byte, int) {
	switch {
	case state == 'c' && kind == '$':
		return 'f', 0
	case strings.IndexByte("cl", state) >= 0 && kind == '~':
		return 'n', 0
	case strings.IndexByte("clnt", state) >= 0 && kind == 'a':
		return 'w', open
	case state == 't' && kind == 'A':
		return 'v', open
	case state == 'w' && kind == '(':
		return 't', open + 1
	case strings.IndexByte("wv", state) >= 0 && open > 0 && kind == ',':
		return 't', open
	case strings.IndexByte("wv", state) >= 0 && open > 0 && kind == ')':
		return 'v', open - 1
	case strings.IndexByte("wv", state) >= 0 && open == 0 && kind == '|':
		return 'l', 0
	case strings.IndexByte("fwv", state) >= 0 && open == 0 && kind == '.':
		return 'c', 0
	}
	return 0, 0
}

// badPlace is where a text has its first fault of form, or -1.
func badPlace(text string) int {
	state, open, rest := byte('c'), 0, text
	for {
		rest = rest[len(gap.FindString(rest)):]
		if rest == "" {
			if state == 'c' {
				return -1
			}
			return len(text)
		}
		kind, behind := cutToken(rest)
		if state, open = move(state, open, kind); state == 0 {
			return len(text) - len(rest)
		}
		rest = behind
	}
}

// holds tells what P1, P3 and P8 say of any text at all.
func holds(t *testing.T, text string) {
	t.Helper()
	got, at, e := moot.Read(text)
	bad := badPlace(text)
	if bad >= 0 && (e != api.ErrForm || at != bad) || bad < 0 && e == api.ErrForm {
		t.Fatalf("Read(%q) = %v, %d, %d, want ErrForm at %d (-1: none)", text, got, at, e, bad)
	}
	if e != api.OK && len(got) != 0 || e == api.OK && at != 0 {
		t.Fatalf("Read(%q) = %v, %d, %d", text, got, at, e)
	}
	for _, c := range got {
		again(t, c)
	}
}

// again: Read of what was Printed is the same clause.
func again(t *testing.T, c []api.Literal) {
	t.Helper()
	s, e := moot.Print(c)
	if e != api.OK {
		t.Fatalf("Print(%v) = %q, %d", c, s, e)
	}
	got, at, e := moot.Read(s)
	if len(s) > api.MaxText {
		return
	}
	if e != api.OK || at != 0 || len(got) != 1 || !sameClause(got[0], c) {
		t.Fatalf("Read(%q) = %v, %d, %d, want %v", s, got, at, e, c)
	}
}

var pieces = []string{"p", "q9_", "X", "Y", "'", "\\", "(", ")", ",", ".", "|", "~", "$false", "$", " ", "%", "\n", "é", "\xff"}

func TestReadAllShortTexts(t *testing.T) {
	texts := []string{""}
	for range 4 {
		var longer []string
		for _, text := range texts {
			for _, p := range pieces {
				holds(t, text+p)
				longer = append(longer, text+p)
			}
		}
		texts = longer
	}
}

func TestReadTextsWithFaults(t *testing.T) {
	r := rand.New(rand.NewSource(1))
	whole := "p(X, f('B b', Y)) | ~q('it\\'s', g(X)) % é\n. $false. q(h, g(X)) | 'é\\\\'."
	for range 20000 {
		text := whole
		for range 1 + r.Intn(3) {
			from := r.Intn(len(text))
			to := min(len(text), from+r.Intn(3))
			text = text[:from] + pieces[r.Intn(len(pieces))] + text[to:]
		}
		holds(t, text)
	}
	for n := range len(whole) {
		holds(t, whole[:n])
		holds(t, whole[n:])
	}
}

// maker makes clauses: each name has one number of parts, and is an atom's or a term's.
type maker struct {
	*rand.Rand
	seen map[int]int
}

func (m *maker) term(nodes []api.Node, deep int) []api.Node {
	names := []string{"a", "B b", "f", "'\\", "日", "%(", "g"}
	if k := m.Intn(10); deep == 0 || k < 4 {
		n := m.Intn(4)
		if _, known := m.seen[n]; !known {
			m.seen[n] = len(m.seen)
		}
		return append(nodes, v(m.seen[n]))
	}
	k := m.Intn(len(names))
	nodes = append(nodes, f(names[k], k/2))
	for range k / 2 {
		nodes = m.term(nodes, deep-1)
	}
	return nodes
}

func (m *maker) literal() api.Literal {
	names := []string{"p", "Q", "p_1", "\tq", "$false"}
	k := m.Intn(len(names))
	l := api.Literal{Not: m.Intn(2) == 0, Atom: []api.Node{f(names[k], k)}}
	for range k {
		l.Atom = m.term(l.Atom, 2)
	}
	return l
}

func TestReadWhatWasPrinted(t *testing.T) {
	r := rand.New(rand.NewSource(2))
	printed := 0
	for range 20000 {
		m := &maker{r, map[int]int{}}
		var c []api.Literal
		for range r.Intn(9) {
			c = append(c, m.literal())
		}
		if _, e := moot.Print(c); e == api.OK {
			printed++
			again(t, c)
		}
	}
	if printed < 5000 {
		t.Errorf("only %d clauses could be printed", printed)
	}
}
