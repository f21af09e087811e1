package moot_test

import (
	"math"
	"testing"

	"moot/api"
	"moot/moot"
)

func TestPrintClauses(t *testing.T) {
	for _, c := range []struct {
		clause []api.Literal
		want   string
	}{
		{nil, "$false.\n"},
		{clause(), "$false.\n"},
		{clause(is(f("p", 0))), "p.\n"},
		{clause(not(f("p", 0))), "~p.\n"},
		{clause(is(f("p", 0)), not(f("p", 0))), "p | ~p.\n"},
		{clause(is(f("p", 1), v(0)), is(f("p", 1), v(1))), "p(X0) | p(X1).\n"},
		{clause(is(f("p", 2), v(0), f("a", 0)), not(f("q", 1), f("f", 2), v(1), v(0))), "p(X0, a) | ~q(f(X1, X0)).\n"},
		{clause(is(f("p", 3), f("f", 1), f("g", 2), v(0), f("a", 0), v(1), f("b", 0))), "p(f(g(X0, a)), X1, b).\n"},
		{clause(is(f("p", 5), v(0), v(0), v(0), v(0), v(0))), "p(X0, X0, X0, X0, X0).\n"},
	} {
		if got, e := moot.Print(c.clause); got != c.want || e != api.OK {
			t.Errorf("Print(%v) = %q, %d, want %q", c.clause, got, e, c.want)
		}
	}
}

func TestPrintNames(t *testing.T) {
	for name, want := range map[string]string{
		"a":                     "a",
		"aB_9":                  "aB_9",
		"x0":                    "x0",
		"X0":                    "'X0'",
		"9":                     "'9'",
		"_a":                    "'_a'",
		"a b":                   "'a b'",
		"a-":                    "'a-'",
		"$false":                "'$false'",
		"é":                     "'é'",
		"aé":                    "'aé'",
		"\uFFFD":                "'\uFFFD'",
		"'":                     `'\''`,
		`\`:                     `'\\'`,
		`it's\n`:                `'it\'s\\n'`,
		"\t\r\x00":              "'\t\r\x00'",
		"%":                     "'%'",
		times("n", 20):          times("n", 20),
		times("'", 20):          "'" + times(`\'`, 20) + "'",
		times("\U0001F600", 20): "'" + times("\U0001F600", 20) + "'",
		"z" + times("A", 9) + times("0", 9) + "_": "z" + times("A", 9) + times("0", 9) + "_",
	} {
		for _, c := range []struct {
			clause []api.Literal
			want   string
		}{
			{clause(not(f(name, 0))), "~" + want + ".\n"},
			{clause(is(f(name, 1), v(0))), want + "(X0).\n"},
			{clause(is(f("p", 2), f(name, 1), v(0), f("c", 0))), "p(" + want + "(X0), c).\n"},
		} {
			if got, e := moot.Print(c.clause); got != c.want || e != api.OK {
				t.Errorf("Print(%v) = %q, %d, want %q", c.clause, got, e, c.want)
			}
		}
	}
}

// chain is an atom of so many nodes, the last of them a constant.
func chain(first string, nodes int) []api.Node {
	list := []api.Node{f(first, 1)}
	for range nodes - 2 {
		list = append(list, f("f", 1))
	}
	return append(list, f("end", 0))
}

func letters(n int) []api.Literal {
	var list []api.Literal
	for i := range n {
		list = append(list, is(f(string(rune('a'+i)), 0)))
	}
	return list
}

func TestPrintAtTheBounds(t *testing.T) {
	many := is(f("p", 5))
	for i := range 5 {
		many.Atom = append(many.Atom, v(i))
	}
	for number, c := range [][]api.Literal{
		letters(8),
		{is(chain("p", 60)...)},
		{is(chain("p", 30)...), is(chain("q", 30)...)},
		{many},
		{is(f(times("日", 20), 1), f(times("\\", 20), 0))},
	} {
		s, e := moot.Print(c)
		if s == "" || e != api.OK {
			t.Errorf("number %d: Print(%v) = %q, %d", number, c, s, e)
		}
		if got, at, e := moot.Read(s); e != api.OK || at != 0 || len(got) != 1 || !sameClause(got[0], c) {
			t.Errorf("number %d: Read(%q) = %v, %d, %d", number, s, got, at, e)
		}
	}
}

// refused: Print answers ErrTerm and no text.
func refused(t *testing.T, list [][]api.Literal) {
	t.Helper()
	for number, c := range list {
		if s, e := moot.Print(c); s != "" || e != api.ErrTerm {
			t.Errorf("number %d: Print = %.60q, %d, want ErrTerm", number, s, e)
		}
	}
}

func TestPrintWhatIsNoClause(t *testing.T) {
	refused(t, [][]api.Literal{
		{is()}, {is(f("p", 0)), is()}, {is(v(0))}, {not(v(0), f("p", 0))},
		{is(f("p", 1))}, {is(f("p", 2), v(0))}, {is(f("p", 0), v(0))}, {is(f("p", 1), v(0), v(0))}, {is(f("p", 1), f("f", 1))}, {is(f("p", 1), f("a", 0), f("a", 0))},
		{is(f("p", -1))}, {is(f("p", -1), v(0))}, {is(f("p", 2), f("a", -1), v(0), v(1))}, {is(f("p", math.MaxInt))}, {is(f("p", math.MinInt))}, {is(f("p", 2), f("f", math.MaxInt), v(0))},
		{is(f("p", 1), v(-1))}, {is(f("p", 1), v(math.MinInt))}, {is(f("p", 1), v(math.MaxInt))},
	})
}

func TestPrintWhatIsNotInOrder(t *testing.T) {
	p := is(f("p", 2), v(0), v(1))
	refused(t, [][]api.Literal{
		{is(f("p", 1), v(1))}, {is(f("p", 2), v(1), v(0))}, {is(f("p", 2), v(0), v(2))}, {is(f("p", 1), v(0)), is(f("q", 1), v(2))}, {is(f("p", 2), v(0), v(60))},
		{is(f("p", 0)), is(f("p", 0))}, {not(f("p", 0)), not(f("p", 0))}, {p, is(f("q", 0)), p}, {p, not(p.Atom...), copyOf(clause(p))[0]},
	})
}

func TestPrintWhatIsTooGreat(t *testing.T) {
	six := is(f("p", 6))
	for i := range 6 {
		six.Atom = append(six.Atom, v(i))
	}
	refused(t, [][]api.Literal{
		letters(9), {is(chain("p", 61)...)}, {is(chain("p", 30)...), not(chain("p", 31)...)}, {six}, {is(append([]api.Node{f("q", 1), f("f", 6)}, six.Atom[1:]...)...)},
		{is(chain("p", 1<<16)...)}, make([]api.Literal, 1<<20), {is(make([]api.Node, 1<<20)...)},
	})
}

func TestPrintNamesThatCannotStand(t *testing.T) {
	for _, name := range []string{"\n", "a\nb", "\xff", "a\xc3", "\xed\xa0\x80", times("n", 21), times("'", 21), times("é", 21), times("\U0001F600", 21), times("n", 1<<20)} {
		refused(t, [][]api.Literal{{is(f(name, 0))}, {is(f("p", 1), f(name, 0))}, {is(f("p", 0)), not(f(name, 1), v(0))}})
	}
	refused(t, [][]api.Literal{
		{is(f("p", 1), f("p", 0))}, {is(f("p", 1), f("p", 1), v(0))}, {is(f("p", 1), f("a", 0)), is(f("a", 0))}, {is(f("a", 0)), is(f("p", 1), f("a", 0))},
		{is(f("p", 0)), is(f("p", 1), v(0))}, {is(f("p", 2), v(0), v(1)), not(f("p", 1), v(0))}, {is(f("p", 1), f("f", 1), f("f", 0))}, {is(f("p", 1), f("f", 1), v(0)), is(f("q", 1), f("f", 0))},
	})
}

// A clause may be printed even if Read would find that too long.
func TestPrintWhatIsLongerThanAText(t *testing.T) {
	long := times("\U0001F600", 19)
	var nodes []api.Node
	for i := range 59 {
		nodes = append(nodes, f(long+string(rune('A'+i)), 1))
	}
	s, e := moot.Print(clause(is(append(nodes, v(0))...)))
	if len(s) <= api.MaxText || e != api.OK {
		t.Fatalf("Print = %d bytes, %d", len(s), e)
	}
	faults(t, []fault{{s, 0, api.ErrLong}})
}
