package moot_test

import (
	"testing"

	"moot/api"
	"moot/moot"
)

// reads tells what Read answers for each text, without an error.
func reads(t *testing.T, texts map[string][][]api.Literal) {
	t.Helper()
	for text, want := range texts {
		got, at, e := moot.Read(text)
		if !sameClauses(got, want) || at != 0 || e != api.OK {
			t.Errorf("Read(%q) = %v, %d, %d, want %v", text, got, at, e, want)
		}
	}
}

type fault struct {
	text string
	at   int
	e    api.Errno
}

func faults(t *testing.T, list []fault) {
	t.Helper()
	for _, c := range list {
		got, at, e := moot.Read(c.text)
		if at != c.at || e != c.e || e != api.OK && len(got) != 0 {
			t.Errorf("Read(%.60q) = %v, %d, %d, want %d, %d", c.text, got, at, e, c.at, c.e)
		}
	}
}

func TestReadClauses(t *testing.T) {
	p, q := is(f("p", 0)), is(f("q", 0))
	reads(t, map[string][][]api.Literal{
		"":                 nil,
		"p.":               {{p}},
		"p.q.":             {{p}, {q}},
		"p|q.":             {{p, q}},
		"~p | q.":          {{not(f("p", 0)), q}},
		"$false.":          {nil},
		"$false.p.$false.": {nil, {p}, nil},
		"p(X) | ~q(X, a). q(Y, Y).": {
			{is(f("p", 1), v(0)), not(f("q", 2), v(0), f("a", 0))},
			{is(f("q", 2), v(0), v(0))},
		},
		"p(f(g(X), h), Y).": {{is(f("p", 2), f("f", 2), f("g", 1), v(0), f("h", 0), v(1))}},
		"aB_9z(X_1).":       {{is(f("aB_9z", 1), v(0))}},
		"p(a, b, c, d, e).": {{is(f("p", 5), f("a", 0), f("b", 0), f("c", 0), f("d", 0), f("e", 0))}},
	})
}

func TestReadOrders(t *testing.T) {
	pXY, pYX := is(f("p", 2), v(0), v(1)), is(f("p", 2), v(1), v(0))
	reads(t, map[string][][]api.Literal{
		"a | a.":                         {{is(f("a", 0))}},
		"a | ~a | a | ~a.":               {{is(f("a", 0)), not(f("a", 0))}},
		"b | a | b | c | a.":             {{is(f("b", 0)), is(f("a", 0)), is(f("c", 0))}},
		"p(Y,X) | p(X,Y) | p(Y,X).":      {{pXY, pYX}},
		"p(X) | p(Y) | p(X).":            {{is(f("p", 1), v(0)), is(f("p", 1), v(1))}},
		"p(B,A).p(A,B).":                 {{pXY}, {pXY}},
		"p(X1,X0) | p(X0,X1).":           {{pXY, pYX}},
		"p(x,X) | p(X,x).":               {{is(f("p", 2), f("x", 0), v(0)), is(f("p", 2), v(0), f("x", 0))}},
		"'p'(a) | p('a') | 'p' ( 'a' ).": {{is(f("p", 1), f("a", 0))}},
	})
}

func TestReadQuotedNames(t *testing.T) {
	for text, name := range map[string]string{
		`'p'.`:                       "p",
		`'B b'.`:                     "B b",
		`'X'.`:                       "X",
		`'9'.`:                       "9",
		`'_'.`:                       "_",
		`'$false'.`:                  "$false",
		`'\''.`:                      "'",
		`'\\'.`:                      `\`,
		`'\\\''.`:                    `\'`,
		`'a\'b\\c'.`:                 `a'b\c`,
		"'a%b'.":                     "a%b",
		"'a.b|(,)~'.":                "a.b|(,)~",
		"'\t'.":                      "\t",
		"' '.":                       " ",
		"'\x00\r'.":                  "\x00\r",
		"'é日\U0001F600'.":            "é日\U0001F600",
		"'\uFFFD'.":                  "\uFFFD",
		"'" + times("n", 20) + "'.":  times("n", 20),
		"'" + times(`\'`, 20) + "'.": times("'", 20),
		"'" + times(`\\`, 20) + "'.": times(`\`, 20),
		"'" + times("日", 20) + "'.":  times("日", 20),
	} {
		reads(t, map[string][][]api.Literal{text: {{is(f(name, 0))}}})
	}
}

func TestReadGaps(t *testing.T) {
	pa := [][]api.Literal{{is(f("p", 1), f("a", 0))}}
	reads(t, map[string][][]api.Literal{
		" \t\n":                                 nil,
		"%":                                     nil,
		"% p(":                                  nil,
		"%\n%\n":                                nil,
		"\t p \n( a\t)\n.\n ":                   pa,
		"%x\np%(\n(%'\na%\xff\n)%é\n.%":         pa,
		"p(a).% \xff\xc3 'q":                    pa,
		"$false % |p\n .":                       {nil},
		"p(a) %\xe6\x97\n.":                     pa,
		times(" ", 2995) + "p(a).":              pa,
		"p(a).%" + times("\xff", api.MaxText-6): pa,
		"p(a).%" + times("é", (api.MaxText-6)/2):    pa,
		"%" + times("x", api.MaxText-7) + "\np(a).": pa,
	})
}

func TestReadTooLong(t *testing.T) {
	faults(t, []fault{
		{times(" ", 3000), 0, api.OK},
		{times(" ", 3001), 0, api.ErrLong},
		{"|" + times(" ", 2999), 0, api.ErrForm},
		{"|" + times(" ", 3000), 0, api.ErrLong},
		{"p. p(a)." + times("s.", 1500), 0, api.ErrLong},
		{times("é", 1501), 0, api.ErrLong},
		{times("p(", 1<<20), 0, api.ErrLong},
	})
}

func TestReadTokensThatCannotStand(t *testing.T) {
	faults(t, []fault{
		{".", 0, api.ErrForm}, {"|", 0, api.ErrForm}, {"(", 0, api.ErrForm}, {")", 0, api.ErrForm}, {",", 0, api.ErrForm},
		{"X.", 0, api.ErrForm}, {"~X.", 1, api.ErrForm}, {"p|X.", 2, api.ErrForm},
		{"~~p.", 1, api.ErrForm}, {"p~.", 1, api.ErrForm}, {"~.", 1, api.ErrForm}, {"p(~a).", 2, api.ErrForm},
		{"p q.", 2, api.ErrForm}, {"p X.", 2, api.ErrForm}, {"p(a) q.", 5, api.ErrForm}, {"p(a b).", 4, api.ErrForm},
		{"p().", 2, api.ErrForm}, {"p(,a).", 2, api.ErrForm}, {"p(a,).", 4, api.ErrForm}, {"p(a,,b).", 4, api.ErrForm},
		{"p(a)(b).", 4, api.ErrForm}, {"p(X(a)).", 3, api.ErrForm}, {"p(a)).", 4, api.ErrForm}, {"p(a|b).", 3, api.ErrForm}, {"p(a.", 3, api.ErrForm},
		{"p,q.", 1, api.ErrForm}, {"p|.", 2, api.ErrForm}, {"p||q.", 2, api.ErrForm}, {"|p.", 0, api.ErrForm}, {"p..", 2, api.ErrForm},
		{"p. \n q. | r.", 8, api.ErrForm}, {"p 'q'.", 2, api.ErrForm}, {"p'q'.", 1, api.ErrForm}, {"'p'q.", 3, api.ErrForm}, {"'p''q'.", 3, api.ErrForm},
		{"'é' é.", 5, api.ErrForm}, {"%é\n|", 4, api.ErrForm},
	})
}

func TestReadFalse(t *testing.T) {
	faults(t, []fault{
		{"$false", 6, api.ErrForm}, {"$false | p.", 7, api.ErrForm}, {"p | $false.", 4, api.ErrForm}, {"~$false.", 1, api.ErrForm}, {"p($false).", 2, api.ErrForm},
		{"$falsep.", 6, api.ErrForm}, {"$false1.", 6, api.ErrForm}, {"$false_.", 6, api.ErrForm}, {"$false$false.", 6, api.ErrForm}, {"$false(a).", 6, api.ErrForm},
		{"$", 0, api.ErrForm}, {"$fals", 0, api.ErrForm}, {"p.$fals.", 2, api.ErrForm}, {"$ false.", 0, api.ErrForm}, {"$true.", 0, api.ErrForm}, {"$False.", 0, api.ErrForm},
	})
}

func TestReadWhereNoTokenBegins(t *testing.T) {
	faults(t, []fault{
		{"1.", 0, api.ErrForm}, {"p(1).", 2, api.ErrForm}, {"_p.", 0, api.ErrForm}, {"p(_X).", 2, api.ErrForm}, {"p \\.", 2, api.ErrForm}, {"p;", 1, api.ErrForm},
		{"é.", 0, api.ErrForm}, {"pé.", 1, api.ErrForm}, {"p(Xé).", 3, api.ErrForm}, {"p(É).", 2, api.ErrForm},
		{"\r\np.", 0, api.ErrForm}, {"p\r.", 1, api.ErrForm}, {"p\v.", 1, api.ErrForm}, {"p\f.", 1, api.ErrForm}, {"p\u00a0.", 1, api.ErrForm}, {"\uFEFFp.", 0, api.ErrForm}, {"p\x00.", 1, api.ErrForm},
		{"\xff", 0, api.ErrForm}, {"p.\xff", 2, api.ErrForm}, {"p\xff.", 1, api.ErrForm}, {"p(X\xc3).", 3, api.ErrForm}, {"\uFFFD", 0, api.ErrForm}, {"%\xff\n\xff", 3, api.ErrForm}, {"%é\n p \x80.", 7, api.ErrForm},
	})
}

func TestReadWordsThatCannotBe(t *testing.T) {
	faults(t, []fault{
		{times("n", 20) + ".", 0, api.OK}, {times("n", 21) + ".", 0, api.ErrForm}, {"p | " + times("n", 21), 4, api.ErrForm},
		{"p(" + times("X", 20) + ").", 0, api.OK}, {"p(" + times("X", 21) + ").", 2, api.ErrForm}, {"p(a, X" + times("_", 20) + "é", 5, api.ErrForm},
		{"n" + times("9", 20) + ".", 0, api.ErrForm}, {times("n", 20) + "é.", 20, api.ErrForm}, {times("n", 2998) + ".", 0, api.ErrForm},
		{"'" + times("n", 20) + "'.", 0, api.OK}, {"'" + times("n", 21) + "'.", 0, api.ErrForm}, {"p|'" + times("é", 21) + "'.", 2, api.ErrForm},
		{"'" + times(`\'`, 21) + "'.", 0, api.ErrForm}, {"'" + times(`\\`, 21) + "'.", 0, api.ErrForm},
		{"''.", 0, api.ErrForm}, {"p(a,'').", 4, api.ErrForm}, {"'", 0, api.ErrForm}, {"p.'", 2, api.ErrForm}, {"p | 'q", 4, api.ErrForm}, {"p | 'q.", 4, api.ErrForm},
		{"p | 'q\n'.", 4, api.ErrForm}, {"p | '\n'.", 4, api.ErrForm}, {"'q\\n'.", 0, api.ErrForm}, {"'q\\ '.", 0, api.ErrForm}, {"'q\\'.", 0, api.ErrForm}, {"'q\\", 0, api.ErrForm}, {"'q\\\n'.", 0, api.ErrForm}, {"'\\\\\\'.", 0, api.ErrForm},
		{"'\xff'.", 0, api.ErrForm}, {"'\xc3'.", 0, api.ErrForm}, {"~'é\xa9'.", 1, api.ErrForm}, {"'\xed\xa0\x80'.", 0, api.ErrForm}, {"'\xef\xbf'.", 0, api.ErrForm}, {"'\\\xff'.", 0, api.ErrForm},
	})
}

func TestReadEndsTooEarly(t *testing.T) {
	faults(t, []fault{
		{"p", 1, api.ErrForm}, {"p ", 2, api.ErrForm}, {"p%é", 4, api.ErrForm}, {"p\n%.", 4, api.ErrForm}, {"'é'", 4, api.ErrForm},
		{"~", 1, api.ErrForm}, {"p|", 2, api.ErrForm}, {"p(", 2, api.ErrForm}, {"p(a", 3, api.ErrForm}, {"p(X ", 4, api.ErrForm}, {"p(a,", 4, api.ErrForm}, {"p(a)", 4, api.ErrForm}, {"p.q", 3, api.ErrForm},
		{times("p(", 1500), 3000, api.ErrForm},
	})
}

func TestReadNamesThatAreTwoThings(t *testing.T) {
	faults(t, []fault{
		{"p. p(a).", 3, api.ErrName}, {"p | p(a).", 4, api.ErrName}, {"p(a). p.", 6, api.ErrName}, {"p(a). ~p(a,b).", 7, api.ErrName},
		{"p(p).", 2, api.ErrName}, {"p(a). a.", 6, api.ErrName}, {"a. p(a).", 5, api.ErrName}, {"p(p(X)).", 2, api.ErrName},
		{"p(a, a(b)).", 5, api.ErrName}, {"p(f(f)).", 4, api.ErrName}, {"p(f(a)). p(f(a,a)).", 11, api.ErrName},
		{"p(a). 'p'.", 6, api.ErrName}, {"'é'. ~ 'é'(X).", 8, api.ErrName}, {"p(X) | 'P'(X,X) | 'P'(X).", 18, api.ErrName},
		{"p(a,b,c,d,e).", 0, api.OK}, {"p(a,b,c,d,e,g).", 0, api.ErrName}, {"p(f(a,b,c,d,e,X)).", 2, api.ErrName}, {"p(X,X,X,X,X,X).", 0, api.ErrName},
		{"p(f(X,X,X,X,X)).", 0, api.OK}, {"s. p(a" + times(",a", 1000) + ").", 3, api.ErrName},
		{"p(a,b,c,d,e,p).", 0, api.ErrName}, {"p(a,a(a),c,d,e,g). q. q(a).", 0, api.ErrName}, {"q. q(a). p(a,b,c,d,e,g).", 3, api.ErrName},
		{"p(p(p)).", 2, api.ErrName}, {"p(f(g(a)), g, f).", 11, api.ErrName},
		{"p(X). q(X).", 0, api.OK}, {"p(x, X).", 0, api.OK}, {"p(a). 'P'('A').", 0, api.OK},
	})
}

func TestReadTooMany(t *testing.T) {
	seven := "a|b|c|d|e|f|g"
	// deep is an atom of so many nodes.
	deep := func(nodes int) string {
		return "p(" + times("f(", nodes-2) + "X" + times(")", nodes-1)
	}
	faults(t, []fault{
		{times("s.", 40), 0, api.OK}, {times("s.", 41), 80, api.ErrMany}, {times("$false.", 40), 0, api.OK}, {times("$false.", 41), 280, api.ErrMany},
		{times("s.", 40) + " %\n ~s. s.", 84, api.ErrMany}, {times("s.", 1500), 80, api.ErrMany},
		{"s. " + seven + "|h.", 0, api.OK}, {"s. " + seven + "|h|i.", 3, api.ErrMany}, {seven + "|~a.", 0, api.OK}, {seven + "|~a|~b.", 0, api.ErrMany},
		{seven + "|h|a|h.", 0, api.OK}, {times("a|", 1400) + "a.", 0, api.OK}, {"p(X)" + times("|p(X)", 300) + ".", 0, api.OK},
		{"p(A)|p(B)|p(C)|p(D)|p(E)|p(F)|p(G)|p(H).", 0, api.OK}, {"p(A)|p(B)|p(C)|p(D)|p(E)|p(F)|p(G)|p(H)|p(I).", 0, api.ErrMany},
		{deep(60) + ".", 0, api.OK}, {deep(61) + ".", 0, api.ErrMany}, {"s.\n ~" + deep(61) + ".", 4, api.ErrMany}, {deep(990) + ".", 0, api.ErrMany},
		{deep(30) + "|~" + deep(30) + ".", 0, api.OK}, {deep(30) + "|~" + deep(31) + ".", 0, api.ErrMany}, {deep(60) + "|" + deep(60) + ".", 0, api.OK},
		{times("s.", 39) + deep(61) + ".s.", 78, api.ErrMany}, {times("s.", 40) + deep(61) + ".", 80, api.ErrMany}, {deep(61) + "." + times("s.", 40), 0, api.ErrMany},
	})
}

func TestReadWhichErrorIsFirst(t *testing.T) {
	nine := "a|b|c|d|e|f|g|h|i."
	faults(t, []fault{
		{"p. p(a). |", 9, api.ErrForm}, {nine + "p", 19, api.ErrForm}, {times("s.", 41) + "\xff", 82, api.ErrForm}, {"p(a,b,c,d,e,g)", 14, api.ErrForm},
		{nine + "p. p(a).", 21, api.ErrName}, {times("s.", 41) + "s(a).", 82, api.ErrName}, {"a|b|c|d|e|f|g|h|a(i).", 16, api.ErrName},
		{"| '", 0, api.ErrForm}, {"p 'q", 2, api.ErrForm}, {"p. p(a). p(b", 12, api.ErrForm},
	})
}
