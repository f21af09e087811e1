package syntax

import "moot/api"

// emptyClause is the text of the clause that is false.
const emptyClause = "$false"

// The kinds of tokens. A mark is a kind by itself, so that these are no marks.
const (
	endToken      = end
	badToken      = broken
	falseToken    = '$'
	nameToken     = 'a'
	variableToken = 'A'
)

// token has a word where it is a name or a variable.
type token struct {
	kind rune
	at   int
	word string
}

// scanner takes tokens from what is left of a text. The end is always left: no look at left[0] goes astray.
type scanner struct {
	left []glyph
}

// next takes the next token; a bad one, and the end, stay where they are.
func (s *scanner) next() token {
	s.skipGaps()
	first := s.left[0]
	switch {
	case isLower(first.char):
		return s.word(nameToken)
	case isUpper(first.char):
		return s.word(variableToken)
	case first.char == '\'':
		return s.quoted()
	case first.char == '$':
		return s.empty()
	case isMark(first.char):
		s.left = s.left[1:]
		return token{kind: first.char, at: first.at}
	case first.char == end:
		return token{kind: endToken, at: first.at}
	}
	return s.bad()
}

func (s *scanner) bad() token { return token{kind: badToken, at: s.left[0].at} }

func (s *scanner) skipGaps() {
	for {
		switch {
		case isBlank(s.left[0].char):
			s.left = s.left[1:]
		case s.left[0].char == '%':
			s.skipComment()
		default:
			return
		}
	}
}

func (s *scanner) skipComment() {
	for s.left[0].char != '\n' && s.left[0].char != end {
		s.left = s.left[1:]
	}
}

func (s *scanner) word(kind rune) token {
	var word []rune
	for _, g := range s.left {
		if !isInWord(g.char) {
			break
		}
		word = append(word, g.char)
	}
	if len(word) > api.MaxName {
		return s.bad()
	}
	t := token{kind, s.left[0].at, string(word)}
	s.left = s.left[len(word):]
	return t
}

func (s *scanner) quoted() token {
	var name []rune
	rest := s.left[1:]
	for rest[0].char != '\'' {
		if rest[0].char == '\\' {
			rest = rest[1:]
			if !isEscaped(rest[0].char) {
				return s.bad()
			}
		}
		switch char := rest[0].char; char {
		case '\n', broken, end:
			return s.bad()
		default:
			name = append(name, char)
		}
		rest = rest[1:]
	}
	if len(name) == 0 || len(name) > api.MaxName {
		return s.bad()
	}
	t := token{nameToken, s.left[0].at, string(name)}
	s.left = rest[1:]
	return t
}

func (s *scanner) empty() token {
	t := token{kind: falseToken, at: s.left[0].at}
	for i, char := range emptyClause {
		// The end is left as well, and is no character of the word: i stays within what is left.
		if s.left[i].char != char {
			return s.bad()
		}
	}
	s.left = s.left[len(emptyClause):]
	return t
}
