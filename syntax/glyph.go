// Package syntax: the texts of clauses, read and written.
package syntax

import (
	"strings"
	"unicode/utf8"
)

// What stands for no character is below all runes, so that no test for a rune takes it for one.
const (
	end    rune = -1 // behind the last character
	broken rune = -2 // a byte that begins no character
)

// glyph is a character of a text, and the byte where it begins.
type glyph struct {
	char rune
	at   int
}

// glyphs lists the characters of a text, with the end behind them.
func glyphs(text string) []glyph {
	list := make([]glyph, 0, len(text)+1)
	for at, char := range text {
		// A broken byte looks like U+FFFD, which may as well stand in the text itself.
		if char == utf8.RuneError && !strings.HasPrefix(text[at:], string(utf8.RuneError)) {
			char = broken
		}
		list = append(list, glyph{char, at})
	}
	return append(list, glyph{end, len(text)})
}

func isBlank(char rune) bool { return char == ' ' || char == '\t' || char == '\n' }

func isLower(char rune) bool { return 'a' <= char && char <= 'z' }

func isUpper(char rune) bool { return 'A' <= char && char <= 'Z' }

func isDigit(char rune) bool { return '0' <= char && char <= '9' }

func isInWord(char rune) bool {
	return isLower(char) || isUpper(char) || isDigit(char) || char == '_'
}

func isMark(char rune) bool { return strings.ContainsRune("|~(),.", char) }

// isEscaped tells which characters stand behind a `\` in a name in quotes, and nowhere else in it.
func isEscaped(char rune) bool { return char == '\'' || char == '\\' }
