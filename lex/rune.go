package lex

import (
	"strings"
	"unicode/utf8"
)

// noRune tells whether r, ranged over at the beginning of rest, stands for a byte that is no rune's: such a byte gives the same r as the rune FFFD, which may stand in a text.
func noRune(rest string, r rune) bool {
	return r == utf8.RuneError && !strings.HasPrefix(rest, "\uFFFD")
}

func isBlank(r rune) bool {
	return r == ' ' || r == '\t' || r == '\n' || r == '\r'
}

// isLetter doesn't tell a byte that is no rune's from a letter: noRune is asked ahead of it.
func isLetter(r rune) bool {
	return 'A' <= r && r <= 'Z' || 'a' <= r && r <= 'z' || r == '_' || r >= utf8.RuneSelf
}

func isDigit(r rune) bool {
	return '0' <= r && r <= '9'
}
