package lex

import (
	"strings"

	"avow/api"
)

// between: the kind of what stands between tokens. It is no kind of a token.
const between = -1

// signs: each stands ahead of those that it begins with, so that the first that fits is the longest.
var signs = [...]string{
	"==>",
	":=", "<=", ">=", "<>", "&&", "||", "->", ";;",
	":", ";", ",", ".", "(", ")", "{", "}", "|", "=", "<", ">", "+", "-", "*", "!",
}

// read tells the kind and the end of what begins at a place of a text, by the rune r; or what can't be.
func read(text string, at int, r rune) (tok, end int, wrong *api.PlaceError) {
	switch {
	case noRune(text[at:], r):
		return refuse(at, api.ErrLex)
	case isBlank(r):
		return between, at + 1, nil
	case isLetter(r):
		return readName(text, at)
	case isDigit(r):
		return readNumber(text, at)
	case strings.HasPrefix(text[at:], "(*"):
		return readComment(text, at)
	}
	return readSign(text, at)
}

func refuse(at int, err api.Errno) (int, int, *api.PlaceError) {
	return 0, 0, &api.PlaceError{At: at, Err: err}
}

func readName(text string, at int) (int, int, *api.PlaceError) {
	end := at + nameLength(text[at:])
	if end-at > api.MaxName {
		return refuse(at, api.ErrLexBig)
	}
	if Word(text[at:end]) {
		return api.TokWord, end, nil
	}
	return api.TokName, end, nil
}

// nameLength tells how many bytes of letters and digits a text begins with.
func nameLength(text string) int {
	for i, r := range text {
		if noRune(text[i:], r) || !isLetter(r) && !isDigit(r) {
			return i
		}
	}
	return len(text)
}

func readNumber(text string, at int) (int, int, *api.PlaceError) {
	end := at + digitsLength(text[at:])
	if text[at] == '0' && end-at > 1 {
		return refuse(at, api.ErrLex)
	}
	if end-at > api.MaxDigits {
		return refuse(at, api.ErrLexBig)
	}
	return api.TokNum, end, nil
}

// digitsLength tells how many digits a text begins with.
func digitsLength(text string) int {
	for i, r := range text {
		if !isDigit(r) {
			return i
		}
	}
	return len(text)
}

func readComment(text string, at int) (int, int, *api.PlaceError) {
	inside := at + len("(*")
	star := false // of what is inside alone: (*) isn't ended
	for i, r := range text[inside:] {
		if noRune(text[inside+i:], r) {
			return refuse(inside+i, api.ErrLex)
		}
		if star && r == ')' {
			return between, inside + i + 1, nil
		}
		star = r == '*'
	}
	return refuse(at, api.ErrLex)
}

func readSign(text string, at int) (int, int, *api.PlaceError) {
	for _, s := range signs {
		if strings.HasPrefix(text[at:], s) {
			return api.TokOp, at + len(s), nil
		}
	}
	return refuse(at, api.ErrLex)
}
