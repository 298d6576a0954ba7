package lex_test

import (
	"regexp"
	"slices"
	"strings"
	"testing"
	"unicode/utf8"

	"avow/api"
	"avow/lex"
)

const (
	allWords = "let rec ref is in if then else try with raise assert old requires ensures decreases int bool unit true false not Pure State Exn All Div"
	allSigns = "==> := <= >= <> && || -> ;; : ; , . ( ) { } | = < > + - * !"
)

var (
	words   = strings.Fields(allWords)
	signs   = strings.Fields(allSigns)
	aName   = regexp.MustCompile(`^[A-Za-z_\x{80}-\x{10FFFF}][A-Za-z_\x{80}-\x{10FFFF}0-9]*$`)
	aNumber = regexp.MustCompile(`^[0-9]+$`)
)

// kindOf tells which token all of s is, by the chapter's words without its limits; TokEnd, if none.
func kindOf(s string) int {
	switch {
	case !utf8.ValidString(s):
		return api.TokEnd
	case slices.Contains(words, s):
		return api.TokWord
	case aName.MatchString(s):
		return api.TokName
	case aNumber.MatchString(s):
		return api.TokNum
	case slices.Contains(signs, s):
		return api.TokOp
	}
	return api.TokEnd
}

// longestAt tells the longest token at a place, by trying all ends; TokEnd, if there is none. A token that goes on does so by a rune, or is a sign: four bytes without a new end are enough; what is past all limits needn't be tried.
func longestAt(text string, at int) (tok, end int) {
	end = at
	for i := at + 1; i <= min(len(text), end+utf8.UTFMax, at+api.MaxDigits+1); i++ {
		if k := kindOf(text[at:i]); k != api.TokEnd {
			tok, end = k, i
		}
	}
	return tok, end
}

// firstBad tells where the first byte of s is that is no rune's; the length, if there is none.
func firstBad(s string) int {
	for i := 0; i < len(s); {
		_, n := utf8.DecodeRuneInString(s[i:])
		if !utf8.ValidString(s[i : i+n]) {
			return i
		}
		i += n
	}
	return len(s)
}

// commentAt tells where a comment ends that begins at a place, or where it can't be.
func commentAt(text string, at int) (end int, wrong *api.PlaceError) {
	length := strings.Index(text[at+2:], "*)")
	end = at + 2 + length + 2
	if length < 0 {
		end = len(text)
	}
	if bad := at + firstBad(text[at:end]); bad < end {
		return 0, &api.PlaceError{At: bad, Err: api.ErrLex}
	}
	if length < 0 {
		return 0, &api.PlaceError{At: at, Err: api.ErrLex}
	}
	return end, nil
}

// limit tells the error of a token that is too large, or a number that is none.
func limit(tok int, s string) api.Errno {
	switch {
	case tok == api.TokNum && s[0] == '0' && len(s) > 1:
		return api.ErrLex
	case tok == api.TokNum && len(s) > api.MaxDigits, tok == api.TokName && len(s) > api.MaxName:
		return api.ErrLexBig
	}
	return api.OK
}

// plain tells what Tokens must tell, by the chapter's words.
func plain(text string) ([]api.Token, *api.PlaceError) {
	if len(text) > api.MaxText {
		return nil, &api.PlaceError{At: api.MaxText, Err: api.ErrLexBig}
	}
	var out []api.Token
	for at := 0; at < len(text); {
		if strings.Contains(" \t\r\n", text[at:at+1]) {
			at++
			continue
		}
		if strings.HasPrefix(text[at:], "(*") {
			end, wrong := commentAt(text, at)
			if wrong != nil {
				return nil, wrong
			}
			at = end
			continue
		}
		tok, end := longestAt(text, at)
		if tok == api.TokEnd {
			return nil, &api.PlaceError{At: at, Err: api.ErrLex}
		}
		if err := limit(tok, text[at:end]); err != api.OK {
			return nil, &api.PlaceError{At: at, Err: err}
		}
		out = append(out, api.Token{Tok: tok, Text: text[at:end], At: at})
		at = end
	}
	return append(out, api.Token{At: len(text)}), nil
}

// ask tells what Tokens tells of a text, its error as the one that it must be, and holds both against DOC.md's rules 4 and 8.
func ask(t *testing.T, text string) ([]api.Token, *api.PlaceError) {
	t.Helper()
	l, err := lex.Tokens(text)
	again, errAgain := lex.Tokens(text)
	if !slices.Equal(l, again) || (err == nil) != (errAgain == nil) || err != nil && err.Error() != errAgain.Error() {
		t.Errorf("rule 8: %.80q: %v, %v, then %v, %v", text, l, err, again, errAgain)
	}
	if err == nil {
		return l, nil
	}
	wrong, ok := err.(*api.PlaceError)
	if !ok || wrong == nil {
		t.Fatalf("P14.1: %.80q: an error of another type: %T", text, err)
	}
	if len(l) != 0 {
		t.Errorf("rule 4: %.80q: tokens beside %v", text, wrong)
	}
	return l, wrong
}

// hold holds what Tokens tells of a text against the chapter's words.
func hold(t *testing.T, text string) {
	t.Helper()
	l, wrong := ask(t, text)
	wanted, wantedWrong := plain(text)
	switch {
	case (wrong == nil) != (wantedWrong == nil):
		t.Errorf("P14.1: %.80q: error %v, wanted %v", text, wrong, wantedWrong)
	case wrong != nil && *wrong != *wantedWrong:
		t.Errorf("P14.1: %.80q: %v, wanted %v", text, wrong, wantedWrong)
	case wrong == nil && !slices.Equal(l, wanted):
		t.Errorf("P14.1: %.80q: %v, wanted %v", text, l, wanted)
	}
}
