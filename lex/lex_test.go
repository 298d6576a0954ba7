package lex_test

import (
	"slices"
	"strings"
	"testing"
	"unicode/utf8"

	"avow/api"
	"avow/lex"
)

// told tells tokens but the end by their kinds and texts, as "name:x op:+".
func told(l []api.Token) string {
	kinds := [...]string{api.TokEnd: "end", api.TokName: "name", api.TokWord: "word", api.TokNum: "num", api.TokOp: "op"}
	var out []string
	for _, k := range l[:len(l)-1] {
		out = append(out, kinds[k.Tok]+":"+k.Text)
	}
	return strings.Join(out, " ")
}

// read tells the tokens of a text that can be read.
func read(t *testing.T, text string) []api.Token {
	t.Helper()
	l, wrong := ask(t, text)
	if wrong != nil || len(l) == 0 {
		t.Fatalf("P14.1: %.80q: %v, %v", text, l, wrong)
	}
	return l
}

func TestTokensOfTexts(t *testing.T) {
	for _, x := range []struct{ text, wanted string }{
		{"", ""},
		{" \t\n\r", ""},
		{"x := !x + 1", "name:x op::= op:! name:x op:+ num:1"},
		{"let rec f(x : int) : Pure int is x;;", "word:let word:rec name:f op:( name:x op:: word:int op:) op:: word:Pure word:int word:is name:x op:;;"},
		{"{v:int|v>=0}", "op:{ name:v op:: word:int op:| name:v op:>= num:0 op:}"},
		// names
		{"_ __ _1 a1b2 A Z a z", "name:_ name:__ name:_1 name:a1b2 name:A name:Z name:a name:z"},
		{"lets let_ let1 Let LET éif ifé", "name:lets name:let_ name:let1 name:Let name:LET name:éif name:ifé"},
		{"let.in", "word:let op:. word:in"},
		{"\u0080 \u00a0 \u2003\ufeff \ufffd \U0010ffff", "name:\u0080 name:\u00a0 name:\u2003\ufeff name:\ufffd name:\U0010ffff"},
		// numbers
		{"0 7 10 100", "num:0 num:7 num:10 num:100"},
		{"0a 12let 0(", "num:0 name:a num:12 word:let num:0 op:("},
		{"-0 1-1", "op:- num:0 num:1 op:- num:1"},
		{"1.0", "num:1 op:. num:0"},
		{"٣3", "name:٣3"},
		// signs, as long as can be
		{"= == === ==> ==>> =>", "op:= op:= op:= op:= op:= op:= op:==> op:==> op:> op:= op:>"},
		{"==x ==", "op:= op:= name:x op:= op:="},
		{"===>", "op:= op:==>"},
		{"<=> <>= <<= ->= -->", "op:<= op:> op:<> op:= op:< op:<= op:-> op:= op:- op:->"},
		{"::= :== ;;; ||| &&&&", "op:: op::= op::= op:= op:;; op:; op:|| op:| op:&& op:&&"},
		{">== >=> <- !=", "op:>= op:= op:>= op:> op:< op:- op:! op:="},
		// comments
		{"a(**)b", "name:a name:b"},
		{"(***)1(****)2", "num:1 num:2"},
		{"(*)*)a", "name:a"},
		{"(* (* *) *)", "op:* op:)"},
		{"(* é \ufffd \x00 # & 007 *)x", "name:x"},
		{"( * ) *) (", "op:( op:* op:) op:* op:) op:("},
		{"((*a*)) *(*b*)*", "op:( op:) op:* op:*"},
		{"(*" + strings.Repeat("n", 500) + strings.Repeat("9", 500) + "*)", ""},
		{"=(**)= :(**)= le(**)t 1(**)2", "op:= op:= op:: op:= name:le name:t num:1 num:2"},
	} {
		if got := told(read(t, x.text)); got != x.wanted {
			t.Errorf("P14.1: %.80q: %s, wanted %s", x.text, got, x.wanted)
		}
	}
}

func TestPlacesAreBytes(t *testing.T) {
	wanted := []api.Token{
		{Tok: api.TokName, Text: "é", At: 1}, {Tok: api.TokOp, Text: ":=", At: 4}, {Tok: api.TokNum, Text: "12", At: 14},
		{Tok: api.TokWord, Text: "in", At: 17}, {Tok: api.TokEnd, At: 20},
	}
	if l := read(t, " é :=(*é*)\n\t12\rin "); !slices.Equal(l, wanted) {
		t.Errorf("P14.1: %v, wanted %v", l, wanted)
	}
}

func TestTextsThatAreWrong(t *testing.T) {
	for _, x := range []struct {
		text string
		at   int
		err  api.Errno
	}{
		{"a (* b", 2, api.ErrLex}, {"(*", 0, api.ErrLex}, {"(*)", 0, api.ErrLex}, {" (* * )", 1, api.ErrLex}, {"(**) (* (**", 5, api.ErrLex}, {"(*(*", 0, api.ErrLex},
		{"&", 0, api.ErrLex}, {"a & b", 2, api.ErrLex}, {"&&&", 2, api.ErrLex}, {"& &", 0, api.ErrLex},
		{"a'", 1, api.ErrLex}, {"a\x00", 1, api.ErrLex}, {"\v", 0, api.ErrLex}, {"1 \f", 2, api.ErrLex}, {"\x7f", 0, api.ErrLex}, {"é#", 2, api.ErrLex},
		// bytes that are no rune's: cut off, of no rune, too long, of half a pair, past the last rune
		{"\x80", 0, api.ErrLex}, {"a\xff", 1, api.ErrLex}, {"1\xc3", 1, api.ErrLex}, {"é\xc3(", 2, api.ErrLex}, {"é\xe2\x82", 2, api.ErrLex},
		{"a\xc0\x80", 1, api.ErrLex}, {"\xed\xa0\x80", 0, api.ErrLex}, {"a \xf4\x90\x80\x80", 2, api.ErrLex}, {"\xef\xbf", 0, api.ErrLex}, {"\ufffd\xef\xbf", 3, api.ErrLex},
		{"(* \xff *)", 3, api.ErrLex}, {"(*\xe2\x82", 2, api.ErrLex}, {"(* é\xc3*) \xff", 5, api.ErrLex}, {"(**)\xff", 4, api.ErrLex}, {"(*\ufffd\x80", 5, api.ErrLex},
		// noughts ahead
		{"1 007", 2, api.ErrLex}, {"00", 0, api.ErrLex}, {"x01", -1, api.OK}, {"-01", 1, api.ErrLex}, {"00\xff", 0, api.ErrLex},
		// the first thing that can't be is told
		{"# \xff", 0, api.ErrLex}, {"\xff #", 0, api.ErrLex}, {"# (*", 0, api.ErrLex}, {"00 " + strings.Repeat("n", 41), 0, api.ErrLex},
		{strings.Repeat("n", 41) + " 00", 0, api.ErrLexBig}, {strings.Repeat("n", 41) + "\xff", 0, api.ErrLexBig}, {strings.Repeat("n", 40) + "\xff", 40, api.ErrLex},
	} {
		_, wrong := ask(t, x.text)
		switch {
		case x.err == api.OK && wrong != nil:
			t.Errorf("P14.1: %.80q: %v", x.text, wrong)
		case x.err != api.OK && (wrong == nil || wrong.At != x.at || wrong.Err != x.err):
			t.Errorf("P14.1: %.80q: %v, wanted %v at %d", x.text, wrong, x.err, x.at)
		}
	}
}

func TestLimits(t *testing.T) {
	fit := []string{
		strings.Repeat("9", api.MaxDigits),
		strings.Repeat("n", api.MaxName),
		strings.Repeat("é", api.MaxName/2),
		strings.Repeat("\U0001F600", api.MaxName/4),
	}
	for _, s := range fit {
		if l := read(t, s); len(l) != 2 || l[0].Text != s || l[1] != (api.Token{At: len(s)}) {
			t.Errorf("P14.1: %.20q of %d bytes: %v", s, len(s), l)
		}
	}
	for _, x := range []struct {
		text string
		err  api.Errno
	}{
		{fit[0] + "0", api.ErrLexBig}, {fit[1] + "n", api.ErrLexBig}, {fit[1] + "1", api.ErrLexBig}, {fit[1] + "_", api.ErrLexBig},
		{fit[2] + "1", api.ErrLexBig}, {fit[2][2:] + "n\u20ac", api.ErrLexBig}, {fit[3] + "x", api.ErrLexBig},
		{"0" + fit[0], api.ErrLex}, {"00" + fit[0], api.ErrLex},
	} {
		_, wrong := ask(t, "+ "+x.text+" #")
		if wrong == nil || *wrong != (api.PlaceError{At: 2, Err: x.err}) {
			t.Errorf("P14.1: %.20q of %d bytes: %v, wanted %v", x.text, len(x.text), wrong, x.err)
		}
	}
}

func TestTextsOfMaxText(t *testing.T) {
	for _, s := range []string{" ", "+", "n ", "(", "(**)", "\n1", "é(", "(*", "\xff", "#", "0"} {
		text := strings.Repeat(s, (api.MaxText-1)/len(s))
		text += strings.Repeat(" ", api.MaxText-1-len(text)) + "."
		hold(t, text)
		for _, more := range []string{" ", ".", "\xff", "é", " " + text} {
			if _, wrong := ask(t, text+more); wrong == nil || *wrong != (api.PlaceError{At: api.MaxText, Err: api.ErrLexBig}) {
				t.Errorf("P14.1: %q to MaxText, then %.20q: %v", s, more, wrong)
			}
		}
	}
	text := strings.Repeat("n ", api.MaxText/2)
	if l := read(t, text); len(l) != api.MaxText/2+1 || l[len(l)-1] != (api.Token{At: api.MaxText}) {
		t.Errorf("P14.1: %d tokens, the last one %v", len(l), l[len(l)-1])
	}
}

// kindOfRune tells how a text of one rune is to be read, by the chapter's classes.
func kindOfRune(r rune) (tok int, ok bool) {
	switch {
	case strings.ContainsRune(" \t\r\n", r):
		return api.TokEnd, true
	case r >= 0x80 || r == '_' || strings.ContainsRune("ABCDEFGHIJKLMNOPQRSTUVWXYZabcdefghijklmnopqrstuvwxyz", r):
		return api.TokName, true
	case strings.ContainsRune("0123456789", r):
		return api.TokNum, true
	case strings.ContainsRune(":;,.(){}|=<>+-*!", r):
		return api.TokOp, true
	}
	return 0, false
}

func TestEachRune(t *testing.T) {
	for r := rune(0); r <= utf8.MaxRune; r++ {
		if !utf8.ValidRune(r) {
			continue
		}
		s := string(r)
		l, err := lex.Tokens(s)
		tok, ok := kindOfRune(r)
		wanted := []api.Token{{Tok: tok, Text: s}, {At: len(s)}}
		if tok == api.TokEnd {
			wanted = wanted[1:]
		}
		if ok != (err == nil) || ok && !slices.Equal(l, wanted) {
			t.Errorf("P14.1: rune %x: %v, %v", r, l, err)
		}
	}
}

func TestEachByteBehindAnother(t *testing.T) {
	for a := range 256 {
		hold(t, string([]byte{byte(a)}))
		for b := range 256 {
			hold(t, string([]byte{byte(a), byte(b)}))
			hold(t, "(*"+string([]byte{byte(a), byte(b)})+"*)")
		}
	}
}

func TestWord(t *testing.T) {
	if len(words) != 27 {
		t.Fatalf("%d words", len(words))
	}
	for _, w := range words {
		if !lex.Word(w) {
			t.Errorf("P14.2: %q is none", w)
		}
		if l := read(t, w); told(l) != "word:"+w {
			t.Errorf("P14.1: %q: %v", w, l)
		}
		for _, s := range []string{w + "x", "x" + w, w + " ", " " + w, w[1:], w[:len(w)-1], strings.ToUpper(w), strings.ToUpper(w[:1]) + w[1:], strings.ToLower(w), w + w, w + "\x00"} {
			if lex.Word(s) != slices.Contains(words, s) {
				t.Errorf("P14.2: %q", s)
			}
		}
	}
	for _, s := range []string{"", " ", "x", "1", "+", "(* *)", "end", "for", "while", "match", "fun", "\xff", "é", "Ref", strings.Repeat("let", 100000)} {
		if lex.Word(s) {
			t.Errorf("P14.2: %.20q", s)
		}
	}
}

func TestAnswersAreNewMemory(t *testing.T) {
	first := read(t, "a b")
	again := slices.Clone(first)
	other := read(t, "a b")
	_ = append(first[:0], api.Token{Tok: 9}, api.Token{Tok: 9}, api.Token{Tok: 9})
	if !slices.Equal(other, again) || !slices.Equal(read(t, "a b"), again) {
		t.Errorf("rule 3: %v, wanted %v", other, again)
	}
}
