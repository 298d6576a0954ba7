package lex_test

import (
	"math/rand"
	"strings"
	"testing"

	"avow/api"
)

// rightPieces: what may stand in a text.
func rightPieces() []string {
	out := append(strings.Fields(allWords), strings.Fields(allSigns)...)
	return append(out, " ", "\t", "\n", "\r", "(*", "*)", "(**)", "(* a *)", "a", "_", "Z", "é", "\u0080", "\ufffd", "\U0010ffff", "x1", "0", "1", "9", "10")
}

// wrongPieces: what may not, or only within a comment, or only beside another.
func wrongPieces() []string {
	return []string{"&", "#", "\x00", "\v", "'", "00", "\xff", "\xc3", "\xa9", "\xef", "\xbf", "\xbd", "\xed\xa0\x80", "\xf4\x90\x80\x80"}
}

// long tells a run of letters, of digits, or of both, about as long as may be.
func long(r *rand.Rand) string {
	switch r.Intn(4) {
	case 0:
		return strings.Repeat("n", api.MaxName-1+r.Intn(3))
	case 1:
		return strings.Repeat("7", api.MaxDigits-1+r.Intn(3))
	case 2:
		return strings.Repeat("0", 1+r.Intn(2)) + strings.Repeat("7", api.MaxDigits-2+r.Intn(3))
	}
	return strings.Repeat("é", api.MaxName/2-r.Intn(2)) + strings.Repeat("1", r.Intn(4))
}

func TestRandomTexts(t *testing.T) {
	r := rand.New(rand.NewSource(14))
	right, wrong := rightPieces(), wrongPieces()
	for range 60000 {
		var text strings.Builder
		for range r.Intn(12) {
			switch r.Intn(60) {
			case 0:
				text.WriteString(long(r))
			case 1, 2, 3, 4:
				text.WriteString(wrong[r.Intn(len(wrong))])
			default:
				text.WriteString(right[r.Intn(len(right))])
			}
		}
		hold(t, text.String())
	}
}

// TestSmallTexts asks all texts of up to four of the bytes at which one token turns into another.
func TestSmallTexts(t *testing.T) {
	const alphabet = "=<>:;-|&(*)a0 \xc3\xa9"
	var try func(text string, more int)
	try = func(text string, more int) {
		hold(t, text)
		for i := 0; more > 0 && i < len(alphabet); i++ {
			try(text+alphabet[i:i+1], more-1)
		}
	}
	try("", 4)
}

// gap tells something that may stand between tokens.
func gap(r *rand.Rand) string {
	all := []string{" ", "\t", "\n", "\r", "(**)", "(***)", "(*)*)", "(* let x = 00 # & *)", "(* é\ufffd (* \n*)", "(*;;*)", "(*" + strings.Repeat("n", 50) + "*)"}
	var out string
	for range 1 + r.Intn(3) {
		out += all[r.Intn(len(all))]
	}
	return out
}

// TestBetweenTokens asks for tokens with other things between them: where something stood, and where nothing did.
func TestBetweenTokens(t *testing.T) {
	r := rand.New(rand.NewSource(143))
	all := rightPieces()
	for range 20000 {
		var text strings.Builder
		for range r.Intn(10) {
			text.WriteString(all[r.Intn(len(all))])
		}
		l, wrong := ask(t, text.String())
		if wrong != nil {
			continue
		}
		spread := strings.Repeat(gap(r), r.Intn(2))
		for i, k := range l {
			l[i].At = len(spread)
			spread += k.Text
			if i < len(l)-1 {
				spread += gap(r)
			}
		}
		got, wrong := ask(t, spread)
		if wrong != nil || len(got) != len(l) {
			t.Errorf("P14.3: %q as %q: %v, %v", text.String(), spread, got, wrong)
			continue
		}
		for i, k := range got {
			if k != l[i] {
				t.Errorf("P14.3: %q as %q: %v, wanted %v", text.String(), spread, k, l[i])
			}
		}
	}
}
