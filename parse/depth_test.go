package parse_test

import (
	"math/rand"
	"strings"
	"testing"

	"avow/api"
)

// In texts of these tests « and » stand round all that counts as one deeper than what it stands in, and @ for what is put within.
const (
	deeper = "«"
	done   = "»"
	hole   = "@"
)

// arounds: what may stand round a unary, so that all together is a unary, too.
func arounds() []string {
	return []string{
		"(«@»)", "-«@»", "not «@»", "- «@»", "f(«@»)", "f(«1», «@»)", "f(«-«(«-«1»»)»», «(«1; «1»»)», «@», «2; «3»»)",
		"(«1 ==> «@»»)", "(«1 ==> «2 ==> «@ ==> «4»»»»)", "(«@ ==> «1 ==> «2»»»)", "(«a; «@»»)", "(«a; «b; «@; «c»»»»)", "(«@; «c»»)",
		"(«if «@» then «1» else «2»»)", "(«if «1» then «@» else «2»»)", "(«if «1» then «2» else «@»»)", "(«let x = «@» in «1»»)", "(«let x = «1» in «@»»)", "(«try «@» with x -> «1»»)", "(«try «1» with x -> «@»»)",
		"(«x := @»)", "(«raise @»)", "(«assert @»)", "(«x := 1 ==> «@»»)", "(«1 + @ * 2»)", "(«1 = @»)", "(«@ < 1»)", "(«1 || @ && 2»)", "(«(«(«(«1»)»)») + @»)", "(«-«1» - @»)", "(«1 ==> «- «1» = @»»)", "(«@ * («(«1»)»)»)",
	}
}

// heads: what may stand round an expr of a declaration, which is 1 deep.
func heads() []string {
	return []string{
		"let f : Pure int is «@»;;", "let f : Pure int requires «@» is «1»;;", "let f : Pure int ensures r. «@» is «1»;;", "let f : Pure int decreases «@» is «1»;;", "let f : Pure int decreases «1», «(«(«1»)»)», «@» is «1»;;",
		"let f : Pure {v : int | «@»} is «1»;;", "let f (x : {v : int | «@»}) : Pure int is «1»;;", "ref x := 1;; let f : Pure int is «(«1»)»;; let f : Pure int requires «(«-«1»»)» is «@»;;",
	}
}

// tooDeep takes the marks out of a text, and tells it and the place of the first thing that is too deep; -1, if none is.
func tooDeep(text string) (string, int) {
	var out strings.Builder
	depth, at := 0, -1
	for _, r := range text {
		switch string(r) {
		case deeper:
			depth++
			if depth > api.MaxDepth && at < 0 {
				at = out.Len()
			}
		case done:
			depth--
		default:
			out.WriteRune(r)
		}
	}
	return out.String(), at
}

func holdDepth(t *testing.T, text string, wrong *api.PlaceError, at int) {
	t.Helper()
	switch {
	case at < 0 && wrong != nil:
		t.Errorf("P15.3: %.60q: %v", text, wrong)
	case at >= 0 && (wrong == nil || *wrong != api.PlaceError{At: at, Err: api.ErrDeep}):
		t.Errorf("P15.3: %.60q: %v, wanted ErrDeep at %d", text, wrong, at)
	}
}

// wrapped puts what choose tells round 1, until that is so deep, or, as some bring more than one, a little deeper.
func wrapped(depth int, choose func() string) string {
	ahead, behind := "", ""
	for depth > 0 {
		a, b, _ := strings.Cut(choose(), hole)
		ahead, behind = ahead+a, b+behind
		depth -= strings.Count(a, deeper) - strings.Count(a, done)
	}
	return ahead + "1" + behind
}

func TestEachKindOfDepth(t *testing.T) {
	for _, a := range arounds() {
		for depth := api.MaxDepth - 5; depth <= api.MaxDepth+2; depth++ {
			text, at := tooDeep(deeper + wrapped(depth, func() string { return a }) + done)
			_, wrong := askExpr(t, text)
			holdDepth(t, text, wrong, at)
		}
	}
}

func TestMixedDepth(t *testing.T) {
	r := rand.New(rand.NewSource(153))
	all, tops := arounds(), heads()
	fit := 0
	for range 1500 {
		inner := wrapped(api.MaxDepth-5+r.Intn(7), func() string { return all[r.Intn(len(all))] })
		text, at := tooDeep(deeper + inner + done)
		_, wrong := askExpr(t, text)
		holdDepth(t, text, wrong, at)
		text, at = tooDeep(strings.Replace(tops[r.Intn(len(tops))], hole, inner, 1))
		_, wrong = askProgram(t, text)
		holdDepth(t, text, wrong, at)
		if at < 0 {
			fit++
		}
	}
	if fit < 200 || fit > 1300 {
		t.Errorf("%d of 1500 texts aren't too deep", fit)
	}
}

// TestBesideDepth holds that what stands beside something deep isn't deeper by it.
func TestBesideDepth(t *testing.T) {
	open, shut := strings.Repeat("(", api.MaxDepth-1), strings.Repeat(")", api.MaxDepth-1)
	deep := open + "1" + shut
	minus := strings.Repeat("-", api.MaxDepth-1) + "1"
	for _, text := range []string{
		deep + " + " + deep + " * " + deep, deep + " = " + deep, deep + " && " + deep + " || " + deep, minus + " + " + minus, minus + " * " + deep,
		"x := " + deep, "raise " + minus, "assert not" + minus[1:], deep + " ==> 1", minus + "; 1",
		open + "()" + shut, "(" + open + ")" + shut, open + "f()" + shut, open + "!x + old y" + shut, open + "x := 1" + shut, open + "a = b || c && d * e" + shut,
		"1" + strings.Repeat(" + 1", 10000), "1" + strings.Repeat("*1", 30000), "a" + strings.Repeat(" && b", 5000) + strings.Repeat(" || c", 5000), strings.Repeat("f() + !x - ", 3000) + "1",
	} {
		if _, wrong := askExpr(t, text); wrong != nil {
			t.Errorf("P15.3: %.40q: %v", text, wrong)
		}
	}
}

// TestTooDeepOrNone holds that only what may begin at a place is too deep there.
func TestTooDeepOrNone(t *testing.T) {
	open := strings.Repeat("(", api.MaxDepth)
	minus := strings.Repeat("-", api.MaxDepth)
	imp := strings.Repeat("a==>", api.MaxDepth)
	for _, x := range []struct {
		ahead, token string
		err          api.Errno
	}{
		{open, "1", api.ErrDeep}, {open, "x", api.ErrDeep}, {open, "(", api.ErrDeep}, {open, "-", api.ErrDeep}, {open, "not", api.ErrDeep}, {open, "!", api.ErrDeep}, {open, "old", api.ErrDeep}, {open, "true", api.ErrDeep}, {open, "false", api.ErrDeep},
		{open, "if", api.ErrDeep}, {open, "let", api.ErrDeep}, {open, "try", api.ErrDeep}, {open, "raise", api.ErrDeep}, {open, "assert", api.ErrDeep}, {open, "x := 1", api.ErrDeep}, {open, "()", api.ErrDeep},
		{open, "", api.ErrParse}, {open, "+", api.ErrParse}, {open, "then", api.ErrParse}, {open, ";", api.ErrParse}, {open, "int", api.ErrParse}, {open, "{", api.ErrParse}, {open, ":=", api.ErrParse},
		{minus, "1", api.ErrDeep}, {minus, "x", api.ErrDeep}, {minus, "-", api.ErrDeep}, {minus, "not", api.ErrDeep}, {minus, "!", api.ErrDeep}, {minus, "old", api.ErrDeep}, {minus, "true", api.ErrDeep}, {minus, "false", api.ErrDeep}, {minus, "(", api.ErrDeep}, {minus, "f()", api.ErrDeep}, {minus, "x := 1", api.ErrDeep},
		{minus, "if", api.ErrParse}, {minus, "raise", api.ErrParse}, {minus, "let", api.ErrParse}, {minus, "", api.ErrParse}, {minus, ")", api.ErrParse}, {minus, "+", api.ErrParse},
		{imp, "1", api.ErrDeep}, {imp, "x", api.ErrDeep}, {imp, "-1", api.ErrDeep}, {imp, "()", api.ErrDeep}, {imp, "old x", api.ErrDeep},
		{imp, "try", api.ErrParse}, {imp, "assert", api.ErrParse}, {imp, "", api.ErrParse}, {imp, "==>", api.ErrParse}, {imp, "is", api.ErrParse},
	} {
		_, wrong := askExpr(t, x.ahead+x.token)
		if wrong == nil || *wrong != (api.PlaceError{At: len(x.ahead), Err: x.err}) {
			t.Errorf("P15.3: %q behind %.3s..: %v, wanted %v at %d", x.token, x.ahead, wrong, x.err, len(x.ahead))
		}
	}
}

// TestGreatTexts asks for texts of MaxText bytes.
func TestGreatTexts(t *testing.T) {
	for _, s := range []string{"(", ")", "-", "not ", "a ==> ", "1;", "f(", "f(1,", "if ", "let x = ", "try ", "x := ", "raise ", "!", "1+", "a&&", "ref x := 1;;", "let f", "let f (x : ", "let f : Pure int is 1;;", "()", "x ", ";;"} {
		text := strings.Repeat(s, api.MaxText/len(s))
		if _, wrong := askExpr(t, text); wrong == nil {
			t.Errorf("P15.1: an expression of %q alone", s)
		}
		if _, wrong := askProgram(t, text); wrong == nil {
			t.Errorf("P15.1: a program of %q alone", s)
		}
	}
}
