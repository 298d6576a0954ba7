package parse_test

import (
	"reflect"
	"slices"
	"strings"
	"testing"

	"avow/api"
	"avow/lex"
	"avow/parse"
)

// rules: the chapter's, with [..] and {..} as rules of their own. Alternatives stand between slashes, one that is empty being nothing.
const rules = `
program: decls end
decls: / decl decls
decl: ref name := minus num ;; / let rec? name params : effect type requires? ensures? decreases? is expr ;;
minus: / -
rec?: / rec
params: / ( name : type ) params
requires?: / requires expr
ensures?: / ensures name . expr
decreases?: / decreases expr exprs
exprs: / , expr exprs
effect: Pure / State / Exn / All / Div
type: int / bool / unit / { name : int | expr }
alone: expr end
expr: if expr then expr else expr / let name = expr in expr / try expr with name -> expr / part / part ; expr
part: name := imp / raise imp / assert imp / imp
imp: or / or ==> imp
or: and ors
ors: / || and ors
and: cmp ands
ands: / && cmp ands
cmp: sum / sum compares sum
compares: = / <> / < / <= / > / >=
sum: term terms
terms: / + term terms / - term terms
term: unary unaries
unaries: / * unary unaries
unary: - unary / not unary / ! name / old name / primary
primary: num / true / false / ( ) / ( expr ) / name ( ) / name ( expr exprs ) / name
`

// grammar: of each rule its alternatives, as symbols.
type grammar map[string][][]string

func chapterGrammar() grammar {
	out := grammar{}
	for line := range strings.Lines(strings.TrimSpace(rules)) {
		rule, all, _ := strings.Cut(line, ": ")
		for _, one := range strings.Split(all, "/") {
			out[rule] = append(out[rule], strings.Fields(one))
		}
	}
	return out
}

// terminals tells all words and signs of the rules, sorted.
func (g grammar) terminals() []string {
	var out []string
	for _, all := range g {
		for _, one := range all {
			for _, s := range one {
				if _, rule := g[s]; !rule && !slices.Contains([]string{"name", "num", "end"}, s) {
					out = append(out, s)
				}
			}
		}
	}
	slices.Sort(out)
	return slices.Compact(out)
}

// symbolOf tells the terminal that a token is.
func symbolOf(k api.Token) string {
	switch k.Tok {
	case api.TokEnd:
		return "end"
	case api.TokName:
		return "name"
	case api.TokNum:
		return "num"
	}
	return k.Text
}

// item: of a rule an alternative of which so many symbols have been found, the first one at a place among the tokens.
type item struct {
	rule                     string
	alternative, found, from int
}

// follow: a recogniser that keeps all ways to read what it was told, and so knows what may come next without choosing.
type follow struct {
	grammar grammar
	sets    [][]item
}

func newFollow(g grammar, start string) *follow {
	f := &follow{grammar: g}
	var first []item
	for i := range g[start] {
		first = append(first, item{start, i, 0, 0})
	}
	f.close(first)
	return f
}

// wanted tells the symbol behind what an item has found; none, if it is whole.
func (f *follow) wanted(it item) string {
	one := f.grammar[it.rule][it.alternative]
	if it.found == len(one) {
		return ""
	}
	return one[it.found]
}

// close adds a set of items, and all that these bring about, until there are no more.
func (f *follow) close(set []item) {
	at := len(f.sets)
	has := map[item]bool{}
	f.sets = append(f.sets, nil)
	add := func(it item) {
		if !has[it] {
			has[it] = true
			f.sets[at] = append(f.sets[at], it)
		}
	}
	for _, it := range set {
		add(it)
	}
	for before := -1; before != len(f.sets[at]); {
		before = len(f.sets[at])
		for i := 0; i < len(f.sets[at]); i++ {
			f.widen(f.sets[at][i], at, add)
		}
	}
}

// widen adds what one item brings about: the rules that it wants, or, if it is whole, the items that wanted it.
func (f *follow) widen(it item, at int, add func(item)) {
	want := f.wanted(it)
	for i := range f.grammar[want] {
		add(item{want, i, 0, at})
	}
	if want != "" {
		return
	}
	for _, other := range f.sets[it.from] {
		if f.wanted(other) == it.rule {
			other.found++
			add(other)
		}
	}
}

// take goes on by a terminal, and tells whether it may stand there; if not, nothing has changed.
func (f *follow) take(symbol string) bool {
	var set []item
	for _, it := range f.sets[len(f.sets)-1] {
		if f.wanted(it) == symbol {
			it.found++
			set = append(set, it)
		}
	}
	if len(set) == 0 {
		return false
	}
	f.close(set)
	return true
}

// back takes the last terminal back.
func (f *follow) back() { f.sets = f.sets[:len(f.sets)-1] }

// firstWrong tells the place of the first token of a text that may not stand where it stands; -1, if there is none.
func firstWrong(t *testing.T, g grammar, start, text string) int {
	t.Helper()
	tokens, err := lex.Tokens(text)
	if err != nil {
		t.Fatalf("%.80q: %v", text, err)
	}
	f := newFollow(g, start)
	for _, k := range tokens {
		if !f.take(symbolOf(k)) {
			return k.At
		}
	}
	return -1
}

// askProgram tells what Program tells of a text, its error as the one that it must be, and holds both against DOC.md's rules 3, 4 and 8.
func askProgram(t *testing.T, text string) ([]api.Decl, *api.PlaceError) {
	t.Helper()
	out, err := parse.Program(text)
	again, errAgain := parse.Program(text)
	if !reflect.DeepEqual(out, again) || !reflect.DeepEqual(err, errAgain) {
		t.Errorf("rule 8: %.80q: %v, %v, then %v, %v", text, out, err, again, errAgain)
	}
	wrong := placeError(t, text, err)
	if wrong != nil && len(out) != 0 {
		t.Errorf("rule 4: %.80q: %v beside %v", text, out, wrong)
	}
	holdApart(t, text, out)
	return out, wrong
}

// askExpr is as askProgram, of Expr.
func askExpr(t *testing.T, text string) (api.Expr, *api.PlaceError) {
	t.Helper()
	out, err := parse.Expr(text)
	again, errAgain := parse.Expr(text)
	if !reflect.DeepEqual(out, again) || !reflect.DeepEqual(err, errAgain) {
		t.Errorf("rule 8: %.80q: %v, %v, then %v, %v", text, out, err, again, errAgain)
	}
	wrong := placeError(t, text, err)
	if wrong != nil && !reflect.DeepEqual(out, api.Expr{}) {
		t.Errorf("rule 4: %.80q: %v beside %v", text, out, wrong)
	}
	holdApart(t, text, []api.Decl{{Body: out}})
	return out, wrong
}

func placeError(t *testing.T, text string, err error) *api.PlaceError {
	t.Helper()
	if err == nil {
		return nil
	}
	wrong, ok := err.(*api.PlaceError)
	if !ok || wrong == nil {
		t.Fatalf("P15: %.80q: an error of another type: %T", text, err)
	}
	return wrong
}

// holdApart holds that no two lists of an answer share memory, their spare room included.
func holdApart(t *testing.T, text string, l []api.Decl) {
	t.Helper()
	exprs := map[*api.Expr]bool{}
	var list func(l []api.Expr)
	list = func(l []api.Expr) {
		all := l[:cap(l)]
		for i := range all {
			if exprs[&all[i]] {
				t.Errorf("rule 3: %.80q: lists share memory", text)
			}
			exprs[&all[i]] = true
		}
		for i := range l {
			list(l[i].L)
		}
	}
	params := map[*api.Param]bool{}
	for _, d := range l {
		all := d.Params[:cap(d.Params)]
		for i := range all {
			if params[&all[i]] {
				t.Errorf("rule 3: %.80q: parameters share memory", text)
			}
			params[&all[i]] = true
			list(all[i].T.R)
		}
		for _, one := range [][]api.Expr{d.T.R, d.Requires, d.Ensures, d.Measure, d.Body.L} {
			list(one)
		}
	}
}

// holdProgram holds what Program tells of a text within all limits against the chapter's rules.
func holdProgram(t *testing.T, g grammar, text string) {
	t.Helper()
	_, wrong := askProgram(t, text)
	holdPlace(t, text, wrong, firstWrong(t, g, "program", text))
}

// holdExpr is as holdProgram, of Expr.
func holdExpr(t *testing.T, g grammar, text string) {
	t.Helper()
	_, wrong := askExpr(t, text)
	holdPlace(t, text, wrong, firstWrong(t, g, "alone", text))
}

func holdPlace(t *testing.T, text string, wrong *api.PlaceError, at int) {
	t.Helper()
	switch {
	case at < 0 && wrong != nil:
		t.Errorf("P15.1: %q: %v", text, wrong)
	case at >= 0 && (wrong == nil || *wrong != api.PlaceError{At: at, Err: api.ErrParse}):
		t.Errorf("P15.1: %q: %v, wanted ErrParse at %d", text, wrong, at)
	}
}
