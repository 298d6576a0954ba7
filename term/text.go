package term

import (
	"math"
	"strings"

	"avow/api"
)

// longest: the bytes that an answer may have; a text that would be longer is left off there.
const longest = math.MaxInt32

// unknownWord: of operators, and sorts, that are none.
const unknownWord = "?"

type writer struct {
	out     strings.Builder
	tooDeep bool
}

func (w *writer) term(t *api.Term, under int) {
	n := view(t)
	if x, ok := n.(numeral); ok {
		w.number(x.N)
		return
	}
	if x, ok := n.(universal); ok {
		w.all(x, under)
		return
	}
	word, alone := wordOf(n)
	if alone {
		w.out.WriteString(word)
		return
	}
	w.out.WriteString("(" + word)
	if len(t.L) > 0 {
		w.out.WriteByte(' ')
	}
	w.list(t.L, under+1)
	w.out.WriteByte(')')
}

// wordOf tells n's word, and whether it stands alone, without brackets and operands.
func wordOf(n node) (string, bool) {
	if x, ok := n.(truth); ok {
		if x.Op == api.TTrue {
			return "true", true
		}
		return "false", true
	}
	if x, ok := n.(variable); ok {
		return x.Name, true
	}
	if x, ok := n.(application); ok {
		return x.Name, len(x.L) == 0
	}
	if x, ok := n.(operation); ok {
		return rules[x.Op].word, false
	}
	return unknownWord, false
}

func (w *writer) number(n string) {
	digits, below := strings.CutPrefix(n, "-")
	if below {
		w.out.WriteString("(- " + digits + ")")
		return
	}
	w.out.WriteString(n)
}

func (w *writer) all(x universal, under int) {
	w.out.WriteString("(forall (")
	for i, v := range x.Vars {
		if i > 0 {
			w.out.WriteByte(' ')
		}
		w.out.WriteString(v.Name + " " + sortWord(v.Sort))
	}
	w.out.WriteString(") (pattern ")
	w.list(x.Pat, under+1)
	w.out.WriteString(") ")
	w.list(x.L, under+1)
	w.out.WriteByte(')')
}

// list writes terms, a space between.
func (w *writer) list(l []api.Term, under int) {
	w.tooDeep = w.tooDeep || under > deepest
	for i := range l {
		if w.tooDeep || w.out.Len() > longest {
			return
		}
		if i > 0 {
			w.out.WriteByte(' ')
		}
		w.term(&l[i], under)
	}
}

func sortWord(sort int) string {
	switch sort {
	case api.SortInt:
		return "int"
	case api.SortBool:
		return "bool"
	case api.SortObj:
		return "obj"
	}
	return unknownWord
}
