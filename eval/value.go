package eval

import (
	"strconv"

	"avow/api"
	"avow/num"
)

// value: a number, a truth, or ().
type value interface {
	kind() int
	text() string
}

type (
	number struct{ n num.Int }
	truth  bool
	unit   struct{}
)

func (v number) kind() int { return api.TyInt }
func (v truth) kind() int  { return api.TyBool }
func (v unit) kind() int   { return api.TyUnit }

func (v number) text() string { return v.n.String() }
func (v truth) text() string  { return strconv.FormatBool(bool(v)) }
func (v unit) text() string   { return "()" }

// valueOf tells the value of a kind that a text says.
func valueOf(kind int, text string) value {
	switch kind {
	case api.TyInt:
		return number{numberOf(text)}
	case api.TyBool:
		return truth(text == "true")
	}
	return unit{}
}

// numberOf tells the number that a text says; 0, if it isn't right.
func numberOf(text string) num.Int {
	n, _ := num.Parse(text)
	return n
}

// given tells the parameters' values; a text that is missing says as little as an empty one.
func given(params []api.Param, args []string) []value {
	var out []value
	for i := range params {
		text := ""
		if i < len(args) {
			text = args[i]
		}
		out = append(out, valueOf(params[i].T.Kind, text))
	}
	return out
}

// numbers tells so many cells' numbers.
func numbers(cells []string, many int) []num.Int {
	out := make([]num.Int, many)
	for i := range min(many, len(cells)) {
		out[i] = numberOf(cells[i])
	}
	return out
}

func texts(cells []num.Int) []string {
	var out []string
	for _, n := range cells {
		out = append(out, n.String())
	}
	return out
}
