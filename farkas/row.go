package farkas

import (
	"strings"

	"avow/api"
	"avow/num"
)

// row: a row, read once: a refutation may take it very many times.
type row struct {
	parts []part
	most  num.Int
}

// part: so many times a name.
type part struct {
	name string
	n    num.Int
}

// readRow tells the row that l is, and true; false, if it is none.
func readRow(l api.Lin) (row, bool) {
	most, ok := number(l.K, api.MaxDigits)
	if !ok {
		return row{}, false
	}
	out := row{make([]part, len(l.C)), most}
	for i, c := range l.C {
		n, ok := number(c.N, api.MaxDigits)
		if !ok || c.Name == "" || len(c.Name) > api.MaxKey {
			return row{}, false
		}
		out.parts[i] = part{c.Name, n}
	}
	return out, true
}

// readRows tells the rows that l are, and true; false, if one of them is none.
func readRows(l []api.Lin) ([]row, bool) {
	out := make([]row, len(l))
	for i, x := range l {
		var ok bool
		if out[i], ok = readRow(x); !ok {
			return nil, false
		}
	}
	return out, true
}

// number tells the number of a right text of at most so many digits, and true; else 0, false. A text that is too long isn't even read.
func number(s string, digits int) (num.Int, bool) {
	if !isShort(s, digits) {
		return num.Int{}, false
	}
	return num.Parse(s)
}

// isShort tells whether the text of a number has at most so many digits.
func isShort(s string, digits int) bool { return len(strings.TrimPrefix(s, "-")) <= digits }

// opposite tells the row that holds of whole numbers where x doesn't, and true; false, if it is no row: -K - 1 may have a digit more than K.
func (x row) opposite() (row, bool) {
	out := row{make([]part, len(x.parts)), x.most.Neg().Sub(num.Of(1))}
	for i, p := range x.parts {
		out.parts[i] = part{p.name, p.n.Neg()}
	}
	return out, isShort(out.most.String(), api.MaxDigits)
}
