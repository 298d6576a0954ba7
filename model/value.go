package model

import (
	"strconv"
	"strings"

	"avow/api"
	"avow/num"
)

// value: what a term is worth. Where one is reckoned from others, term.Check has told their sorts ahead, so that an assertion of its type must hold.
type value interface {
	sort() int
	text() string
	same(other value) bool // other is of the same sort
}

type number struct{ num.Int }
type truth bool
type object int

func (number) sort() int { return api.SortInt }
func (truth) sort() int  { return api.SortBool }
func (object) sort() int { return api.SortObj }

func (n number) text() string { return n.String() }
func (b truth) text() string  { return strconv.FormatBool(bool(b)) }
func (o object) text() string { return "#" + strconv.Itoa(int(o)) }

func (n number) same(other value) bool { return n.Cmp(other.(number).Int) == 0 }
func (b truth) same(other value) bool  { return b == other.(truth) }
func (o object) same(other value) bool { return o == other.(object) }

func isTrue(v value) bool { return bool(v.(truth)) }

// parse tells the value of this sort that has this text, where there are so many objects; nil, if there is none.
func parse(text string, sort, objects int) value {
	switch sort {
	case api.SortInt:
		if n, ok := num.Parse(text); ok {
			return number{n}
		}
	case api.SortBool:
		if text == "true" || text == "false" {
			return truth(text == "true")
		}
	case api.SortObj:
		return parseObject(text, objects)
	}
	return nil
}

func parseObject(text string, objects int) value {
	digits, marked := strings.CutPrefix(text, "#")
	n, right := num.Parse(digits)
	small, fits := n.Small()
	if !marked || !right || !fits || small < 0 || small >= int64(objects) {
		return nil
	}
	return object(small)
}

// operated tells the value of an operator (TNot to TIte) of these values.
func operated(op int, l []value) value {
	switch op {
	case api.TNot:
		return truth(!isTrue(l[0]))
	case api.TAnd:
		return truth(areAll(true, l))
	case api.TOr:
		return truth(!areAll(false, l))
	case api.TImp:
		return truth(!isTrue(l[0]) || isTrue(l[1]))
	case api.TIff, api.TEq:
		return truth(l[0].same(l[1]))
	case api.TLe:
		return truth(compared(l) <= 0)
	case api.TLt:
		return truth(compared(l) < 0)
	case api.TIte:
		if isTrue(l[0]) {
			return l[1]
		}
		return l[2]
	}
	return reckoned(op, l)
}

// reckoned tells the value of an operator that makes numbers of numbers.
func reckoned(op int, l []value) value {
	switch op {
	case api.TSub:
		return number{l[0].(number).Sub(l[1].(number).Int)}
	case api.TNeg:
		return number{l[0].(number).Neg()}
	case api.TMul:
		return number{l[0].(number).Mul(l[1].(number).Int)}
	}
	var sum num.Int
	for _, v := range l {
		sum = sum.Add(v.(number).Int)
	}
	return number{sum}
}

func areAll(which bool, l []value) bool {
	for _, v := range l {
		if isTrue(v) != which {
			return false
		}
	}
	return true
}

func compared(l []value) int { return l[0].(number).Cmp(l[1].(number).Int) }
