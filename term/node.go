package term

import "avow/api"

// deepest: so many parts may be nested in one another; what lies deeper isn't gone into, so that every walk ends, of lists that contain themselves too.
const deepest = 1 << 16

// node: a term, seen as what its operator is. It points at memory of the caller's, and so is only read.
type node interface {
	term() *api.Term
}

type base struct{ *api.Term }

func (b base) term() *api.Term { return b.Term }

type numeral struct{ base }     // TNum
type truth struct{ base }       // TTrue, TFalse
type operation struct{ base }   // TNot to TIte
type application struct{ base } // TApp
type variable struct{ base }    // TVar
type universal struct{ base }   // TAll
type stranger struct{ base }    // an operator that is none

// view tells t's node.
func view(t *api.Term) node {
	b := base{t}
	switch {
	case t.Op == api.TNum:
		return numeral{b}
	case t.Op == api.TTrue || t.Op == api.TFalse:
		return truth{b}
	case t.Op >= api.TNot && t.Op <= api.TIte:
		return operation{b}
	case t.Op == api.TApp:
		return application{b}
	case t.Op == api.TVar:
		return variable{b}
	case t.Op == api.TAll:
		return universal{b}
	}
	return stranger{b}
}

// label: the operator, and the fields that it names, but for lists.
type label struct {
	op      int
	name, n string
	sort    int
}

// labelOf tells n's label.
func labelOf(n node) label {
	out := label{op: n.term().Op}
	if x, ok := n.(numeral); ok {
		out.n = x.N
	}
	if x, ok := n.(application); ok {
		out.name = x.Name
	}
	if x, ok := n.(variable); ok {
		out.name, out.sort = x.Name, x.Sort
	}
	return out
}

// bare tells a term with this label, and without lists.
func (a label) bare() api.Term { return api.Term{Op: a.op, Name: a.name, N: a.n, Sort: a.sort} }

// bodyOf tells the one operand of a TAll, and true; else nil, false.
func bodyOf(t *api.Term) (*api.Term, bool) {
	if x, ok := view(t).(universal); ok && len(x.L) == 1 {
		return &x.L[0], true
	}
	return nil, false
}

// Of a rule's operands: any number; sorts that are alike.
const (
	anyNumber = -1
	alike     = 0
)

// rule: of TNot to TIte: its word, how many operands it has, the sort of each of them, its own sort.
type rule struct {
	word  string
	count int
	each  int
	own   int
}

// rules: by operators. TIte's own sort, and those of its operands, are told apart from it.
var rules = [...]rule{
	api.TNot: {"not", 1, api.SortBool, api.SortBool},
	api.TAnd: {"and", anyNumber, api.SortBool, api.SortBool},
	api.TOr:  {"or", anyNumber, api.SortBool, api.SortBool},
	api.TImp: {"=>", 2, api.SortBool, api.SortBool},
	api.TIff: {"iff", 2, api.SortBool, api.SortBool},
	api.TEq:  {"=", 2, alike, api.SortBool},
	api.TLe:  {"<=", 2, api.SortInt, api.SortBool},
	api.TLt:  {"<", 2, api.SortInt, api.SortBool},
	api.TAdd: {"+", anyNumber, api.SortInt, api.SortInt},
	api.TSub: {"-", 2, api.SortInt, api.SortInt},
	api.TNeg: {"neg", 1, api.SortInt, api.SortInt},
	api.TMul: {"*", 2, api.SortInt, api.SortInt},
	api.TIte: {"ite", 3, alike, alike},
}

// listKey: where a list lies, and how long it is. Lists with one key are one list, so what is told of one holds of the other.
type listKey struct {
	first *api.Term
	n     int
}

// keyOf tells the key of a list that isn't empty.
func keyOf(l []api.Term) listKey { return listKey{first: &l[0], n: len(l)} }
