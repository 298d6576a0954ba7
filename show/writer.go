package show

import (
	"math"
	"strings"

	"avow/api"
)

const (
	// longest: the bytes that an answer may have; a text that would be longer is left off there.
	longest = math.MaxInt32
	// most: the expressions that one that was read can be made of, as each has a token of its own. Others are left off there, so that lists that contain themselves, or are shared, end.
	most = api.MaxText
)

type writer struct {
	out  strings.Builder
	full bool // something didn't fit any more
	left int  // so many expressions may still be written of the one that is being written
}

// put writes texts, one behind the other.
func (w *writer) put(texts ...string) {
	for _, s := range texts {
		w.full = w.full || len(s) > longest-w.out.Len()
		if !w.full {
			w.out.WriteString(s)
		}
	}
}

// done tells whether nothing more is to be written of the expression that is being written.
func (w *writer) done() bool { return w.full || w.left == 0 }

// weave writes texts, and between each two of them an operand.
func (w *writer) weave(operands []api.Expr, texts ...string) {
	for i, s := range texts {
		if i > 0 && i <= len(operands) {
			w.expr(&operands[i-1])
		}
		w.put(s)
	}
}

// whole writes an expression that stands in no other.
func (w *writer) whole(e *api.Expr) {
	w.left = most
	w.expr(e)
}

// part writes what a contract says, if it says so: texts, then it.
func (w *writer) part(l []api.Expr, texts ...string) {
	if len(l) > 0 {
		w.put(texts...)
		w.whole(&l[0])
	}
}
