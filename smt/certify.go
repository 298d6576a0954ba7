package smt

import (
	"math"
	"slices"

	"avow/api"
	"avow/cert"
)

// mostCopied: an answer of at most 2^31 - 1 bytes has no more terms, as each takes over 100.
const mostCopied = math.MaxInt32 / 100

// refuted tells Unsat, and the certificate, if package cert takes it.
func (s *solver) refuted(trace [][]int) api.Proof {
	used := needed(len(s.formulas), s.clauses, trace)
	var l []line
	for i, x := range s.lines {
		if used[i] {
			l = append(l, x)
		}
	}
	for i, clause := range trace {
		if used[len(s.lines)+i] {
			l = append(l, line{kind: api.LineRup, clause: clause})
		}
	}
	if s.tooGreat(l) {
		return api.Proof{}
	}
	out := s.certificate(l)
	if _, e := cert.Check(s.sig, s.given, out); e != api.OK {
		return api.Proof{}
	}
	return api.Proof{Verdict: api.Unsat, Cert: out}
}

// tooGreat tells whether lines would be more than an answer may be.
func (s *solver) tooGreat(l []line) bool {
	total := 0
	for _, x := range l {
		if x.kind != api.LineInput {
			for _, literal := range x.clause {
				total = capped(total, s.atom(literal).weight)
			}
		}
		for _, id := range x.terms {
			total = capped(total, s.bank.entries[id].weight)
		}
	}
	return total > mostCopied
}

// certificate tells lines in memory of their own.
func (s *solver) certificate(l []line) []api.Line {
	out := make([]api.Line, len(l))
	for i, x := range l {
		out[i].Kind = x.kind
		if x.kind == api.LineInput {
			out[i].I = x.input
			continue
		}
		out[i].F = x.f
		for _, literal := range x.clause {
			out[i].Clause = append(out[i].Clause, api.Lit{Neg: literal < 0, Atom: copied(s.atom(literal).term)})
		}
		for _, id := range x.terms {
			out[i].Terms = append(out[i].Terms, copied(s.bank.entries[id].term))
		}
	}
	return out
}

// copied tells t in memory of its own, with nothing in fields that say nothing.
func copied(t *api.Term) api.Term {
	out := api.Term{Op: t.Op, L: copiedList(t.L)}
	switch t.Op {
	case api.TNum:
		out.N = t.N
	case api.TApp:
		out.Name = t.Name
	case api.TVar:
		out.Name, out.Sort = t.Name, t.Sort
	case api.TAll:
		out.Vars, out.Pat = slices.Clone(t.Vars), copiedList(t.Pat)
	}
	return out
}

func copiedList(l []api.Term) []api.Term {
	if len(l) == 0 {
		return nil
	}
	out := make([]api.Term, len(l))
	for i := range l {
		out[i] = copied(&l[i])
	}
	return out
}
