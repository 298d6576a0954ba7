package smt

import (
	"strings"

	"avow/api"
	"avow/model"
)

// confirmed tells Sat, and the model of the candidate's shape, if package model confirms it.
func (s *solver) confirmed(c *candidate) api.Proof {
	if c.unsure {
		return api.Proof{}
	}
	m := s.model(c.shape)
	if holds, e := model.Holds(s.sig, m, s.given); e != api.OK || !holds {
		return api.Proof{}
	}
	return api.Proof{Verdict: api.Sat, M: m}
}

// model tells a table for each function that stands in what is given.
func (s *solver) model(of *shape) api.Model {
	out := api.Model{Objs: max(1, of.objects)}
	tables := map[string]int{} // by names: their places
	for i, f := range s.sig {
		tables[f.Name] = i
		out.Tables = append(out.Tables, api.Table{Name: f.Name, Else: plainValue(f.Out)})
	}
	seen := map[string]struct{}{}
	for i, id := range of.ids {
		x := &s.bank.entries[id]
		if x.op != api.TApp {
			continue
		}
		t := &out.Tables[tables[x.name]]
		if len(x.parts) == 0 {
			t.Else = of.value[i]
			continue
		}
		args := of.values(x.parts)
		key := x.name + " " + strings.Join(args, " ")
		if _, ok := seen[key]; !ok {
			seen[key] = struct{}{}
			t.Rows = append(t.Rows, api.Row{Args: args, Out: of.value[i]})
		}
	}
	return out
}

// plainValue tells a value of a sort.
func plainValue(sort int) string {
	switch sort {
	case api.SortInt:
		return "0"
	case api.SortBool:
		return "false"
	}
	return "#0"
}
