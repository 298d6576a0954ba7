package model

import (
	"strings"

	"avow/api"
	"avow/term"
)

// mostObjects: of more objects only so many count.
const mostObjects = 1000

// structure: a model, made ready to be asked of many terms.
type structure struct {
	sig     []api.Fun
	funs    map[string]api.Fun
	given   map[string]api.Table
	tables  map[string]*table // of the functions that were asked for as yet
	objects []value
}

func newStructure(sig []api.Fun, m api.Model) *structure {
	s := &structure{sig: sig, funs: map[string]api.Fun{}, given: map[string]api.Table{}, tables: map[string]*table{}}
	for _, f := range sig {
		if _, ok := s.funs[f.Name]; !ok {
			s.funs[f.Name] = f
		}
	}
	for _, t := range m.Tables {
		if _, ok := s.given[t.Name]; !ok {
			s.given[t.Name] = t
		}
	}
	for i := range min(max(m.Objs, 0), mostObjects) {
		s.objects = append(s.objects, object(i))
	}
	return s
}

// value tells t's value, or the first error.
func (s *structure) value(t *api.Term) (value, api.Errno) {
	if _, e := term.Check(s.sig, *t); e != api.OK {
		return nil, e
	}
	p, slots, ok := s.plan(t)
	if !ok {
		return nil, api.ErrModelAll
	}
	a := asker{objects: s.objects, bound: make([]int, slots), room: mostKept}
	v, ok := a.ask(p)
	if !ok {
		return nil, api.ErrModelValue
	}
	return v, api.OK
}

// table: what a function is: by the keys of its rows, and of all others. Nil stands for what is no value of its sort.
type table struct {
	rows  map[string]value
	other value
}

// table tells the table of the function of this name. One without a table has one that tells no value at all.
func (s *structure) table(name string) *table {
	t := s.tables[name]
	if t == nil {
		t = s.newTable(name)
		s.tables[name] = t
	}
	return t
}

func (s *structure) newTable(name string) *table {
	given, ok := s.given[name]
	if !ok {
		return &table{}
	}
	f := s.funs[name]
	t := &table{rows: map[string]value{}, other: parse(given.Else, f.Out, len(s.objects))}
	for _, row := range given.Rows {
		if len(row.Args) != len(f.Args) {
			continue
		}
		key := keyOf(row.Args)
		if _, ok := t.rows[key]; !ok {
			t.rows[key] = parse(row.Out, f.Out, len(s.objects))
		}
	}
	return t
}

// of tells what the function is of these operands, and whether that is a value.
func (t *table) of(operands []value) (value, bool) {
	texts := make([]string, len(operands))
	for i, v := range operands {
		texts[i] = v.text()
	}
	out, ok := t.rows[keyOf(texts)]
	if !ok {
		out = t.other
	}
	return out, out != nil
}

// keyOf tells one text for several. A row's may have commas in them, but then the key has more commas than that of as many values, which have none.
func keyOf(texts []string) string { return strings.Join(texts, ",") }
