package model

import (
	"slices"

	"avow/api"
	"avow/num"
)

const (
	mostLists    = 1 << 16 // of objects, that are asked of one TAll
	worthKeeping = 8       // steps: to find a value that was kept takes about as long
)

// part: a right term, made ready to be asked once for each list of objects. A variable has a slot: the place of its object.
type part struct {
	op       int
	constant value  // TNum, TTrue, TFalse
	table    *table // TApp
	slot     int    // TVar; TAll: that of the first variable
	vars     int    // TAll: so many variables
	lists    int    // TAll: so many lists of objects
	operands []part
	reads    []int            // the slots in it that are bound outside of it, in order
	steps    int              // to reckon it; at most worthKeeping
	kept     map[string]value // by the objects in reads; nil, if nothing is to be kept
}

// planner: what is known around a term.
type planner struct {
	structure *structure
	slots     map[string][]int // by name: the innermost one last
	inUse     int
	most      int // so many slots were in use at one time
}

// plan tells t, which is right, made ready, and how many slots it needs; false, if it has a TAll that can't be asked.
func (s *structure) plan(t *api.Term) (*part, int, bool) {
	p := planner{structure: s, slots: map[string][]int{}}
	out, ok := p.part(t)
	if !ok {
		return nil, 0, false
	}
	out.markKept(0)
	return &out, p.most, true
}

func (p *planner) part(t *api.Term) (part, bool) {
	out := part{op: t.Op, steps: 1}
	switch t.Op {
	case api.TNum:
		n, _ := num.Parse(t.N)
		out.constant = number{n}
	case api.TTrue, api.TFalse:
		out.constant = truth(t.Op == api.TTrue)
	case api.TVar:
		slots := p.slots[t.Name]
		out.slot = slots[len(slots)-1]
		out.reads = []int{out.slot}
	case api.TAll:
		return p.universal(t)
	case api.TApp:
		out.table = p.structure.table(t.Name)
	}
	return out, p.addOperands(&out, t.L)
}

func (p *planner) addOperands(out *part, l []api.Term) bool {
	out.operands = make([]part, len(l))
	for i := range l {
		o, ok := p.part(&l[i])
		if !ok {
			return false
		}
		out.operands[i] = o
		out.steps = min(out.steps+o.steps, worthKeeping)
		out.reads = append(out.reads, o.reads...)
	}
	slices.Sort(out.reads)
	out.reads = slices.Compact(out.reads)
	return true
}

// universal tells a TAll made ready: its variables take the slots behind those in use.
func (p *planner) universal(t *api.Term) (part, bool) {
	lists, ok := p.countLists(t.Vars)
	if !ok {
		return part{}, false
	}
	out := part{op: t.Op, slot: p.inUse, vars: len(t.Vars), lists: lists}
	for _, v := range t.Vars {
		p.slots[v.Name] = append(p.slots[v.Name], p.inUse)
		p.inUse++
	}
	p.most = max(p.most, p.inUse)
	ok = p.addOperands(&out, t.L)
	p.inUse = out.slot
	for _, v := range t.Vars {
		p.slots[v.Name] = p.slots[v.Name][:len(p.slots[v.Name])-1]
	}
	own, _ := slices.BinarySearch(out.reads, out.slot)
	out.reads = out.reads[:own]
	out.steps = min(1+lists*out.steps, worthKeeping)
	return out, ok
}

// countLists tells how many lists of objects there are for vars, and true, if all of them can be asked.
func (p *planner) countLists(vars []api.Bound) (int, bool) {
	lists := 1
	for _, v := range vars {
		lists *= len(p.structure.objects)
		if v.Sort != api.SortObj || lists > mostLists {
			return 0, false
		}
	}
	return lists, true
}

// markKept has values kept of those parts of p that are asked several times of the same objects: p itself is asked once for each list of objects of so many variables.
func (p *part) markKept(variables int) {
	if len(p.reads) < variables && p.steps >= worthKeeping {
		p.kept = map[string]value{}
		variables = len(p.reads)
	}
	for i := range p.operands {
		p.operands[i].markKept(variables + p.vars)
	}
}
