package model

import "avow/api"

// mostKept: so many values are kept at most; all others are reckoned each time that they are asked for.
const mostKept = 1 << 18

// asker asks the parts of one term.
type asker struct {
	objects []value
	bound   []int // by slots: an object's number
	room    int   // so many values more may be kept
}

// ask tells p's value with the objects that are bound, and whether there is one.
func (a *asker) ask(p *part) (value, bool) {
	if p.kept == nil {
		return a.reckon(p)
	}
	key := a.key(p.reads)
	if v, ok := p.kept[key]; ok {
		return v, true
	}
	v, ok := a.reckon(p)
	if ok && a.room > 0 {
		p.kept[key] = v
		a.room--
	}
	return v, ok
}

// key tells one text for the objects in these slots: there are few enough for two bytes each.
func (a *asker) key(slots []int) string {
	key := make([]byte, 0, 2*len(slots))
	for _, slot := range slots {
		key = append(key, byte(a.bound[slot]>>8), byte(a.bound[slot]))
	}
	return string(key)
}

func (a *asker) reckon(p *part) (value, bool) {
	switch p.op {
	case api.TNum, api.TTrue, api.TFalse:
		return p.constant, true
	case api.TVar:
		return a.objects[a.bound[p.slot]], true
	case api.TAll:
		return a.universal(p)
	}
	l := make([]value, len(p.operands))
	for i := range p.operands {
		v, ok := a.ask(&p.operands[i])
		if !ok {
			return nil, false
		}
		l[i] = v
	}
	if p.op == api.TApp {
		return p.table.of(l)
	}
	return operated(p.op, l), true
}

// universal asks p's body of all lists, past one of which it is false too: a later one may have an error.
func (a *asker) universal(p *part) (value, bool) {
	holds := true
	for list := range p.lists {
		a.bind(p, list)
		v, ok := a.ask(&p.operands[0])
		if !ok {
			return nil, false
		}
		holds = isTrue(v) && holds
	}
	return truth(holds), true
}

// bind puts the objects of a list into p's slots: its number's digits, the last one changing first.
func (a *asker) bind(p *part, list int) {
	for slot := p.slot + p.vars - 1; slot >= p.slot; slot-- {
		a.bound[slot] = list % len(a.objects)
		list /= len(a.objects)
	}
}
