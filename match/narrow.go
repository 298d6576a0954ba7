package match

import "slices"

// set: of classes.
type set map[int]struct{}

func (s set) add(class int) { s[class] = struct{}{} }

func (s set) has(class int) bool {
	_, ok := s[class]
	return ok
}

// reach: the classes that a part of a pattern can be of; so of its operands.
type reach struct {
	classes set
	parts   []reach
}

// takes tells whether the operands can be of these classes.
func (r reach) takes(parts []int) bool {
	for i, class := range parts {
		if !r.parts[i].classes.has(class) {
			return false
		}
	}
	return true
}

// narrow leaves out of what the variables may be that under which a pattern can't be there. It tells whether there is something left.
func (s *search) narrow() bool {
	for _, p := range s.patterns {
		r := s.reach(p)
		if len(common(r.classes, s.wanted)) == 0 {
			return false
		}
		s.lower(p, r, s.wanted)
	}
	return !slices.ContainsFunc(s.may, func(m set) bool { return len(m) == 0 })
}

// reach tells what a part of a pattern can be, from below.
func (s *search) reach(n node) reach {
	if x, ok := n.(hole); ok {
		return reach{classes: s.may[x.place]}
	}
	out := reach{classes: set{}}
	x, ok := n.(made)
	if !ok {
		return out
	}
	for _, p := range x.parts {
		out.parts = append(out.parts, s.reach(p))
	}
	for _, h := range s.table.heads[x.symbol] {
		if out.takes(h.parts) {
			out.classes.add(h.class)
		}
	}
	return out
}

// lower leaves to the variables in n, from above, that under which n can be one of wanted.
func (s *search) lower(n node, r reach, wanted set) {
	if x, ok := n.(hole); ok {
		s.may[x.place] = common(s.may[x.place], wanted)
		return
	}
	x, ok := n.(made)
	if !ok {
		return
	}
	parts := make([]set, len(x.parts))
	for i := range parts {
		parts[i] = set{}
	}
	for _, h := range s.table.heads[x.symbol] {
		if !wanted.has(h.class) || !r.takes(h.parts) {
			continue
		}
		for i, class := range h.parts {
			parts[i].add(class)
		}
	}
	for i, p := range x.parts {
		s.lower(p, r.parts[i], parts[i])
	}
}

// common tells what is in both.
func common(a, b set) set {
	out := set{}
	for class := range a {
		if b.has(class) {
			out.add(class)
		}
	}
	return out
}
