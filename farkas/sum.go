package farkas

import (
	"maps"
	"slices"

	"avow/api"
	"avow/num"
)

// sum: rows together: by names how many times each is there, none of them 0 times; and K.
type sum struct {
	times map[string]num.Int
	most  num.Int
}

// sumOf tells the rows together, each so many times (missing ones 0 times), and true; false, if the numbers aren't such as may be.
func sumOf(rows []row, by []string) (sum, bool) {
	if len(by) > len(rows) {
		return sum{}, false
	}
	out := sum{times: map[string]num.Int{}}
	for i, text := range by {
		n, ok := number(text, 4*api.MaxDigits)
		if !ok || n.Sign() < 0 {
			return sum{}, false
		}
		if n.Sign() > 0 {
			out.add(rows[i], n)
		}
	}
	return out, true
}

// add adds a row, so many times.
func (s *sum) add(x row, times num.Int) {
	for _, p := range x.parts {
		n := s.times[p.name].Add(p.n.Mul(times))
		if n.Sign() == 0 {
			delete(s.times, p.name)
		} else {
			s.times[p.name] = n
		}
	}
	s.most = s.most.Add(x.most.Mul(times))
}

// isFalse tells whether s says that 0 is at most a number below 0.
func (s sum) isFalse() bool { return len(s.times) == 0 && s.most.Sign() < 0 }

// tell tells s as a row has it, in order of names.
func (s sum) tell() api.Lin {
	out := api.Lin{K: s.most.String()}
	for _, name := range slices.Sorted(maps.Keys(s.times)) {
		out.C = append(out.C, api.Coef{Name: name, N: s.times[name].String()})
	}
	return out
}
