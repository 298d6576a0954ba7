package lia

import (
	"math/big"
	"reflect"
	"slices"
	"strconv"
	"strings"
	"testing"

	"avow/api"
	"avow/farkas"
)

const enough = 100000

// row tells a row: K, then names and how many times each.
func row(k string, c ...string) api.Lin {
	out := api.Lin{K: k}
	for i := 0; i < len(c); i += 2 {
		out.C = append(out.C, api.Coef{Name: c[i], N: c[i+1]})
	}
	return out
}

// rows reads rows, one a line, as "3 x -2 y <= 5".
func rows(text string) []api.Lin {
	var out []api.Lin
	for line := range strings.Lines(text) {
		words := strings.Fields(line)
		if len(words) < 2 {
			continue
		}
		at := len(words) - 2
		x := api.Lin{K: words[at+1]}
		for i := 0; i < at; i += 2 {
			x.C = append(x.C, api.Coef{Name: words[i+1], N: words[i]})
		}
		out = append(out, x)
	}
	return out
}

// copyOf tells rows in other memory, with the same room behind each list, filled with what nobody may touch.
func copyOf(l []api.Lin) []api.Lin {
	out := make([]api.Lin, len(l), len(l)+2)
	for i, x := range l {
		c := append(make([]api.Coef, 0, len(x.C)+2), x.C...)
		copy(c[len(c):cap(c)], []api.Coef{{Name: "spare", N: "1"}, {Name: "spare", N: "2"}})
		out[i] = api.Lin{C: c, K: x.K}
	}
	copy(out[len(out):cap(out)], []api.Lin{{K: "spare"}, {K: "spare"}})
	return out
}

// whole tells rows with the room behind each list as part of it.
func whole(l []api.Lin) []api.Lin {
	out := slices.Clone(l[:cap(l)])
	for i, x := range out {
		out[i].C = x.C[:cap(x.C)]
	}
	return out
}

// answer: all that Solve tells.
type answer struct {
	verdict int
	at      []api.Coef
	f       api.Farkas
	err     api.Errno
}

func solve(l []api.Lin, steps int) answer {
	verdict, at, f, e := Solve(l, steps)
	return answer{verdict, at, f, e}
}

// ask tells what Solve tells of rows, and holds it against the promises that hold always.
func ask(t testing.TB, l []api.Lin, steps int) answer {
	t.Helper()
	given, kept := copyOf(l), copyOf(l)
	a := solve(given, steps)
	if !reflect.DeepEqual(whole(given), whole(kept)) {
		t.Fatalf("rule 3: %v: what was handed in is changed: %v", l, whole(given))
	}
	if b := solve(given, steps); !reflect.DeepEqual(a, b) {
		t.Fatalf("P9.1: %v: %.300v, and then %.300v", l, a, b)
	}
	checkMemory(t, given, a)
	switch {
	case a.err != api.OK:
		t.Fatalf("P9.1: %v: %v", l, a.err)
	case a.verdict == api.Sat:
		checkSat(t, l, a)
	case a.verdict == api.Unsat:
		checkUnsat(t, l, a)
	case a.verdict != api.Unknown || len(a.at) > 0 || !isZero(a.f):
		t.Fatalf("P9.1: %v: %v", l, a)
	}
	return a
}

// checkSat holds the numbers of a Sat against the rows.
func checkSat(t testing.TB, l []api.Lin, a answer) {
	t.Helper()
	if !isZero(a.f) {
		t.Fatalf("P9.1: %v: Sat, and a refutation: %v", l, a.f)
	}
	var names, told []string
	for _, x := range l {
		for _, c := range x.C {
			names = append(names, c.Name)
		}
	}
	slices.Sort(names)
	at := map[string]*big.Int{}
	for _, c := range a.at {
		n, ok := number(c.N, 1<<20)
		if !ok {
			t.Fatalf("P9.1: %v: a number %q", l, c.N)
		}
		told = append(told, c.Name)
		at[c.Name] = n
	}
	if names = slices.Compact(names); !slices.Equal(names, told) {
		t.Fatalf("P9.1: %v: names %q", l, told)
	}
	if !allHold(l, at) {
		t.Fatalf("P9.1: %v: not all hold of %v", l, a.at)
	}
}

// checkUnsat holds the refutation of an Unsat against chapter 10's words, and against the layer that has them.
func checkUnsat(t testing.TB, l []api.Lin, a answer) {
	t.Helper()
	if len(a.at) > 0 {
		t.Fatalf("P9.1: %v: Unsat, and numbers: %v", l, a.at)
	}
	if e := farkas.Check(l, a.f); e != api.OK || !refutes(l, a.f, 200) {
		t.Fatalf("P9.1: %v: not refuted by %.1000v: %v", l, a.f, e)
	}
	if !isTidy(a.f) {
		t.Fatalf("rule 4: %v: a field that isn't named: %.1000v", l, a.f)
	}
}

func isZero(f api.Farkas) bool {
	return !f.Split && len(f.Sum) == 0 && len(f.L) == 0 && f.Row.K == "" && len(f.Row.C) == 0
}

// isTidy tells whether sums have nothing of splits, and splits nothing of sums.
func isTidy(f api.Farkas) bool {
	if !f.Split {
		return len(f.L) == 0 && f.Row.K == "" && len(f.Row.C) == 0
	}
	return len(f.Sum) == 0 && !slices.ContainsFunc(f.L, func(f api.Farkas) bool { return !isTidy(f) })
}

// room: the memory of a list.
type room struct{ from, to uintptr }

// roomsOf tells the memory of all lists in v.
func roomsOf(v reflect.Value) []room {
	var out []room
	switch v.Kind() {
	case reflect.Slice:
		if v.Cap() > 0 {
			out = append(out, room{v.Pointer(), v.Pointer() + uintptr(v.Cap())*v.Type().Elem().Size()})
		}
		for i := range v.Len() {
			out = append(out, roomsOf(v.Index(i))...)
		}
	case reflect.Struct:
		for i := range v.NumField() {
			out = append(out, roomsOf(v.Field(i))...)
		}
	}
	return out
}

// checkMemory holds the lists of an answer against one another, and against those that were handed in.
func checkMemory(t testing.TB, l []api.Lin, a answer) {
	t.Helper()
	all := roomsOf(reflect.ValueOf(l))
	all = append(all, roomsOf(reflect.ValueOf(a))...)
	slices.SortFunc(all, func(a, b room) int { return int(a.from) - int(b.from) })
	for i := 1; i < len(all); i++ {
		if all[i].from < all[i-1].to {
			t.Fatalf("rule 3: %v: lists of %.300v share memory", l, a)
		}
	}
}

// given tells the rows of a box: bounds ahead of the others, or (mixed) behind.
func (b box) given(mixed bool) []api.Lin {
	var bounds, others []api.Lin
	for i := range b.low {
		name := nameOf(i)
		bounds = append(bounds, row(strconv.Itoa(b.high[i]), name, "1"), row(strconv.Itoa(-b.low[i]), name, "-1"))
	}
	for _, x := range b.rows {
		y := api.Lin{K: strconv.Itoa(x.k)}
		for i, n := range x.n {
			for ; n > 99; n -= 99 {
				y.C = append(y.C, api.Coef{Name: nameOf(i), N: "99"})
			}
			for ; n < -99; n += 99 {
				y.C = append(y.C, api.Coef{Name: nameOf(i), N: "-99"})
			}
			y.C = append(y.C, api.Coef{Name: nameOf(i), N: strconv.Itoa(n)})
		}
		others = append(others, y)
	}
	if mixed {
		return append(others, bounds...)
	}
	return append(bounds, others...)
}

func nameOf(i int) string { return string(rune('u' + i)) }
