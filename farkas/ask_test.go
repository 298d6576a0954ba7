package farkas_test

import (
	"reflect"
	"slices"
	"strconv"
	"strings"
	"testing"

	"avow/api"
	"avow/farkas"
)

// longest: as great as a number of a row may be.
var longest = strings.Repeat("9", api.MaxDigits)

// row tells a row: K, then names and how many times each.
func row(k string, c ...string) api.Lin {
	out := api.Lin{K: k}
	for i := 0; i < len(c); i += 2 {
		out.C = append(out.C, api.Coef{Name: c[i], N: c[i+1]})
	}
	return out
}

// rows reads rows, one a line, as "3 x -2 y <= 5".
func rows(text string) []api.Lin {
	var out []api.Lin
	for line := range strings.Lines(text) {
		words := strings.Fields(line)
		at := len(words) - 2
		x := api.Lin{K: words[at+1]}
		for i := 0; i < at; i += 2 {
			x.C = append(x.C, api.Coef{Name: words[i+1], N: words[i]})
		}
		out = append(out, x)
	}
	return out
}

func sum(by ...string) api.Farkas { return api.Farkas{Sum: by} }

func split(x api.Lin, l ...api.Farkas) api.Farkas { return api.Farkas{Split: true, Row: x, L: l} }

// roomy tells a list in other memory, with room behind it that something stands in.
func roomy[T any](l []T, spare T) []T {
	out := append(make([]T, 0, len(l)+2), l...)
	for i := len(l); i < cap(out); i++ {
		out[:cap(out)][i] = spare
	}
	return out
}

func roomyRow(x api.Lin) api.Lin {
	return api.Lin{C: roomy(x.C, api.Coef{Name: "spare", N: "1"}), K: x.K}
}

func roomyRows(l []api.Lin) []api.Lin {
	out := slices.Clone(l)
	for i, x := range out {
		out[i] = roomyRow(x)
	}
	return roomy(out, api.Lin{K: "spare"})
}

func roomyFarkas(f api.Farkas) api.Farkas {
	out := api.Farkas{Sum: roomy(f.Sum, "spare"), Split: f.Split, Row: roomyRow(f.Row), L: slices.Clone(f.L)}
	for i, x := range out.L {
		out.L[i] = roomyFarkas(x)
	}
	out.L = roomy(out.L, api.Farkas{Sum: []string{"spare"}})
	return out
}

// draw writes all that stands in v, the room behind its lists included.
func draw(out *strings.Builder, v reflect.Value) {
	switch v.Kind() {
	case reflect.Slice:
		whole := v.Slice(0, v.Cap())
		out.WriteString("[" + strconv.Itoa(v.Len()))
		for i := range whole.Len() {
			draw(out, whole.Index(i))
		}
		out.WriteString("]")
	case reflect.Struct:
		for i := range v.NumField() {
			draw(out, v.Field(i))
		}
	case reflect.Bool:
		out.WriteString(strconv.FormatBool(v.Bool()))
	default:
		out.WriteString(strconv.Quote(v.String()))
	}
}

// pictures tells all that stands in several things.
func pictures(l ...any) string {
	var out strings.Builder
	for _, x := range l {
		draw(&out, reflect.ValueOf(x))
	}
	return out.String()
}

// alike tells whether two rows have the same in them, be an empty list nil or not.
func alike(a, b api.Lin) bool { return a.K == b.K && slices.Equal(a.C, b.C) }

// askRow tells what Row tells of x, and holds it against chapter 9's words.
func askRow(t *testing.T, x api.Lin) bool {
	t.Helper()
	given := roomyRow(x)
	before := pictures(given)
	out := farkas.Row(given)
	if out != isRow(x) {
		t.Errorf("P10.1: Row of %.500v: %v", x, out)
	}
	if farkas.Row(given) != out || pictures(given) != before {
		t.Errorf("rules 3 and 8: Row of %.500v", x)
	}
	return out
}

// askSum tells what Sum tells, and holds it against the promise's words.
func askSum(t *testing.T, l []api.Lin, by []string) (api.Lin, bool) {
	t.Helper()
	given, numbers := roomyRows(l), roomy(by, "spare")
	before := pictures(given, numbers)
	out, ok := farkas.Sum(given, numbers)
	want, told := plainSum(l, by)
	if ok != told || !alike(out, want) {
		t.Fatalf("P10.1: the sum of %.500v by %.500v: %.500v, %v, not %.500v", l, by, out, ok, want)
	}
	// An answer that shared memory with something would change it now, or be changed by the next one.
	told = ok
	kept := slices.Clone(out.C)
	for i := range out.C[:cap(out.C)] {
		out.C[:cap(out.C)][i] = api.Coef{Name: "changed", N: "7"}
	}
	again, ok := farkas.Sum(given, numbers)
	if ok != told || !alike(again, want) || pictures(given, numbers) != before {
		t.Fatalf("rules 3 and 8: the sum of %.500v by %.500v: again %.500v, %v", l, by, again, ok)
	}
	return api.Lin{C: kept, K: out.K}, ok
}

// askCheck tells what Check tells, and holds it against the promise's words.
func askCheck(t *testing.T, l []api.Lin, f api.Farkas) api.Errno {
	t.Helper()
	given, refutation := roomyRows(l), roomyFarkas(f)
	before := pictures(given, refutation)
	out := farkas.Check(given, refutation)
	if want := plainCheck(l, f); out != want {
		t.Fatalf("P10.2: %.500v by %.500v: %v, not %v", l, f, out, want)
	}
	if again := farkas.Check(given, refutation); again != out || pictures(given, refutation) != before {
		t.Fatalf("rules 3 and 8: %.500v by %.500v: again %v", l, f, again)
	}
	return out
}

// refutation: of rows, and what Check should tell.
type refutation struct {
	l    []api.Lin
	f    api.Farkas
	want api.Errno
}

func checkAll(t *testing.T, all []refutation) {
	t.Helper()
	for i, x := range all {
		if got := askCheck(t, x.l, x.f); got != x.want {
			t.Errorf("P10.2: %d: %.500v by %.500v: %v, not %v", i, x.l, x.f, got, x.want)
		}
	}
}
