package rat

import (
	"math/big"
	"math/rand"
	"reflect"
	"strings"
	"testing"

	"avow/num"
)

func bigInt(s string) *big.Int {
	x, ok := new(big.Int).SetString(s, 10)
	if !ok {
		panic("no number: " + s)
	}
	return x
}

func number(x *big.Int) num.Int {
	a, ok := num.Parse(x.String())
	if !ok {
		panic("no number: " + x.String())
	}
	return a
}

// fraction tells x, made of its top and its below, both scaled.
func fraction(t *testing.T, x *big.Rat, scale *big.Int) Rat {
	t.Helper()
	a, ok := Of(number(new(big.Int).Mul(x.Num(), scale)), number(new(big.Int).Mul(x.Denom(), scale)))
	if !ok {
		t.Fatalf("P2.1: Of of %v is refused", x)
	}
	return a
}

// edges: fractions at which a sign or a number's form changes, whole ones among them.
func edges() []*big.Rat {
	tops := []string{"0", "1", "2", "3", "6", "7", "12", "9223372036854775807", "9223372036854775808", "1" + strings.Repeat("0", 30), strings.Repeat("9", 60)}
	belows := []string{"1", "2", "3", "4", "6", "7", "12", "9223372036854775807", "9223372036854775808", "1" + strings.Repeat("0", 30), strings.Repeat("9", 61)}
	var out []*big.Rat
	for _, top := range tops {
		for _, below := range belows {
			x := new(big.Rat).SetFrac(bigInt(top), bigInt(below))
			out = append(out, x, new(big.Rat).Neg(x))
		}
	}
	return out
}

// anyInt tells a number of up to so many bits, or of small primes, so that numbers below often share some.
func anyInt(r *rand.Rand, most int) *big.Int {
	x := big.NewInt(1)
	if r.Intn(2) == 0 {
		for range r.Intn(12) {
			x.Mul(x, big.NewInt([]int64{2, 2, 3, 3, 5, 7, 1000003}[r.Intn(7)]))
		}
		return x
	}
	return x.Add(x, new(big.Int).Rand(r, new(big.Int).Lsh(x, uint(1+r.Intn(most)))))
}

func anyRat(r *rand.Rand, most int) *big.Rat {
	x := new(big.Rat).SetFrac(anyInt(r, most), anyInt(r, most))
	switch r.Intn(10) {
	case 0:
		x.SetInt(x.Num())
	case 1:
		x.SetInt64(0)
	case 2, 3, 4, 5:
		x.Neg(x)
	}
	return x
}

// fractionPairs: each edge with each, and many others.
func fractionPairs() [][2]*big.Rat {
	var out [][2]*big.Rat
	list := edges()
	for _, x := range list {
		for _, y := range list {
			out = append(out, [2]*big.Rat{x, y})
		}
	}
	r := rand.New(rand.NewSource(1))
	for range 10000 {
		out = append(out, [2]*big.Rat{anyRat(r, 40), anyRat(r, 40)}, [2]*big.Rat{anyRat(r, 200), anyRat(r, 100)})
	}
	return out
}

// same fails unless a is x, by all that tells it, and in its one form.
func same(t *testing.T, what string, a Rat, x *big.Rat) {
	t.Helper()
	if a.Top().String() != x.Num().String() || a.Below().String() != x.Denom().String() {
		t.Fatalf("%s: %v by %v, wanted %v", what, a.Top(), a.Below(), x)
	}
	if a.String() != x.RatString() {
		t.Fatalf("%s: the text is %s, wanted %s", what, a.String(), x.RatString())
	}
	if a.IsWhole() != x.IsInt() || a.Cmp(a) != 0 {
		t.Fatalf("%s: %v isn't whole, or isn't itself", what, x)
	}
	want := Rat{top: number(x.Num())}
	if !x.IsInt() {
		want.below = number(x.Denom())
	}
	if !reflect.DeepEqual(a, want) {
		t.Fatalf("%s: %v isn't in its one form", what, x)
	}
}

func TestP2_1Of(t *testing.T) {
	r := rand.New(rand.NewSource(2))
	scales := []*big.Int{big.NewInt(1), big.NewInt(-1), big.NewInt(12), big.NewInt(-35), bigInt("9223372036854775808"), bigInt("-" + strings.Repeat("6", 50))}
	for _, x := range edges() {
		for _, scale := range scales {
			same(t, "P2.1: Of", fraction(t, x, scale), x)
		}
	}
	for range 5000 {
		x, scale := anyRat(r, 120), anyInt(r, 80)
		same(t, "P2.1: Of", fraction(t, x, scale), x)
		same(t, "P2.1: Of, signs changed", fraction(t, x, scale.Neg(scale)), x)
	}
}

func TestP2_1ByText(t *testing.T) {
	great := "1" + strings.Repeat("0", 400)
	for _, c := range [][5]string{
		{"6", "-4", "-3/2", "-3", "2"}, {"-6", "4", "-3/2", "-3", "2"}, {"-6", "-4", "3/2", "3", "2"}, {"6", "4", "3/2", "3", "2"},
		{"0", "5", "0", "0", "1"}, {"0", "-5", "0", "0", "1"}, {"0", "1", "0", "0", "1"},
		{"4", "2", "2", "2", "1"}, {"4", "-2", "-2", "-2", "1"}, {"-4", "-4", "1", "1", "1"}, {"5", "1", "5", "5", "1"}, {"5", "-1", "-5", "-5", "1"},
		{"1", "3", "1/3", "1", "3"}, {"-1", "3", "-1/3", "-1", "3"}, {"1", "-3", "-1/3", "-1", "3"},
		{"-9223372036854775808", "-1", "9223372036854775808", "9223372036854775808", "1"},
		{"1", "-9223372036854775808", "-1/9223372036854775808", "-1", "9223372036854775808"},
		{"-9223372036854775808", "-9223372036854775808", "1", "1", "1"},
		{"-9223372036854775808", "6", "-4611686018427387904/3", "-4611686018427387904", "3"},
		{great, "-" + great, "-1", "-1", "1"}, {"3", great, "3/" + great, "3", great}, {"-" + great + "0", great, "-10", "-10", "1"}, {great, "3", great + "/3", great, "3"},
	} {
		a, ok := Of(number(bigInt(c[0])), number(bigInt(c[1])))
		if !ok || a.String() != c[2] || a.Top().String() != c[3] || a.Below().String() != c[4] {
			t.Errorf("P2.1: Of(%s, %s): %v, %v (%v by %v), wanted %s", c[0], c[1], a, ok, a.Top(), a.Below(), c[2])
		}
	}
}

func TestP2_1OfNothingBelow(t *testing.T) {
	for _, s := range []string{"0", "1", "-1", "3", "-9223372036854775808", "9223372036854775808", strings.Repeat("9", 60)} {
		a, ok := Of(number(bigInt(s)), num.Of(0))
		if ok {
			t.Errorf("P2.1: Of(%s, 0) is taken", s)
		}
		same(t, "P2.1: Of(.., 0)", a, new(big.Rat))
		if b, ok := Of(number(bigInt(s)), num.Int{}); ok || b.String() != "0" {
			t.Errorf("P2.1: Of(%s, the zero Int): %v, %v", s, b, ok)
		}
	}
}

func TestP2_1Whole(t *testing.T) {
	for _, s := range []string{"0", "1", "-1", "2", "-4", "9223372036854775807", "-9223372036854775808", "9223372036854775808", "-" + strings.Repeat("7", 400)} {
		a := Whole(number(bigInt(s)))
		same(t, "P2.1: Whole", a, new(big.Rat).SetInt(bigInt(s)))
		if a.String() != s || a.Below().String() != "1" || !a.IsWhole() {
			t.Errorf("P2.1: Whole(%s): %v", s, a)
		}
	}
}

func TestP2_1ZeroRatIsZero(t *testing.T) {
	var zero Rat
	half, _ := Of(num.Of(1), num.Of(2))
	great, _ := Of(number(bigInt("-"+strings.Repeat("7", 40))), number(bigInt("1"+strings.Repeat("0", 40))))
	for _, c := range []struct {
		what string
		a    Rat
		want string
	}{
		{"String", zero, "0"}, {"Neg", zero.Neg(), "0"}, {"Whole", Whole(num.Int{}), "0"},
		{"Add", zero.Add(zero), "0"}, {"Add 1/2", zero.Add(half), "1/2"}, {"1/2 Add", half.Add(zero), "1/2"},
		{"Sub", zero.Sub(zero), "0"}, {"Sub 1/2", zero.Sub(half), "-1/2"}, {"1/2 Sub", half.Sub(zero), "1/2"},
		{"Mul", zero.Mul(zero), "0"}, {"Mul 1/2", zero.Mul(half), "0"}, {"1/2 Mul", half.Mul(zero), "0"},
		{"Add great", zero.Add(great), great.String()}, {"great Sub", great.Sub(zero), great.String()}, {"Mul great", zero.Mul(great), "0"},
	} {
		if c.a.String() != c.want {
			t.Errorf("P2.1: zero Rat: %s: %v, wanted %s", c.what, c.a, c.want)
		}
	}
	same(t, "P2.1: zero Rat", zero, new(big.Rat))
	if inv, ok := zero.Inv(); ok || inv.String() != "0" {
		t.Errorf("P2.2: Inv of the zero Rat: %v, %v", inv, ok)
	}
	if zero.Floor().String() != "0" || !zero.IsWhole() || zero.Cmp(zero) != 0 || zero.Cmp(half) != -1 || zero.Cmp(great) != 1 || half.Cmp(zero) != 1 || great.Cmp(zero) != -1 {
		t.Error("P2.2: the zero Rat isn't 0")
	}
}

func TestP2_2Arithmetic(t *testing.T) {
	one, z := big.NewInt(1), new(big.Rat)
	for _, p := range fractionPairs() {
		x, y := p[0], p[1]
		a, b := fraction(t, x, one), fraction(t, y, one)
		same(t, "P2.2: Add", a.Add(b), z.Add(x, y))
		same(t, "P2.2: Sub", a.Sub(b), z.Sub(x, y))
		same(t, "P2.2: Mul", a.Mul(b), z.Mul(x, y))
		same(t, "P2.2: Neg", a.Neg(), z.Neg(x))
		if a.Cmp(b) != x.Cmp(y) || b.Cmp(a) != y.Cmp(x) {
			t.Fatalf("P2.2: Cmp of %v, %v", x, y)
		}
		checkInv(t, a, x)
		checkFloor(t, a, x)
		// None of the calls may have changed its arguments.
		same(t, "P2.2: a, after", a, x)
		same(t, "P2.2: b, after", b, y)
	}
}

func checkInv(t *testing.T, a Rat, x *big.Rat) {
	t.Helper()
	inv, ok := a.Inv()
	if ok != (x.Sign() != 0) {
		t.Fatalf("P2.2: Inv of %v: %v", x, ok)
	}
	want := new(big.Rat)
	if ok {
		want.Inv(x)
	}
	same(t, "P2.2: Inv", inv, want)
}

func checkFloor(t *testing.T, a Rat, x *big.Rat) {
	t.Helper()
	floor := a.Floor()
	if want := new(big.Int).Div(x.Num(), x.Denom()); floor.String() != want.String() {
		t.Fatalf("P2.2: Floor of %v: %v, wanted %v", x, floor, want)
	}
	if Whole(floor).Cmp(a) > 0 || Whole(floor.Add(num.Of(1))).Cmp(a) <= 0 || (Whole(floor).Cmp(a) == 0) != a.IsWhole() {
		t.Fatalf("P2.2: Floor of %v isn't the greatest that isn't above it: %v", x, floor)
	}
}

func TestP2_2FloorByText(t *testing.T) {
	great := "1" + strings.Repeat("0", 50)
	for _, c := range [][3]string{
		{"6", "-4", "-2"}, {"6", "4", "1"}, {"-1", "2", "-1"}, {"1", "2", "0"}, {"-1", "1000", "-1"}, {"1", "1000", "0"}, {"-999", "1000", "-1"}, {"-1001", "1000", "-2"}, {"999", "1000", "0"},
		{"-6", "2", "-3"}, {"6", "2", "3"}, {"0", "3", "0"}, {"-7", "1", "-7"}, {"-7", "-2", "3"}, {"7", "-2", "-4"},
		{"-1", great, "-1"}, {"1", great, "0"}, {"-" + great, "-" + great, "1"}, {"-" + great, "3", "-" + strings.Repeat("3", 49) + "4"}, {great, "3", strings.Repeat("3", 50)},
		{"-9223372036854775808", "1", "-9223372036854775808"}, {"-18446744073709551617", "2", "-9223372036854775809"},
	} {
		a, _ := Of(number(bigInt(c[0])), number(bigInt(c[1])))
		if a.Floor().String() != c[2] {
			t.Errorf("P2.2: Floor of %v: %v, wanted %s", a, a.Floor(), c[2])
		}
	}
}

func TestP2_2Cmp(t *testing.T) {
	// In order; neighbours lie as near as their numbers below let them.
	texts := [][2]string{
		{"-" + strings.Repeat("9", 60), "1"}, {"-7", "2"}, {"-3", "1"}, {"-1", "2"}, {"-1", "3"}, {"-1", strings.Repeat("9", 60)},
		{"0", "1"}, {"1", strings.Repeat("9", 60)}, {"1", "3"}, {"333333333333333333334", "1000000000000000000000"}, {"1", "2"},
		{"9223372036854775806", "9223372036854775807"}, {"9223372036854775807", "9223372036854775808"}, {"1", "1"}, {"9223372036854775808", "9223372036854775807"},
		{"3", "1"}, {"7", "2"}, {strings.Repeat("9", 60), "2"}, {strings.Repeat("9", 60), "1"},
	}
	var list []Rat
	for _, c := range texts {
		a, _ := Of(number(bigInt(c[0])), number(bigInt(c[1])))
		list = append(list, a)
	}
	for i, a := range list {
		for j, b := range list {
			want := 0
			if i < j {
				want = -1
			} else if i > j {
				want = 1
			}
			if a.Cmp(b) != want {
				t.Errorf("P2.2: Cmp of %v and %v: %d, wanted %d", a, b, a.Cmp(b), want)
			}
		}
	}
}

func TestP2_2InvOfZero(t *testing.T) {
	third, _ := Of(num.Of(1), num.Of(3))
	fifth, _ := Of(num.Of(0), num.Of(-5))
	for _, a := range []Rat{{}, Whole(num.Of(0)), fifth, third.Sub(third), third.Mul(Rat{})} {
		inv, ok := a.Inv()
		if ok {
			t.Errorf("P2.2: Inv of %v is told", a)
		}
		same(t, "P2.2: Inv of 0", inv, new(big.Rat))
	}
}

func TestP2_2ManyDigits(t *testing.T) {
	r := rand.New(rand.NewSource(3))
	for range 30 {
		x, y := anyRat(r, 8000), anyRat(r, 6000)
		a, b := fraction(t, x, big.NewInt(6)), fraction(t, y, big.NewInt(-10))
		same(t, "P2.2: Add", a.Add(b), new(big.Rat).Add(x, y))
		same(t, "P2.2: Sub", a.Sub(b), new(big.Rat).Sub(x, y))
		same(t, "P2.2: Mul", a.Mul(b), new(big.Rat).Mul(x, y))
		checkInv(t, a, x)
		checkFloor(t, a, x)
	}
}

func TestP2_3Field(t *testing.T) {
	r := rand.New(rand.NewSource(4))
	list := anyList(t, r)
	zero, one := Rat{}, Whole(num.Of(1))
	is := func(law string, a, b Rat) {
		t.Helper()
		if a.Cmp(b) != 0 || a.String() != b.String() || !reflect.DeepEqual(a, b) {
			t.Fatalf("P2.3: %s: %v and %v", law, a, b)
		}
	}
	for range 20000 {
		a, b, c := list[r.Intn(len(list))], list[r.Intn(len(list))], list[r.Intn(len(list))]
		is("a + b = b + a", a.Add(b), b.Add(a))
		is("(a + b) + c = a + (b + c)", a.Add(b).Add(c), a.Add(b.Add(c)))
		is("ab = ba", a.Mul(b), b.Mul(a))
		is("(ab)c = a(bc)", a.Mul(b).Mul(c), a.Mul(b.Mul(c)))
		is("a(b + c) = ab + ac", a.Mul(b.Add(c)), a.Mul(b).Add(a.Mul(c)))
		is("a + 0 = a", a.Add(zero), a)
		is("a1 = a", a.Mul(one), a)
		is("a0 = 0", a.Mul(zero), zero)
		is("a + -a = 0", a.Add(a.Neg()), zero)
		is("a - b = a + -b", a.Sub(b), a.Add(b.Neg()))
		is("--a = a", a.Neg().Neg(), a)
		if inv, ok := a.Inv(); ok {
			again, _ := inv.Inv()
			is("a by a = 1", a.Mul(inv), one)
			is("1 by (1 by a) = a", again, a)
		}
		whole, _ := Of(a.Top(), a.Below())
		is("a = Top by Below", whole, a)
	}
	if one.Cmp(zero) == 0 {
		t.Error("P2.3: 1 is 0")
	}
}

func TestP2_3Order(t *testing.T) {
	r := rand.New(rand.NewSource(5))
	list := anyList(t, r)
	zero := Rat{}
	for range 20000 {
		a, b, c := list[r.Intn(len(list))], list[r.Intn(len(list))], list[r.Intn(len(list))]
		order := a.Cmp(b)
		if b.Cmp(a) != -order || (order == 0) != (a.String() == b.String()) || a.Sub(b).Cmp(zero) != order {
			t.Fatalf("P2.3: order of %v, %v", a, b)
		}
		if order <= 0 && b.Cmp(c) <= 0 && a.Cmp(c) > 0 {
			t.Fatalf("P2.3: %v, %v, %v aren't in order", a, b, c)
		}
		if a.Add(c).Cmp(b.Add(c)) != order || a.Mul(c).Cmp(b.Mul(c)) != order*c.Cmp(zero) {
			t.Fatalf("P2.3: sums and products with %v aren't in the order of %v, %v", c, a, b)
		}
		if a.Mul(a).Cmp(zero) < 0 || a.Neg().Cmp(zero) != zero.Cmp(a) {
			t.Fatalf("P2.3: the square or the opposite of %v", a)
		}
	}
}

func anyList(t *testing.T, r *rand.Rand) []Rat {
	var list []Rat
	for _, x := range edges() {
		list = append(list, fraction(t, x, big.NewInt(1)))
	}
	for range 300 {
		list = append(list, fraction(t, anyRat(r, 100), big.NewInt(1)), fraction(t, anyRat(r, 12), big.NewInt(-2)))
	}
	return list
}

// TestMethodsStandAlone: a method taken off its fraction works on the fraction as it was then.
func TestMethodsStandAlone(t *testing.T) {
	a, _ := Of(num.Of(1), num.Of(2))
	b, _ := Of(num.Of(1), num.Of(3))
	add, sub, mul, compare, text := a.Add, a.Sub, a.Mul, a.Cmp, a.String
	a = Whole(num.Of(9))
	if add(b).String() != "5/6" || sub(b).String() != "1/6" || mul(b).String() != "1/6" || compare(b) != 1 || text() != "1/2" {
		t.Errorf("P2.2: 1/2 and 1/3: %v, %v, %v, %d, %s", add(b), sub(b), mul(b), compare(b), text())
	}
}

// memory tells where the lists within x lie.
func memory(x any) map[uintptr]bool {
	out := map[uintptr]bool{}
	var walk func(v reflect.Value)
	walk = func(v reflect.Value) {
		switch v.Kind() {
		case reflect.Struct:
			for i := range v.NumField() {
				walk(v.Field(i))
			}
		case reflect.Slice:
			if v.Cap() > 0 {
				out[v.Pointer()] = true
			}
		}
	}
	walk(reflect.ValueOf(x))
	return out
}

// TestAnswersShareNothing: an answer's memory is its own.
func TestAnswersShareNothing(t *testing.T) {
	top, below := number(bigInt("-"+strings.Repeat("7", 40))), number(bigInt("1"+strings.Repeat("0", 40)))
	a, _ := Of(top, below)
	whole := Whole(top)
	inv, _ := a.Inv()
	invWhole, _ := whole.Inv()
	lowest, _ := Of(below, num.Of(1))
	invBack, _ := a.Neg().Inv()
	args := []any{top, below, a, whole, Whole(num.Of(1))}
	answers := []any{
		lowest, Whole(top), a.Top(), a.Below(), a.Neg(), inv, invBack, invWhole, whole.Top(), whole.Neg(),
		a.Add(Rat{}), a.Sub(Rat{}), Rat{}.Add(a), Rat{}.Sub(a), a.Mul(Whole(num.Of(1))), Whole(num.Of(1)).Mul(a), whole.Add(Rat{}), whole.Mul(Whole(num.Of(1))), whole.Floor(), a.Floor(),
	}
	for i, answer := range answers {
		for place := range memory(answer) {
			for _, arg := range args {
				if memory(arg)[place] {
					t.Errorf("answer %d shares memory with an argument", i)
				}
			}
		}
	}
	if len(memory(a)) != 2 || len(memory(inv)) != 2 || len(memory(a.Neg())) != 2 {
		t.Error("a fraction's two numbers share memory")
	}
}
