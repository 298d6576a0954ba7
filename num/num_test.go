package num

import (
	"math"
	"math/big"
	"math/rand"
	"strings"
	"testing"
)

// edges: numbers at which a form, a digit or a sign changes.
func edges() []*big.Int {
	texts := []string{
		"0", "1", "2", "3", "7", "10", "999999999", "1000000000", "1000000001",
		"2147483647", "2147483648", "4294967295", "4294967296",
		"3037000499", "3037000500", "999999999999999999", "1000000000000000000",
		"4611686018427387904", "9223372036854775807", "9223372036854775808", "9223372036854775809",
		"9999999999999999999", "10000000000000000000", "18446744073709551615", "18446744073709551616",
		"999999999999999999999999999", "1000000000000000000000000000",
		"85070591730234615865843651857942052864",
		strings.Repeat("9", 81), "1" + strings.Repeat("0", 81), "5" + strings.Repeat("0", 80),
	}
	var out []*big.Int
	for _, s := range texts {
		x, _ := new(big.Int).SetString(s, 10)
		out = append(out, x, new(big.Int).Neg(x))
	}
	return out
}

// anyBig tells a number of up to so many digits of the base, of which many are at the edges of a digit.
func anyBig(r *rand.Rand, most int) *big.Int {
	x := new(big.Int)
	for range r.Intn(most + 1) {
		digit := r.Int63n(base)
		switch r.Intn(8) {
		case 0:
			digit = 0
		case 1:
			digit = base - 1
		case 2:
			digit = base / 2
		case 3:
			digit = 1
		}
		x.Mul(x, big.NewInt(base)).Add(x, big.NewInt(digit))
	}
	if r.Intn(2) == 0 {
		x.Neg(x)
	}
	return x
}

// numberPairs: each edge with each, and many others.
func numberPairs() [][2]*big.Int {
	var out [][2]*big.Int
	for _, x := range edges() {
		for _, y := range edges() {
			out = append(out, [2]*big.Int{x, y})
		}
	}
	r := rand.New(rand.NewSource(1))
	for range 20000 {
		out = append(out, [2]*big.Int{anyBig(r, 8), anyBig(r, 5)})
	}
	for range 20000 {
		x := new(big.Int).SetUint64(r.Uint64() >> r.Intn(64))
		y := new(big.Int).SetUint64(r.Uint64() >> r.Intn(64))
		out = append(out, [2]*big.Int{x, y.Neg(y)}, [2]*big.Int{y, x})
	}
	return out
}

func number(t *testing.T, x *big.Int) Int {
	t.Helper()
	a, ok := Parse(x.String())
	if !ok {
		t.Fatalf("P1.1: Parse(%v) is refused", x)
	}
	return a
}

// same fails unless a is x, and in its one form.
func same(t *testing.T, what string, a Int, x *big.Int) {
	t.Helper()
	if a.String() != x.String() {
		t.Fatalf("%s: %v, wanted %v", what, a, x)
	}
	switch {
	case x.IsInt64():
		if a.mag != nil || a.n != x.Int64() {
			t.Fatalf("%s: %v isn't in its small form", what, x)
		}
	case int(a.n) != x.Sign() || len(a.mag) == 0 || a.mag[len(a.mag)-1] == 0:
		t.Fatalf("%s: %v isn't in its great form", what, x)
	}
	for _, digit := range a.mag {
		if digit >= base {
			t.Fatalf("%s: %v has a digit past the base", what, x)
		}
	}
}

func TestP1_1ParseAndString(t *testing.T) {
	for _, p := range numberPairs() {
		same(t, "P1.1: Parse", number(t, p[0]), p[0])
	}
	for n := range 60 {
		for _, s := range []string{"1" + strings.Repeat("0", n), "-1" + strings.Repeat("0", n), "9" + strings.Repeat("9", n), "-12" + strings.Repeat("0", n) + "34"} {
			if a, ok := Parse(s); !ok || a.String() != s {
				t.Errorf("P1.1: %s is told as %v, %v", s, a, ok)
			}
		}
	}
}

func TestP1_1ManyDigits(t *testing.T) {
	for _, s := range []string{strings.Repeat("1234567890", 10000), "-" + strings.Repeat("9", 70001), "1" + strings.Repeat("0", 1<<17)} {
		if a, ok := Parse(s); !ok || a.String() != s {
			t.Errorf("P1.1: a text of %d bytes isn't told as it is", len(s))
		}
	}
}

func TestP1_1WrongTexts(t *testing.T) {
	wrong := []string{
		"", "-", "--", "--1", "-0", "00", "-00", "01", "-01", "000000000000000000000", "0123456789012345678901",
		"+", "+0", "+1", "+-1", "-+1", "1-", "1-2", "0-", " ", " 1", "1 ", "- 1", "1 2", "\t1", "1\n", "\n", "\x00", "1\x00", "\x001",
		"a", "1a", "a1", "0x1", "0b1", "0o1", "1_0", "_1", "1_", "1e3", "1E3", "1.0", "1.", ".1", "1,000", "1/2", "/", ":", "1:", "1/", "NaN", "Inf",
		"\xff", "1\xff", "\xff1", "1\xc2", "\xd9\xa1", "1\u0661", "\uff11", "1\uff11", "\u2212" + "1", "\u00b2", "\ufffd", "\U0001d7d9", "\ufeff1",
		"12345678901234567890x", "x12345678901234567890", "1234567890\xff1234567890", "-12345678901234567890-", "0" + strings.Repeat("0", 5000), strings.Repeat("1", 5000) + "a",
	}
	for _, s := range wrong {
		a, ok := Parse(s)
		if ok {
			t.Errorf("P1.1: %q is taken", s)
		}
		same(t, "P1.1: beside false", a, new(big.Int))
	}
}

func TestP1_1EveryByte(t *testing.T) {
	for b := range 256 {
		digit := b >= '0' && b <= '9'
		c := string([]byte{byte(b)})
		for s, right := range map[string]bool{
			c:                         digit,
			"1" + c:                   digit,
			c + "1":                   digit && b != '0' || b == '-',
			"-" + c:                   digit && b != '0',
			"1234567890123456789" + c: digit,
		} {
			if a, ok := Parse(s); ok != right || ok && a.String() != s || !ok && a.Sign() != 0 {
				t.Errorf("P1.1: Parse(%q): %v, %v", s, a, ok)
			}
		}
	}
}

func TestP1_1Of(t *testing.T) {
	r := rand.New(rand.NewSource(2))
	ns := []int64{0, 1, -1, 9, 10, -10, base - 1, base, -base, base + 1, math.MaxInt64, math.MaxInt64 - 1, math.MinInt64, math.MinInt64 + 1, math.MaxInt32, math.MinInt32}
	for range 1000 {
		ns = append(ns, int64(r.Uint64())>>r.Intn(64))
	}
	for _, n := range ns {
		same(t, "P1.1: Of", Of(n), big.NewInt(n))
	}
}

func TestP1_1ZeroIntIsZero(t *testing.T) {
	var zero Int
	five, great := Of(5), number(t, new(big.Int).Lsh(big.NewInt(1), 100))
	for _, c := range []struct {
		what string
		a    Int
		want string
	}{
		{"String", zero, "0"}, {"Neg", zero.Neg(), "0"}, {"Of(0)", Of(0), "0"},
		{"Add 5", zero.Add(five), "5"}, {"5 Add", five.Add(zero), "5"}, {"Sub 5", zero.Sub(five), "-5"},
		{"Mul", zero.Mul(great), "0"}, {"great Mul", great.Neg().Mul(zero), "0"},
		{"Gcd", zero.Gcd(zero), "0"}, {"Gcd 5", zero.Gcd(five.Neg()), "5"},
		{"Add great", zero.Add(great), great.String()}, {"Gcd great", great.Neg().Gcd(zero), great.String()},
		{"great less itself", great.Sub(great), "0"},
	} {
		if c.a.String() != c.want {
			t.Errorf("P1: zero Int: %s: %v, wanted %s", c.what, c.a, c.want)
		}
	}
	if n, ok := zero.Small(); n != 0 || !ok || zero.Sign() != 0 || zero.Cmp(Of(0)) != 0 || zero.Cmp(five) != -1 || zero.Cmp(great.Neg()) != 1 {
		t.Error("P1: the zero Int isn't 0")
	}
}

func TestP1_2Arithmetic(t *testing.T) {
	z := new(big.Int)
	for _, p := range numberPairs() {
		x, y := p[0], p[1]
		a, b := number(t, x), number(t, y)
		same(t, "P1.2: Add", a.Add(b), z.Add(x, y))
		same(t, "P1.2: Sub", a.Sub(b), z.Sub(x, y))
		same(t, "P1.2: Neg", a.Neg(), z.Neg(x))
		same(t, "P1.2: Mul", a.Mul(b), z.Mul(x, y))
		same(t, "P1.2: Gcd", a.Gcd(b), z.GCD(nil, nil, new(big.Int).Abs(x), new(big.Int).Abs(y)))
		if a.Cmp(b) != x.Cmp(y) || b.Cmp(a) != y.Cmp(x) || a.Cmp(a) != 0 {
			t.Fatalf("P1.2: Cmp of %v, %v", x, y)
		}
		if a.Sign() != x.Sign() || a.Sign() != a.Cmp(Of(0)) {
			t.Fatalf("P1.2: Sign of %v", x)
		}
		// None of the calls may have changed its arguments.
		same(t, "P1.2: a, after", a, x)
		same(t, "P1.2: b, after", b, y)
	}
}

func TestP1_2Quo(t *testing.T) {
	for _, p := range numberPairs() {
		x, y := p[0], p[1]
		a, b := number(t, x), number(t, y)
		checkQuo(t, a, b, x, y)
		// Quotients that come out even, and just not.
		xy := new(big.Int).Mul(x, y)
		for _, d := range []int64{-1, 0, 1} {
			v := new(big.Int).Add(xy, big.NewInt(d))
			checkQuo(t, number(t, v), b, v, y)
		}
	}
}

func checkQuo(t *testing.T, a, b Int, x, y *big.Int) {
	t.Helper()
	quotient, left := a.Quo(b)
	if y.Sign() == 0 {
		same(t, "P1.2: Quo by 0", quotient, new(big.Int))
		same(t, "P1.2: Quo by 0, left", left, x)
		return
	}
	q, m := new(big.Int).DivMod(x, y, new(big.Int))
	same(t, "P1.2: Quo of "+x.String()+" by "+y.String(), quotient, q)
	same(t, "P1.2: Quo of "+x.String()+" by "+y.String()+", left", left, m)
	if b.Mul(quotient).Add(left).Cmp(a) != 0 || left.Sign() < 0 || left.Cmp(b) >= 0 && left.Cmp(b.Neg()) >= 0 {
		t.Fatalf("P1.2: Quo of %v by %v: %v, %v", a, b, quotient, left)
	}
}

func TestP1_2QuoByText(t *testing.T) {
	for _, c := range [][4]string{
		{"-7", "2", "-4", "1"}, {"-7", "-2", "4", "1"}, {"7", "2", "3", "1"}, {"7", "-2", "-3", "1"},
		{"-6", "2", "-3", "0"}, {"-6", "-2", "3", "0"}, {"-1", "5", "-1", "4"}, {"1", "-5", "0", "1"},
		{"0", "5", "0", "0"}, {"0", "-5", "0", "0"}, {"0", "0", "0", "0"}, {"7", "0", "0", "7"}, {"-7", "0", "0", "-7"},
		{"-9223372036854775808", "-1", "9223372036854775808", "0"},
		{"-9223372036854775808", "1", "-9223372036854775808", "0"},
		{"9223372036854775807", "-1", "-9223372036854775807", "0"},
		{"-9223372036854775808", "9223372036854775807", "-2", "9223372036854775806"},
		{"-1", "-9223372036854775808", "1", "9223372036854775807"},
		{"-9223372036854775808", "-9223372036854775808", "1", "0"},
		{"-1", "9223372036854775808", "-1", "9223372036854775807"},
		{"-9223372036854775809", "0", "0", "-9223372036854775809"},
		// The first guess of a digit is one too many here.
		{"1000000000000000000000000000", "1000000000000000001", "999999999", "999999999000000001"},
		{"-1000000000000000000500000000", "1000000000000000001", "-1000000000", "500000000"},
	} {
		a, _ := Parse(c[0])
		b, _ := Parse(c[1])
		quotient, left := a.Quo(b)
		if quotient.String() != c[2] || left.String() != c[3] {
			t.Errorf("P1.2: Quo of %s by %s: %v, %v, wanted %s, %s", c[0], c[1], quotient, left, c[2], c[3])
		}
	}
}

func TestP1_2Small(t *testing.T) {
	for _, x := range edges() {
		n, ok := number(t, x).Small()
		if ok != x.IsInt64() || ok && n != x.Int64() || !ok && n != 0 {
			t.Errorf("P1.2: Small of %v: %d, %v", x, n, ok)
		}
	}
	// A number that came by way of a greater one is small again.
	past := Of(math.MaxInt64).Add(Of(1))
	if n, ok := past.Small(); ok || n != 0 {
		t.Errorf("P1.2: Small of 2^63: %d, %v", n, ok)
	}
	if n, ok := past.Sub(Of(1)).Small(); !ok || n != math.MaxInt64 {
		t.Errorf("P1.2: Small of 2^63 - 1: %d, %v", n, ok)
	}
	if n, ok := past.Neg().Small(); !ok || n != math.MinInt64 {
		t.Errorf("P1.2: Small of -2^63: %d, %v", n, ok)
	}
	if n, ok := past.Neg().Sub(Of(1)).Small(); ok || n != 0 {
		t.Errorf("P1.2: Small of -2^63 - 1: %d, %v", n, ok)
	}
}

func TestP1_2Gcd(t *testing.T) {
	for _, c := range [][3]string{
		{"0", "0", "0"}, {"0", "-6", "6"}, {"-6", "0", "6"}, {"12", "18", "6"}, {"-12", "18", "6"}, {"12", "-18", "6"}, {"-12", "-18", "6"}, {"1", "7", "1"}, {"7", "7", "7"},
		{"-9223372036854775808", "0", "9223372036854775808"}, {"0", "-9223372036854775808", "9223372036854775808"},
		{"-9223372036854775808", "-9223372036854775808", "9223372036854775808"}, {"-9223372036854775808", "6", "2"},
		{"-1000000000000000000000000000000", "15", "5"}, {"15", "-1000000000000000000000000000000", "5"},
	} {
		a, _ := Parse(c[0])
		b, _ := Parse(c[1])
		if g := a.Gcd(b); g.String() != c[2] {
			t.Errorf("P1.2: Gcd of %s and %s: %v, wanted %s", c[0], c[1], g, c[2])
		}
	}
	r := rand.New(rand.NewSource(3))
	for range 2000 {
		x, y, z := anyBig(r, 4), anyBig(r, 4), anyBig(r, 4)
		x.Mul(x, z)
		y.Mul(y, z)
		want := new(big.Int).GCD(nil, nil, new(big.Int).Abs(x), new(big.Int).Abs(y))
		same(t, "P1.2: Gcd", number(t, x).Gcd(number(t, y)), want)
	}
}

func TestP1_2ManyDigits(t *testing.T) {
	r := rand.New(rand.NewSource(4))
	for range 20 {
		x, y := anyBig(r, 600), anyBig(r, 400)
		a, b := number(t, x), number(t, y)
		same(t, "P1.2: Mul", a.Mul(b), new(big.Int).Mul(x, y))
		same(t, "P1.2: Add", a.Add(b), new(big.Int).Add(x, y))
		same(t, "P1.2: Sub", a.Sub(b), new(big.Int).Sub(x, y))
		same(t, "P1.2: Gcd", a.Gcd(b), new(big.Int).GCD(nil, nil, new(big.Int).Abs(x), new(big.Int).Abs(y)))
		checkQuo(t, a, b, x, y)
	}
}

// TestP1_2GuessOneTooMany: divisions of digits at the edges, among them such as make the first guess of a digit too great.
func TestP1_2GuessOneTooMany(t *testing.T) {
	digits := []int64{0, 1, base/2 - 1, base / 2, base - 2, base - 1}
	var all []*big.Int
	for _, top := range digits {
		for _, mid := range digits {
			for _, low := range digits {
				x := big.NewInt(top)
				x.Mul(x, big.NewInt(base)).Add(x, big.NewInt(mid))
				x.Mul(x, big.NewInt(base)).Add(x, big.NewInt(low))
				all = append(all, x)
			}
		}
	}
	for _, y := range all {
		for i, high := range all {
			x := new(big.Int).Mul(high, new(big.Int).Exp(big.NewInt(base), big.NewInt(2), nil))
			x.Add(x, all[(i*7)%len(all)])
			checkQuo(t, number(t, x), number(t, y), x, y)
		}
	}
}

func TestP1_3Laws(t *testing.T) {
	r := rand.New(rand.NewSource(5))
	var list []Int
	for _, x := range edges() {
		list = append(list, number(t, x))
	}
	for range 200 {
		list = append(list, number(t, anyBig(r, 6)), Of(int64(r.Uint64())>>r.Intn(64)))
	}
	zero, one := Of(0), Of(1)
	is := func(law string, a, b Int) {
		t.Helper()
		if a.Cmp(b) != 0 || a.String() != b.String() {
			t.Fatalf("P1.3: %s: %v and %v", law, a, b)
		}
	}
	for range 30000 {
		a, b, c := list[r.Intn(len(list))], list[r.Intn(len(list))], list[r.Intn(len(list))]
		is("a + b = b + a", a.Add(b), b.Add(a))
		is("(a + b) + c = a + (b + c)", a.Add(b).Add(c), a.Add(b.Add(c)))
		is("ab = ba", a.Mul(b), b.Mul(a))
		is("(ab)c = a(bc)", a.Mul(b).Mul(c), a.Mul(b.Mul(c)))
		is("a(b + c) = ab + ac", a.Mul(b.Add(c)), a.Mul(b).Add(a.Mul(c)))
		is("a + 0 = a", a.Add(zero), a)
		is("a1 = a", a.Mul(one), a)
		is("a0 = 0", a.Mul(zero), zero)
		is("a + -a = 0", a.Add(a.Neg()), zero)
		is("a - b = -(b - a)", a.Sub(b), b.Sub(a).Neg())
		is("(a - b) + b = a", a.Sub(b).Add(b), a)
		is("--a = a", a.Neg().Neg(), a)
		if a.Cmp(b) != a.Sub(b).Sign() || a.Add(c).Cmp(b.Add(c)) != a.Cmp(b) || c.Sign() > 0 && a.Mul(c).Cmp(b.Mul(c)) != a.Cmp(b) {
			t.Fatalf("P1.3: order of %v, %v, %v", a, b, c)
		}
	}
}

// TestAnswersShareNothing: an answer's memory is its own.
func TestAnswersShareNothing(t *testing.T) {
	texts := []string{"-123456789012345678901234567890", "123456789012345678901234567890", "123456789012345678901234567890000000000"}
	var list []Int
	for _, s := range texts {
		a, _ := Parse(s)
		list = append(list, a)
	}
	zero, one := Of(0), Of(1)
	for _, a := range list {
		answers := []Int{a.Neg(), a.Add(zero), zero.Add(a), a.Sub(zero), zero.Sub(a), a.Mul(one), one.Mul(a), a.Gcd(zero), zero.Gcd(a)}
		for _, b := range append(list, zero, one) {
			quotient, left := a.Quo(b)
			answers = append(answers, a.Gcd(b), quotient, left)
		}
		for _, answer := range answers {
			clear(answer.mag[:cap(answer.mag)])
		}
	}
	for i, s := range texts {
		if list[i].String() != s {
			t.Errorf("an answer shares memory with %s", s)
		}
	}
}
