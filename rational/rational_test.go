package rational_test

import (
	"math"
	"math/big"
	"strings"
	"testing"

	"vinculum/api"
	"vinculum/rational"
)

type rat = rational.Rat

const most = 1<<31 - 1

// integers are ordinary integers, the ends of the ranges, and integers beyond them. 46337 is a prime, 46340 * 46340 the greatest square in range.
var integers = []int{
	0, 1, -1, 2, -2, 3, -3, 4, -4, 5, 6, -6, 7, 9, 10, -12, 36, 100, 46337, -46337, 46340, 46341, 46340 * 46340, 65536,
	1 << 30, -1 << 30, most - 1, most, -most, most + 1, -most - 1, most + 2, 2 * most, 3 * most, -5 * most, most * most, most*most + 1,
	1 << 62, -1 << 62, math.MaxInt - 1, math.MaxInt, math.MinInt, math.MinInt + 1, math.MinInt + 2,
}

var invalid = []rat{
	{0, 0}, {1, 0}, {-1, 0}, {0, 2}, {0, most}, {0, -1}, {2, 4}, {-2, 4}, {6, 3}, {5, 5}, {1, -1}, {-1, -2}, {46337 * 3, 46337 * 2},
	{most, most}, {most + 1, 1}, {-most - 1, 1}, {1, most + 1}, {1, -most}, {most + 1, most + 2}, {math.MaxInt, 1}, {math.MinInt, 1}, {math.MinInt, 3},
	{1, math.MaxInt}, {1, math.MinInt}, {math.MaxInt, math.MaxInt}, {math.MinInt, math.MinInt}, {0, math.MinInt}, {math.MinInt, 0},
}

// valid returns the valid numbers whose numerators and denominators are integers of the list.
func valid() []rat {
	var l []rat
	for _, num := range integers {
		for _, den := range integers {
			if x := (rat{num, den}); isValid(x) {
				l = append(l, x)
			}
		}
	}
	return l
}

func isValid(x rat) bool {
	if x.Num < -most || x.Num > most || x.Den < 1 || x.Den > most {
		return false
	}
	return exact(x).Num().Int64() == int64(x.Num) && exact(x).Denom().Int64() == int64(x.Den)
}

func exact(x rat) *big.Rat { return big.NewRat(int64(x.Num), int64(x.Den)) }

// bounded returns the valid number that stands for r, or ErrRange.
func bounded(r *big.Rat) (rat, api.Errno) {
	if r.Num().BitLen() > 31 || r.Denom().BitLen() > 31 {
		return rat{}, api.ErrRange
	}
	return rat{int(r.Num().Int64()), int(r.Denom().Int64())}, api.OK
}

func TestP2_1Valid(t *testing.T) {
	for _, num := range integers {
		for _, den := range integers {
			x := rat{num, den}
			if got := rational.Valid(x); got != isValid(x) {
				t.Error(x, got)
			}
		}
	}
	for _, x := range []rat{{0, 1}, {-3, 2}, {most, 1}, {-most, most - 1}, {1, most}} {
		if !rational.Valid(x) {
			t.Error(x)
		}
	}
	for _, x := range invalid {
		if rational.Valid(x) {
			t.Error(x)
		}
	}
}

func TestP2_1Make(t *testing.T) {
	for _, num := range integers {
		for _, den := range integers {
			want, wantError := rat{}, api.ErrDivide
			if den != 0 {
				want, wantError = bounded(new(big.Rat).SetFrac64(int64(num), int64(den)))
			}
			if x, e := rational.Make(num, den); x != want || e != wantError {
				t.Error(num, den, x, e)
			}
		}
	}
	if x, e := rational.Make(6, -4); x != (rat{-3, 2}) || e != api.OK {
		t.Error(x, e)
	}
}

func TestP2_1ArithmeticValues(t *testing.T) {
	for _, x := range valid() {
		for _, y := range valid() {
			check := func(name string, r *big.Rat, got rat, e api.Errno) {
				if want, wantError := bounded(r); got != want || e != wantError {
					t.Error(name, x, y, got, e)
				}
			}
			a, b := exact(x), exact(y)
			got, e := rational.Add(x, y)
			check("Add", new(big.Rat).Add(a, b), got, e)
			got, e = rational.Sub(x, y)
			check("Sub", new(big.Rat).Sub(a, b), got, e)
			got, e = rational.Mul(x, y)
			check("Mul", new(big.Rat).Mul(a, b), got, e)
			got, e = rational.Div(x, y)
			if y.Num != 0 {
				check("Div", new(big.Rat).Quo(a, b), got, e)
			} else if got != (rat{}) || e != api.ErrDivide {
				t.Error("Div", x, y, got, e)
			}
		}
		want, wantError := bounded(new(big.Rat).Neg(exact(x)))
		if got, e := rational.Neg(x); got != want || e != wantError {
			t.Error("Neg", x, got, e)
		}
	}
	if x, e := rational.Add(rat{1, 2}, rat{1, 3}); x != (rat{5, 6}) || e != api.OK {
		t.Error(x, e)
	}
}

func TestP2_1Cmp(t *testing.T) {
	for _, x := range valid() {
		for _, y := range valid() {
			if n, e := rational.Cmp(x, y); n != exact(x).Cmp(exact(y)) || e != api.OK {
				t.Error(x, y, n, e)
			}
		}
	}
}

// TestP2_1Invalid checks that an invalid number counts before every other error.
func TestP2_1Invalid(t *testing.T) {
	for _, bad := range invalid {
		check := func(name string, got rat, e api.Errno) {
			if got != (rat{}) || e != api.ErrArg {
				t.Error(name, bad, got, e)
			}
		}
		for _, other := range append([]rat{{0, 1}, {1, 1}, {-2, 3}, {most, 1}, {1, most}}, invalid...) {
			for _, p := range [][2]rat{{bad, other}, {other, bad}} {
				got, e := rational.Add(p[0], p[1])
				check("Add", got, e)
				got, e = rational.Sub(p[0], p[1])
				check("Sub", got, e)
				got, e = rational.Mul(p[0], p[1])
				check("Mul", got, e)
				got, e = rational.Div(p[0], p[1])
				check("Div", got, e)
				n, e := rational.Cmp(p[0], p[1])
				check("Cmp", rat{n, 0}, e)
			}
		}
		got, e := rational.Neg(bad)
		check("Neg", got, e)
		got, e = rational.Root(bad)
		check("Root", got, e)
		for _, n := range integers {
			got, e = rational.Pow(bad, n)
			check("Pow", got, e)
		}
		if s := rational.Text(bad); s != "" {
			t.Error("Text", bad, s)
		}
	}
}

func TestP2_1Pow(t *testing.T) {
	for _, x := range valid() {
		for n := -70; n <= 70; n++ {
			if x.Num == 0 && n < 0 {
				continue
			}
			want, wantError := bounded(exactPower(x, n))
			if got, e := rational.Pow(x, n); got != want || e != wantError {
				t.Error(x, n, got, e)
			}
		}
	}
}

// exactPower multiplies the factors one by one.
func exactPower(x rat, n int) *big.Rat {
	power := big.NewRat(1, 1)
	for range max(n, -n) {
		power.Mul(power, exact(x))
	}
	if n < 0 {
		power.Inv(power)
	}
	return power
}

func TestP2_1PowEdges(t *testing.T) {
	one, zero, two, half := rat{1, 1}, rat{0, 1}, rat{2, 1}, rat{1, 2}
	for i, c := range []struct {
		x    rat
		n    int
		want rat
		e    api.Errno
	}{
		{rat{2, 3}, -2, rat{9, 4}, api.OK},
		{rat{-2, 3}, -3, rat{-27, 8}, api.OK},
		{rat{-2, 3}, 3, rat{-8, 27}, api.OK},
		{two, 30, rat{1 << 30, 1}, api.OK},
		{two, 31, rat{}, api.ErrRange},
		{two, -30, rat{1, 1 << 30}, api.OK},
		{two, -31, rat{}, api.ErrRange},
		{half, 31, rat{}, api.ErrRange},
		{half, -31, rat{}, api.ErrRange},
		{rat{-2, 1}, 31, rat{}, api.ErrRange},
		{rat{most, 1}, 1, rat{most, 1}, api.OK},
		{rat{-most, 1}, -1, rat{-1, most}, api.OK},
		{rat{most, 1}, 2, rat{}, api.ErrRange},
		{rat{46340, 1}, 2, rat{46340 * 46340, 1}, api.OK},
		{rat{46341, 1}, 2, rat{}, api.ErrRange},
		{rat{3, 1}, 19, rat{1162261467, 1}, api.OK},
		{rat{3, 1}, 20, rat{}, api.ErrRange},
		{rat{most, most - 1}, 0, one, api.OK},
		{one, 1 << 62, one, api.OK},
		{one, math.MinInt, one, api.OK},
		{rat{-1, 1}, 1 << 62, one, api.OK},
		{rat{-1, 1}, math.MaxInt, rat{-1, 1}, api.OK},
		{rat{-1, 1}, math.MinInt, one, api.OK},
		{rat{-1, 1}, math.MinInt + 1, rat{-1, 1}, api.OK},
		{two, math.MaxInt, rat{}, api.ErrRange},
		{two, math.MinInt, rat{}, api.ErrRange},
		{half, 1 << 32, rat{}, api.ErrRange},
		{zero, 0, one, api.OK},
		{zero, 1, zero, api.OK},
		{zero, math.MaxInt, zero, api.OK},
		{zero, -1, rat{}, api.ErrDivide},
		{zero, math.MinInt, rat{}, api.ErrDivide},
	} {
		if got, e := rational.Pow(c.x, c.n); got != c.want || e != c.e {
			t.Error(i, c.x, c.n, got, e)
		}
	}
}

// TestP2_1Root squares the root and asks whether there is one by the integer roots of package big.
func TestP2_1Root(t *testing.T) {
	numbers := valid()
	for num := -30; num <= 1100; num++ {
		for den := 1; den <= 40; den++ {
			if x := (rat{num, den}); isValid(x) {
				numbers = append(numbers, x)
			}
		}
	}
	for _, x := range numbers {
		want, wantError := rat{}, api.ErrRange
		if x.Num >= 0 {
			num := new(big.Int).Sqrt(big.NewInt(int64(x.Num)))
			den := new(big.Int).Sqrt(big.NewInt(int64(x.Den)))
			if y := new(big.Rat).SetFrac(num, den); new(big.Rat).Mul(y, y).Cmp(exact(x)) == 0 {
				want, wantError = bounded(y)
			}
		}
		if got, e := rational.Root(x); got != want || e != wantError {
			t.Error(x, got, e)
		}
	}
}

func TestP2_1RootEdges(t *testing.T) {
	for x, want := range map[rat]rat{
		{0, 1}: {0, 1}, {1, 1}: {1, 1}, {4, 1}: {2, 1}, {9, 4}: {3, 2}, {1, 4}: {1, 2}, {46340 * 46340, 1}: {46340, 1}, {1, 46340 * 46340}: {1, 46340},
		{46339 * 46339, 46340 * 46340}: {46339, 46340},
	} {
		if got, e := rational.Root(x); got != want || e != api.OK {
			t.Error(x, got, e)
		}
	}
	for _, x := range []rat{{-1, 1}, {-4, 1}, {-9, 4}, {2, 1}, {1, 2}, {4, 3}, {3, 4}, {46340*46340 - 1, 1}, {46340*46340 + 1, 1}, {most, 1}, {-most, 1}, {1, most}} {
		if got, e := rational.Root(x); got != (rat{}) || e != api.ErrRange {
			t.Error(x, got, e)
		}
	}
}

func TestP2_1Text(t *testing.T) {
	for x, want := range map[rat]string{
		{0, 1}: "0", {7, 1}: "7", {-7, 1}: "-7", {1, 2}: "1/2", {-3, 2}: "-3/2", {10, 1}: "10", {100, 7}: "100/7", {1, 10}: "1/10",
		{most, 1}: "2147483647", {-most, 1}: "-2147483647", {-most, most - 1}: "-2147483647/2147483646", {1, most}: "1/2147483647",
	} {
		if got := rational.Text(x); got != want {
			t.Error(x, got)
		}
	}
}

func TestP2_1ParseSyntax(t *testing.T) {
	for _, s := range []string{
		"", ".", "1.", ".5", "-1", "+1", "-0", "1.-5", "1.+5", "1..5", "1.2.3", "1.5.", ".1.5", "1,5", "1/2", "1e3", "1E3", "0x1", "0b1", "1_000", "1._5", "1.5_0", "inf", "NaN",
		" 1", "1 ", "1. 5", "1 .5", "1\n", "\t1", "1\x00", "1.5\x00", "\xff", "1\xff", "1.\xff5", "\u0661", "1\u0661", "1.\u0665", "\uff11", "a", "1a", "1.a",
		strings.Repeat("0", 41), strings.Repeat("9", 41), "0." + strings.Repeat("0", 39), "1" + strings.Repeat("0", 38) + ".5", "0." + strings.Repeat("0", 5000), strings.Repeat("9", 5000),
		strings.Repeat("9", 39) + ".", "." + strings.Repeat("9", 39), "9999999999x", "9999999999.", "0.99999999999x", "0.12345678901.",
	} {
		if x, e := rational.Parse(s); x != (rat{}) || e != api.ErrSyntax {
			t.Errorf("%.50q %v %d", s, x, e)
		}
	}
}

func TestP2_1ParseRange(t *testing.T) {
	for _, s := range []string{
		"2147483648", "2147483648.0", "2147483647.5", "1073741824.5", "0.0000000001", "0.2147483649", "4294967296", "9999999999", "9223372036854775807", "9223372036854775808", "18446744073709551616", "18446744073709551617",
		"0.18446744073709551617", "0.00000000000000000001", strings.Repeat("9", 40), "1" + strings.Repeat("0", 39), "0." + strings.Repeat("0", 37) + "1", "0." + strings.Repeat("9", 38), strings.Repeat("9", 38) + ".9",
		"340282366920938463463374607431768211457", "0.0000000004656612873077392578125", "2.000000000931322574615478515625",
	} {
		if x, e := rational.Parse(s); x != (rat{}) || e != api.ErrRange {
			t.Errorf("%q %v %d", s, x, e)
		}
	}
}

// addends and factors are small enough for many results to have representations, and large enough for others to have none.
var addends = []rat{
	{0, 1}, {1, 1}, {-1, 1}, {1, 2}, {-1, 3}, {2, 3}, {-5, 6}, {7, 10}, {100, 1}, {-1, 1000}, {46340, 1}, {1, 46341}, {-46341, 46340},
	{1 << 30, 1}, {1, 1 << 30}, {-3, 1 << 30}, {most, 1}, {-most, 2}, {1, most}, {most - 1, most}, {-most, most - 1},
}

func TestP2_2Commutative(t *testing.T) {
	for _, x := range addends {
		for _, y := range addends {
			s, e := rational.Add(x, y)
			if r, f := rational.Add(y, x); r != s || f != e {
				t.Error(x, y, s, r)
			}
			p, e := rational.Mul(x, y)
			if r, f := rational.Mul(y, x); r != p || f != e {
				t.Error(x, y, p, r)
			}
		}
	}
}

// chain returns g(f(x, y), z), and whether all results have representations.
func chain(f, g func(x, y rat) (rat, api.Errno), x, y, z rat) (rat, bool) {
	first, e := f(x, y)
	if e != api.OK {
		return rat{}, false
	}
	second, e := g(first, z)
	return second, e == api.OK
}

func TestP2_2Associative(t *testing.T) {
	compared := 0
	for _, x := range addends {
		for _, y := range addends {
			for _, z := range addends {
				for _, f := range []func(x, y rat) (rat, api.Errno){rational.Add, rational.Mul} {
					left, isLeft := chain(f, f, x, y, z)
					right, isRight := chain(f, f, y, z, x)
					if isLeft && isRight {
						compared++
						if left != right {
							t.Error(x, y, z, left, right)
						}
					}
				}
			}
		}
	}
	if compared < 1000 {
		t.Error("too few results have representations:", compared)
	}
}

func TestP2_2Distributive(t *testing.T) {
	compared := 0
	for _, x := range addends {
		for _, y := range addends {
			for _, z := range addends {
				left, isLeft := chain(rational.Add, rational.Mul, y, z, x)
				p, e := rational.Mul(x, y)
				q, f := rational.Mul(x, z)
				if !isLeft || e != api.OK || f != api.OK {
					continue
				}
				compared++
				if right, g := rational.Add(p, q); right != left || g != api.OK {
					t.Error(x, y, z, left, right, g)
				}
			}
		}
	}
	if compared < 1000 {
		t.Error("too few results have representations:", compared)
	}
}

func TestP2_2Undone(t *testing.T) {
	for _, x := range valid() {
		for _, y := range valid() {
			if s, e := rational.Add(x, y); e == api.OK {
				if d, f := rational.Sub(s, y); d != x || f != api.OK {
					t.Error("Sub", x, y, d, f)
				}
			}
			if p, e := rational.Mul(x, y); e == api.OK && y.Num != 0 {
				if q, f := rational.Div(p, y); q != x || f != api.OK {
					t.Error("Div", x, y, q, f)
				}
			}
		}
	}
}

// checkSum compares the power with the exponent m + n, which must be an int, with the product of two powers.
func checkSum(t *testing.T, x rat, m, n int) {
	a, e := rational.Pow(x, m)
	b, f := rational.Pow(x, n)
	whole, g := rational.Pow(x, m+n)
	if e != api.OK || f != api.OK || g != api.OK {
		return
	}
	if product, e := rational.Mul(a, b); product != whole || e != api.OK {
		t.Error(x, m, n, product, e, whole)
	}
}

func TestP2_3Sum(t *testing.T) {
	for _, x := range addends {
		for m := -34; m <= 34; m++ {
			for n := -34; n <= 34; n++ {
				checkSum(t, x, m, n)
			}
		}
	}
	for _, x := range []rat{{0, 1}, {1, 1}, {-1, 1}, {2, 1}} {
		for _, m := range []int{math.MaxInt, math.MaxInt - 1, 1 << 62, 1<<62 + 1, math.MinInt, math.MinInt + 1} {
			checkSum(t, x, m, 0)
			checkSum(t, x, m/2, m-m/2)
			checkSum(t, x, m, -(m / 3))
		}
	}
}

func TestP2_3RootOfSquare(t *testing.T) {
	squares := 0
	check := func(x rat) {
		square, e := rational.Pow(x, 2)
		if e != api.OK {
			return
		}
		squares++
		if root, e := rational.Root(square); root != (rat{max(x.Num, -x.Num), x.Den}) || e != api.OK {
			t.Error(x, square, root, e)
		}
	}
	for _, x := range valid() {
		check(x)
	}
	for num := -46340; num <= 46340; num++ {
		for _, den := range []int{1, 2, 46337, 46340} {
			if x := (rat{num, den}); isValid(x) {
				check(x)
			}
		}
	}
	if squares < 200000 {
		t.Error("too few squares have representations:", squares)
	}
}

// checkDecimal compares Parse with the number of the digits divided by the power of ten.
func checkDecimal(t *testing.T, s string) {
	_, rest, _ := strings.Cut(s, ".")
	digits, _ := new(big.Int).SetString(strings.Replace(s, ".", "", 1), 10)
	power := new(big.Int).Exp(big.NewInt(10), big.NewInt(int64(len(rest))), nil)
	want, wantError := bounded(new(big.Rat).SetFrac(digits, power))
	if x, e := rational.Parse(s); x != want || e != wantError {
		t.Errorf("%q %v %d", s, x, e)
	}
}

func isDecimal(s string) bool {
	return !strings.HasPrefix(s, ".") && !strings.HasSuffix(s, ".") && strings.Count(s, ".") <= 1
}

// TestP2_4Exhaustive compares Parse with the definition for all short texts over an alphabet.
func TestP2_4Exhaustive(t *testing.T) {
	texts := []string{""}
	for range 6 {
		var longer []string
		for _, s := range texts {
			for _, c := range []string{".", "0", "1", "2", "5", "9"} {
				longer = append(longer, s+c)
			}
		}
		for _, s := range longer {
			if isDecimal(s) {
				checkDecimal(t, s)
			} else if x, e := rational.Parse(s); x != (rat{}) || e != api.ErrSyntax {
				t.Errorf("%q %v %d", s, x, e)
			}
		}
		texts = longer
	}
}

// TestP2_4Long puts a point at every place of long digits, between zeros at the beginning and at the end, up to 40 characters.
func TestP2_4Long(t *testing.T) {
	for _, digits := range []string{
		"0", "1", "5", "125", "2147483647", "2147483648", "4294967295", "10737418245", "999999999999999999999", "18446744073709551617",
		"931322574615478515625", "1999999999068677425384521484375", "340282366920938463463374607431768211457",
	} {
		for before := 0; before+len(digits) <= 40; before++ {
			for after := 0; before+len(digits)+after <= 40; after++ {
				s := strings.Repeat("0", before) + digits + strings.Repeat("0", after)
				checkDecimal(t, s)
				for i := 1; i < len(s) && len(s) < 40; i++ {
					checkDecimal(t, s[:i]+"."+s[i:])
				}
			}
		}
	}
}

func TestP2_4Examples(t *testing.T) {
	for s, want := range map[string]rat{
		"0.125": {1, 8}, "0": {0, 1}, "0.0": {0, 1}, "00.00": {0, 1}, "7": {7, 1}, "007": {7, 1}, "007.500": {15, 2}, "1.0": {1, 1}, "10": {10, 1}, "2147483647": {most, 1}, "2147483647.000": {most, 1},
		"1073741823.5": {most, 2}, "0.000000001": {1, 1000000000}, "2.147483647": {most, 1000000000},
		"0.000000000931322574615478515625":         {1, 1 << 30},
		"1.999999999068677425384521484375":         {most, 1 << 30},
		"1.99999999906867742538452148437500000000": {most, 1 << 30},
		strings.Repeat("0", 39) + "5":              {5, 1},
		strings.Repeat("0", 37) + "1.5":            {3, 2},
		"0.5" + strings.Repeat("0", 37):            {1, 2},
	} {
		if x, e := rational.Parse(s); x != want || e != api.OK {
			t.Errorf("%q %v %d", s, x, e)
		}
	}
}
