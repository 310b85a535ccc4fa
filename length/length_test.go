package length_test

import (
	"math"
	"math/big"
	"regexp"
	"slices"
	"strings"
	"testing"

	"vinculum/api"
	"vinculum/length"
)

const most = api.MaxLength

// numbers are ordinary lengths, the ends of their range, and numbers beyond it.
var numbers = []int{
	0, 1, -1, 2, -2, 3, -3, 5, -5, 7, 24, 25, -25, 26, 49, 50, 51, 99, 100, -100, 101, 150, 999, 1000, -1000, 1001, 12340,
	most - 1, most, most + 1, -most + 1, -most, -most - 1,
	math.MaxInt32, math.MinInt32, math.MaxInt, math.MinInt, math.MinInt + 1,
}

var percents = []int{0, 1, 33, 49, 50, 51, 70, 99, 100, 101, 150, 9999, 10000, 10001, -1, -50, math.MaxInt, math.MinInt}

func isLength(n int) bool { return n >= -1<<30 && n <= 1<<30 }

// rounded returns p / q, rounded, for p = n * a, without any limit of size.
func rounded(n, a, q int) int {
	p := new(big.Int).Mul(big.NewInt(int64(n)), big.NewInt(int64(a)))
	d := big.NewInt(int64(q))
	sign := p.Sign() * d.Sign()
	p.Abs(p).Lsh(p, 1)
	d.Abs(d)
	p.Add(p, d).Div(p, d.Lsh(d, 1))
	return sign * int(p.Int64())
}

func TestP1_1Valid(t *testing.T) {
	for _, n := range numbers {
		if got := length.Valid(n); got != isLength(n) {
			t.Error(n, got)
		}
	}
}

func TestP1_1Scale(t *testing.T) {
	for _, n := range numbers {
		for _, percent := range percents {
			want := 0
			if isLength(n) && percent >= 0 && percent <= 10000 {
				want = rounded(n, percent, 100)
			}
			if got := length.Scale(n, percent); got != want {
				t.Error(n, percent, got, want)
			}
		}
	}
}

func TestP1_1Half(t *testing.T) {
	for _, n := range numbers {
		want := 0
		if isLength(n) {
			want = rounded(n, 1, 2)
		}
		if got := length.Half(n); got != want {
			t.Error(n, got, want)
		}
	}
}

func TestP1_1MulDiv(t *testing.T) {
	for _, n := range numbers {
		for _, a := range numbers {
			for _, b := range numbers {
				want := 0
				if isLength(n) && isLength(a) && isLength(b) && b != 0 {
					want = rounded(n, a, b)
				}
				if got := length.MulDiv(n, a, b); got != want {
					t.Error(n, a, b, got, want)
				}
			}
		}
	}
}

func TestP1_1Examples(t *testing.T) {
	for i, x := range [][2]int{
		{length.Scale(25, 50), 13}, {length.Scale(-25, 50), -13}, {length.Half(5), 3}, {length.MulDiv(7, 1, -2), -4},
		{length.Scale(most, 10000), 100 * most}, {length.MulDiv(most, -most, 1), -1 << 60},
	} {
		if x[0] != x[1] {
			t.Error(i, x)
		}
	}
}

func TestP1_1Add(t *testing.T) {
	for _, a := range numbers {
		for _, b := range numbers {
			want, wantError := 0, api.ErrArg
			if isLength(a) && isLength(b) {
				want, wantError = a+b, api.OK
				if !isLength(want) {
					want, wantError = 0, api.ErrRange
				}
			}
			if n, e := length.Add(a, b); n != want || e != wantError {
				t.Error(a, b, n, e)
			}
		}
	}
}

func TestP1_1Sum(t *testing.T) {
	for i, x := range []struct {
		l []int
		n int
		e api.Errno
	}{
		{nil, 0, api.OK},
		{[]int{}, 0, api.OK},
		{[]int{-7}, -7, api.OK},
		{[]int{1, -2, 5, 0}, 4, api.OK},
		{[]int{most}, most, api.OK},
		{[]int{-most, most, most, -most}, 0, api.OK},
		{[]int{most, -1, 1}, most, api.OK},
		{[]int{most, 1, -1}, 0, api.ErrRange},
		{[]int{-most, -1, 1}, 0, api.ErrRange},
		{[]int{0, most, 1}, 0, api.ErrRange},
		{[]int{most + 1}, 0, api.ErrArg},
		{[]int{-most - 1, 1}, 0, api.ErrArg},
		{[]int{most, 1, most + 1}, 0, api.ErrArg},
		{[]int{math.MaxInt, math.MaxInt}, 0, api.ErrArg},
		{[]int{1, math.MinInt}, 0, api.ErrArg},
	} {
		before := slices.Clone(x.l)
		if n, e := length.Sum(x.l); n != x.n || e != x.e {
			t.Error(i, n, e)
		}
		if !slices.Equal(x.l, before) {
			t.Error(i, "the list has changed", x.l)
		}
	}
}

func TestP1_1Text(t *testing.T) {
	for n, want := range map[int]string{
		0: "0pt", 1: "0.001pt", -1: "-0.001pt", -5: "-0.005pt", 10: "0.01pt", 100: "0.1pt", 120: "0.12pt", 999: "0.999pt",
		1000: "1pt", -1000: "-1pt", 1001: "1.001pt", 1010: "1.01pt", 12340: "12.34pt", 100000: "100pt", 100100: "100.1pt",
		most: "1073741.824pt", -most: "-1073741.824pt",
		most + 1: "", -most - 1: "", math.MaxInt: "", math.MinInt: "",
	} {
		if got := length.Text(n); got != want {
			t.Error(n, got, want)
		}
	}
}

func TestP1_1Parse(t *testing.T) {
	for s, want := range map[string]api.Errno{
		"": api.ErrSyntax, "pt": api.ErrSyntax, "-": api.ErrSyntax, "-pt": api.ErrSyntax, ".pt": api.ErrSyntax, "1": api.ErrSyntax,
		"-0pt": api.ErrSyntax, "-0.0pt": api.ErrSyntax, "0.0pt": api.ErrSyntax, "00pt": api.ErrSyntax, "00.1pt": api.ErrSyntax, "01pt": api.ErrSyntax,
		"1.pt": api.ErrSyntax, ".5pt": api.ErrSyntax, "-.5pt": api.ErrSyntax, "1.0pt": api.ErrSyntax, "1.50pt": api.ErrSyntax, "1.2345pt": api.ErrSyntax, "1.000pt": api.ErrSyntax, "1.2.3pt": api.ErrSyntax,
		"+1pt": api.ErrSyntax, "--1pt": api.ErrSyntax, "1-pt": api.ErrSyntax, "1.-5pt": api.ErrSyntax, "1.+5pt": api.ErrSyntax, "1_0pt": api.ErrSyntax, "0x1pt": api.ErrSyntax, "1e3pt": api.ErrSyntax,
		" 1pt": api.ErrSyntax, "1 pt": api.ErrSyntax, "1pt ": api.ErrSyntax, "1pt\n": api.ErrSyntax, "1PT": api.ErrSyntax, "1ptpt": api.ErrSyntax, "1p": api.ErrSyntax, "1,5pt": api.ErrSyntax,
		"\u0661pt": api.ErrSyntax, "1.\u0665pt": api.ErrSyntax, "\xffpt": api.ErrSyntax, "1\x00pt": api.ErrSyntax,
		"1073741.825pt": api.ErrRange, "-1073741.825pt": api.ErrRange, "1073742pt": api.ErrRange, "9223372036854775.807pt": api.ErrRange, "9223372036854775.808pt": api.ErrRange, "-9223372036854775.808pt": api.ErrRange,
		"18446744073709551.616pt": api.ErrRange, "18446744073709551.617pt": api.ErrRange, "99999999999999999999pt": api.ErrRange,
		"99999999.10pt": api.ErrSyntax, "99999999999999999999.pt": api.ErrSyntax, "-099999999999999999999pt": api.ErrSyntax,
		strings.Repeat("9", 5000) + ".999pt":        api.ErrRange,
		"-" + strings.Repeat("9", 5000) + "pt":      api.ErrRange,
		strings.Repeat("9", 5000) + "x.5pt":         api.ErrSyntax,
		"0." + strings.Repeat("0", 5000) + "1pt":    api.ErrSyntax,
		strings.Repeat("0", 5000) + "1pt":           api.ErrSyntax,
		"1073741.824" + strings.Repeat("pt", 5000):  api.ErrSyntax,
		strings.Repeat("-", 5000) + "1073741.824pt": api.ErrSyntax,
	} {
		if n, e := length.Parse(s); n != 0 || e != want {
			t.Errorf("%.40q %d %d", s, n, e)
		}
	}
}

var pattern = regexp.MustCompile(`\A-?(0|[1-9][0-9]*)(\.[0-9]{0,2}[1-9])?pt\z`)

// TestP1_1ParseExhaustive compares Parse with the definition for all short texts over an alphabet.
func TestP1_1ParseExhaustive(t *testing.T) {
	texts := []string{""}
	for range 6 {
		var longer []string
		for _, s := range texts {
			for _, c := range []string{"-", ".", "0", "1", "9"} {
				longer = append(longer, s+c)
			}
		}
		for _, s := range longer {
			s += "pt"
			want := api.ErrSyntax
			if s != "-0pt" && pattern.MatchString(s) {
				want = api.OK
			}
			n, e := length.Parse(s)
			if e != want || e == api.OK && length.Text(n) != s || e != api.OK && n != 0 {
				t.Errorf("%q %d %d", s, n, e)
			}
		}
		texts = longer
	}
}

func TestP1_2Symmetry(t *testing.T) {
	for _, n := range numbers {
		if isLength(n) && length.Half(-n) != -length.Half(n) {
			t.Error(n)
		}
		for _, p := range percents {
			if isLength(n) && length.Scale(-n, p) != -length.Scale(n, p) {
				t.Error(n, p)
			}
		}
		for _, a := range numbers {
			for _, b := range numbers {
				if isLength(n) && length.MulDiv(-n, a, b) != -length.MulDiv(n, a, b) {
					t.Error(n, a, b)
				}
			}
		}
	}
}

func TestP1_2Multiples(t *testing.T) {
	for _, n := range numbers {
		for _, a := range numbers {
			for _, b := range numbers {
				for _, by := range []int{-1, 2, -2, 3, 7, -1000, 1 << 20, most, -most} {
					if !isLength(a) || !isLength(b) || !isLength(a*by) || !isLength(b*by) {
						continue
					}
					if length.MulDiv(n, a, b) != length.MulDiv(n, a*by, b*by) {
						t.Error(n, a, b, by)
					}
				}
			}
		}
	}
}

// isNear reports whether a result differs from n * a / b by at most 1/2.
func isNear(result, n, a, b int) bool {
	difference := new(big.Int).Mul(big.NewInt(int64(result)), big.NewInt(int64(b)))
	difference.Sub(difference, new(big.Int).Mul(big.NewInt(int64(n)), big.NewInt(int64(a))))
	difference.Lsh(difference, 1)
	return difference.CmpAbs(big.NewInt(int64(b))) <= 0
}

func TestP1_3Error(t *testing.T) {
	for _, n := range numbers {
		if !isLength(n) {
			continue
		}
		if !isNear(length.Half(n), n, 1, 2) {
			t.Error(n)
		}
		for p := 0; p <= 10000; p += 17 {
			if !isNear(length.Scale(n, p), n, p, 100) {
				t.Error(n, p)
			}
		}
		for _, a := range numbers {
			for _, b := range numbers {
				if isLength(a) && isLength(b) && b != 0 && !isNear(length.MulDiv(n, a, b), n, a, b) {
					t.Error(n, a, b)
				}
			}
		}
	}
}

func TestP1_3Order(t *testing.T) {
	for _, start := range []int{-most, -600, most - 1200} {
		for n := start; n < start+1200; n++ {
			if length.Half(n) > length.Half(n+1) {
				t.Error(n)
			}
			for _, p := range []int{0, 1, 33, 49, 50, 51, 99, 100, 150, 10000} {
				if length.Scale(n, p) > length.Scale(n+1, p) {
					t.Error(n, p)
				}
			}
		}
	}
}

func TestP1_4Text(t *testing.T) {
	check := func(n int) {
		if got, e := length.Parse(length.Text(n)); got != n || e != api.OK {
			t.Error(n, got, e)
		}
	}
	for n := -12000; n <= 12000; n++ {
		check(n)
	}
	for n := -most; n < most; n += 9973 {
		check(n)
	}
	for n := most - 2000; n <= most; n++ {
		check(n)
		check(-n)
	}
}
