package font_test

import (
	"math"
	"math/big"
	"math/rand"
	"reflect"
	"slices"
	"strconv"
	"strings"
	"testing"

	"vinculum/api"
	"vinculum/font"
)

// metrics are ordinary metrics, the ends of their ranges, and numbers beyond them.
var metrics = []int{
	0, 1, -1, 2, -2, 5, -5, 11, -11, 49, 50, -50, 51, 99, 100, -100, 101, 431, 500, 1000,
	19999, 20000, 20001, -19999, -20000, -20001, 40000, math.MaxInt32, math.MinInt32, math.MaxInt, math.MinInt, math.MinInt + 1,
}

var percents = []int{1, 2, 33, 49, 50, 51, 70, 99, 100, 101, 150, 999, 1000, 1001, 0, -1, -50, -100, math.MaxInt, math.MinInt}

func isMetric(n int) bool { return n >= -20000 && n <= 20000 }

func isPercent(n int) bool { return n >= 1 && n <= 1000 }

// scaled returns n * percent / 100, rounded, without any limit of size.
func scaled(n, percent int) int {
	p := new(big.Int).Mul(big.NewInt(int64(n)), big.NewInt(int64(percent)))
	sign := p.Sign()
	p.Abs(p).Add(p, big.NewInt(50)).Div(p, big.NewInt(100))
	return sign * int(p.Int64())
}

// glyph returns a glyph with a height.
func glyph(name string, height int) api.Glyph {
	return api.Glyph{Name: name, W: 300, H: height + 7, D: -7}
}

// glyphs returns n glyphs with the names g0, g1 and so on, whose heights are 1, 2 and so on.
func glyphs(n int) []api.Glyph {
	var l []api.Glyph
	for i := range n {
		l = append(l, glyph("g"+strconv.Itoa(i), i+1))
	}
	return l
}

func namesOf(l []api.Glyph) []string {
	var names []string
	for _, g := range l {
		names = append(names, g.Name)
	}
	return names
}

// parts returns the parts with names, of which those behind a + are extenders.
func parts(text string) []api.Part {
	var l []api.Part
	for _, name := range strings.Fields(text) {
		name, extends := strings.CutPrefix(name, "+")
		l = append(l, api.Part{Name: name, Extender: extends})
	}
	return l
}

func params() api.Params {
	return api.Params{
		Quad: 1000, XHeight: 431, Axis: 250, Rule: 40, Num1: 677, Num2: 394, Denom1: 686, Denom2: 345, Sup1: 413, Sup2: 363, Sup3: 289,
		Sub1: 150, Sub2: 247, SupDrop: 386, SubDrop: 50, Script: 70, ScriptScript: 50, DelimPercent: 90, DelimShort: 500, AccentHeight: 431,
	}
}

// sample returns a valid font with a bit of everything.
func sample() api.Font {
	return api.Font{
		Glyphs: []api.Glyph{
			{Name: "x", W: 500, H: 431, D: -11, Italic: 30, Attach: 250},
			{Name: "?", W: 473, H: 694, D: 1, Italic: 7, Attach: 236},
			{Name: "j", W: 301, H: 694, D: 194, Italic: -25, Attach: -3},
			{Name: " "}, {Name: "~~~~~~~~~~~~~~~~", W: 20000, H: -20000, D: 20000, Italic: 20000, Attach: -20000},
			{Name: "(", W: 389, H: 750, D: 250}, {Name: "(1", W: 469, H: 1050, D: 550}, {Name: "(2", W: 549, H: 1350, D: 850},
			{Name: "(bot", W: 549, H: 900}, {Name: "(ext", W: 549, H: 300}, {Name: "(top", W: 549, H: 1000, D: -100},
			{Name: "low", H: -300, D: 100}, {Name: "flat", H: 100, D: -100}, {Name: "thin", H: 3, D: -2},
		},
		Stretches: []api.Stretch{
			{Name: "(", Sizes: []string{"(", "(1", "(2"}, Parts: parts("(bot +(ext (top"), Overlap: 50},
			{Name: "/", Sizes: []string{"x"}},
			{Name: "low", Sizes: []string{"low", "flat", "thin", "x"}, Parts: parts("+thin")},
		},
		Params: params(),
	}
}

// copyOf returns a font that shares no memory with another one.
func copyOf(f api.Font) api.Font {
	f.Glyphs, f.Stretches = slices.Clone(f.Glyphs), slices.Clone(f.Stretches)
	for i := range f.Stretches {
		s := &f.Stretches[i]
		s.Sizes, s.Parts = slices.Clone(s.Sizes), slices.Clone(s.Parts)
	}
	return f
}

// checkValid checks what Valid reports of a font, and that the font stays as it is.
func checkValid(t *testing.T, what any, f api.Font, want bool) {
	t.Helper()
	before := copyOf(f)
	if got := font.Valid(f); got != want {
		t.Error(what, got)
	}
	if !reflect.DeepEqual(f, before) {
		t.Error(what, "has changed")
	}
}

func TestP5_1Ordinary(t *testing.T) {
	checkValid(t, "sample", sample(), true)
	checkValid(t, "without glyphs", api.Font{Params: params()}, true)
	checkValid(t, "with empty lists", api.Font{Glyphs: []api.Glyph{}, Stretches: []api.Stretch{}, Params: params()}, true)
	checkValid(t, "without parameters", api.Font{}, false)
}

// names are strings, with whether they are names.
func names() map[string]bool {
	l := map[string]bool{
		"": false, "alpha": true, "(bot": true, "a b": true, "  ": true, "1234567890123456": true, "12345678901234567": false, "                ": true,
		"a\x00": false, "\x1fa": false, "a\x7f": false, "ab\n": false, "é": false, "1234567890123é": false, "a\u0301": false, "\xff": false,
		strings.Repeat("~", 16): true, strings.Repeat("~", 17): false, strings.Repeat("a", 100000): false, "12345678901234\x00x": false, "123456789012345\x80": false,
	}
	for c := range 256 {
		l[string([]byte{byte(c)})] = c >= 32 && c <= 126
	}
	return l
}

func TestP5_1Names(t *testing.T) {
	for name, want := range names() {
		checkValid(t, name, api.Font{Glyphs: []api.Glyph{glyph(name, 1)}, Params: params()}, want)
		f := api.Font{Glyphs: glyphs(1), Params: params()}
		f.Stretches = []api.Stretch{{Name: name, Sizes: []string{"g0"}}}
		checkValid(t, name, f, want)
	}
}

func TestP5_1Metrics(t *testing.T) {
	for _, n := range metrics {
		for at := range 3 {
			for i, g := range []api.Glyph{{W: n}, {H: n}, {D: n}, {Italic: n}, {Attach: n}} {
				f := api.Font{Glyphs: glyphs(3), Params: params()}
				g.Name = "x"
				f.Glyphs[at] = g
				checkValid(t, g, f, isMetric(n) && (i > 0 || n >= 0))
			}
		}
	}
	// The height of a glyph may be greater than a metric.
	for _, n := range []int{-20000, 20000} {
		checkValid(t, n, api.Font{Glyphs: []api.Glyph{{Name: "x", H: n, D: n}}, Params: params()}, true)
	}
}

func TestP5_1Glyphs(t *testing.T) {
	for n, want := range map[int]bool{1: true, 399: true, 400: true, 401: false, 1000: false, 100000: false} {
		checkValid(t, n, api.Font{Glyphs: glyphs(n), Params: params()}, want)
		checkValid(t, -n, api.Font{Glyphs: make([]api.Glyph, n), Params: params()}, false)
	}
	for _, at := range [][2]int{{0, 1}, {0, 399}, {198, 199}, {398, 399}, {7, 300}} {
		f := api.Font{Glyphs: glyphs(400), Params: params()}
		f.Glyphs[at[0]].Name = f.Glyphs[at[1]].Name
		checkValid(t, at, f, false)
		f.Glyphs[at[0]] = f.Glyphs[at[1]]
		checkValid(t, at, f, false)
	}
}

func TestP5_1Stretches(t *testing.T) {
	stretches := func(n int) []api.Stretch {
		var l []api.Stretch
		for i := range n {
			l = append(l, api.Stretch{Name: "g" + strconv.Itoa(i), Sizes: []string{"g0"}})
		}
		return l
	}
	for n, want := range map[int]bool{1: true, 39: true, 40: true, 41: false, 100: false, 100000: false} {
		// A stretch may have the name of a glyph, or another one.
		for _, of := range []int{1, 39, 40} {
			checkValid(t, n, api.Font{Glyphs: glyphs(of), Stretches: stretches(n), Params: params()}, want)
		}
		checkValid(t, -n, api.Font{Glyphs: glyphs(3), Stretches: make([]api.Stretch, n), Params: params()}, false)
	}
	for _, at := range [][2]int{{0, 1}, {0, 39}, {38, 39}, {7, 20}} {
		f := api.Font{Glyphs: glyphs(3), Stretches: stretches(40), Params: params()}
		f.Stretches[at[0]].Name = f.Stretches[at[1]].Name
		checkValid(t, at, f, false)
		f.Stretches[at[0]].Sizes = []string{"g1", "g2"}
		checkValid(t, at, f, false)
	}
}

// withStretch returns a font with a stretch behind another one.
func withStretch(l []api.Glyph, s api.Stretch) api.Font {
	s.Name = "s"
	return api.Font{Glyphs: l, Stretches: []api.Stretch{{Name: "first", Sizes: []string{l[0].Name}}, s}, Params: params()}
}

func TestP5_1Sizes(t *testing.T) {
	l := append(glyphs(17), glyph("same", 3), glyph("zero", 0), glyph("low", -1), glyph("lower", -40000))
	l[len(l)-1].H, l[len(l)-1].D = -20000, -20000
	for n := range 18 {
		checkValid(t, n, withStretch(l, api.Stretch{Sizes: namesOf(l[:n])}), n >= 1 && n <= 16)
	}
	for text, want := range map[string]bool{
		"g0": true, "g16": true, "zero": true, "low": true, "lower": true, "lower low zero g0": true, "low zero": true, "low g5": true,
		"g0 g2 g16": true, "g0 same": true, "g1 same g3": true, "g2 same": false, "same g2": false, "g0 g2 same g5": false, "g0 g0": false,
		"g1 g0": false, "g0 g1 g2 g1": false, "g2 g1 g3": false, "zero low": false, "zero zero": false, "low lower": false, "g0 low": false,
		"x": false, "g0 x": false, "x g0": false, "g0 x g2": false, "G0": false, "s": false, "first": false, "g17": false,
	} {
		checkValid(t, text, withStretch(l, api.Stretch{Sizes: strings.Fields(text)}), want)
	}
	for _, name := range []string{"", "\x00", "g0 ", strings.Repeat("g", 10000)} {
		checkValid(t, name, withStretch(l, api.Stretch{Sizes: []string{name}}), false)
	}
	checkValid(t, "many", withStretch(l, api.Stretch{Sizes: make([]string, 100000)}), false)
}

func TestP5_1Parts(t *testing.T) {
	l := append(glyphs(12), glyph("zero", 0), glyph("low", -9), api.Glyph{Name: "great", H: 20000, D: 20000})
	for i, x := range []struct {
		parts   string
		overlap int
		want    bool
	}{
		{"", 0, true}, {"", 1, false}, {"", -1, false}, {"", math.MaxInt, false}, {"", math.MinInt, false},
		{"+g0", 0, true}, {"+g0", 1, false}, {"+g0", -1, false}, {"+g0", math.MinInt, false}, {"+g0", math.MaxInt, false},
		{"g0", 0, false}, {"g0 g1 g2", 0, false}, {"g0 g1 g2", -5, false},
		{"+g9", 0, true}, {"+g9", 8, true}, {"+g9", 9, true}, {"+g9", 10, false}, {"+g9", 11, false}, {"+g9", -1, false}, {"+g9", 20000, false},
		{"g9 +g4", 4, true}, {"g9 +g4", 5, false}, {"g4 +g9", 4, true}, {"g4 +g9", 5, false}, {"+g9 g4", 4, true}, {"+g9 g4", 5, false},
		{"g9 +g9 g3 g8", 3, true}, {"g9 +g9 g3 g8", 4, false}, {"+g5 +g5 +g5", 5, true}, {"+g5 +g5 +g5", 6, false}, {"g5 g5 g5 +g5", 0, true},
		{"+zero", 0, false}, {"+zero", -1, false}, {"g3 +zero", 0, false}, {"+g3 zero", 0, false}, {"+low", 0, false}, {"+low", -10, false}, {"+g3 low g3", -10, false},
		{"+great", 39999, true}, {"+great", 40000, false}, {"+great", 20000, true},
		{"x", 0, false}, {"+x", 0, false}, {"+g0 x", 0, false}, {"x +g0", 0, false}, {"+G0", 0, false}, {"+s", 0, false}, {"+first", 0, false},
		{"g0 g1 g2 g3 g4 g5 g6 +g7", 0, true}, {"+g0 g1 g2 g3 g4 g5 g6 g7", 0, true}, {"g0 g1 g2 +g3 g4 g5 g6 g7", 1, false}, {"g0 g1 g2 g3 g4 g5 g6 g7", 0, false},
		{"g0 g1 g2 g3 g4 g5 g6 g7 +g8", 0, false}, {"+g0 +g1 +g2 +g3 +g4 +g5 +g6 +g7 +g8", 0, false}, {strings.Repeat("+g9 ", 8), 9, true}, {strings.Repeat("+g9 ", 9), 9, false}, {strings.Repeat("+g9 ", 50000), 0, false},
	} {
		checkValid(t, i, withStretch(l, api.Stretch{Sizes: []string{"g0"}, Parts: parts(x.parts), Overlap: x.overlap}), x.want)
		// The sizes are needed with parts, too.
		checkValid(t, i, withStretch(l, api.Stretch{Parts: parts(x.parts), Overlap: x.overlap}), false)
	}
	checkValid(t, "empty list", withStretch(l, api.Stretch{Sizes: []string{"g0"}, Parts: []api.Part{}}), true)
	checkValid(t, "no name", withStretch(l, api.Stretch{Sizes: []string{"g0"}, Parts: append(parts("+g0"), api.Part{})}), false)
}

func TestP5_1Params(t *testing.T) {
	kinds := reflect.TypeFor[api.Params]()
	for i := range kinds.NumField() {
		name := kinds.Field(i).Name
		for _, n := range metrics {
			want := n >= 0 && n <= 20000
			if slices.Contains([]string{"Script", "ScriptScript", "DelimPercent"}, name) {
				want = n >= 1 && n <= 100
			}
			f := sample()
			reflect.ValueOf(&f.Params).Elem().Field(i).SetInt(int64(n))
			checkValid(t, name+" "+strconv.Itoa(n), f, want)
		}
	}
}

// looksValid reports whether a font is valid, without tables, in the words of the chapter.
func looksValid(f api.Font) bool {
	named := func(name string) (api.Glyph, int) {
		var found api.Glyph
		count := 0
		for _, g := range f.Glyphs {
			if g.Name == name {
				found = g
				count++
			}
		}
		return found, count
	}
	good := len(f.Glyphs) <= 400 && len(f.Stretches) <= 40
	for _, g := range f.Glyphs {
		_, count := named(g.Name)
		good = good && count == 1 && len(g.Name) >= 1 && len(g.Name) <= 16 && g.W >= 0
		good = good && isMetric(g.W) && isMetric(g.H) && isMetric(g.D) && isMetric(g.Italic) && isMetric(g.Attach)
	}
	for i, s := range f.Stretches {
		for _, other := range f.Stretches[:i] {
			good = good && other.Name != s.Name
		}
		good = good && len(s.Name) >= 1 && len(s.Name) <= 16 && len(s.Sizes) >= 1 && len(s.Sizes) <= 16 && len(s.Parts) <= 8
		for j, name := range s.Sizes {
			g, count := named(name)
			good = good && count == 1
			if j > 0 {
				before, _ := named(s.Sizes[j-1])
				good = good && g.H+g.D > before.H+before.D
			}
		}
		extenders, least := 0, math.MaxInt
		for _, p := range s.Parts {
			g, count := named(p.Name)
			good = good && count == 1
			least = min(least, g.H+g.D)
			if p.Extender {
				extenders++
			}
		}
		if len(s.Parts) == 0 {
			good = good && s.Overlap == 0
		} else {
			good = good && extenders >= 1 && s.Overlap >= 0 && s.Overlap <= least-1
		}
	}
	return good
}

// randomFont returns a font whose faults, if it has any, are few.
func randomFont(r *rand.Rand) api.Font {
	f := api.Font{Params: params()}
	name := func() string { return string(rune('a' + r.Intn(12))) }
	for i := range r.Intn(10) {
		g := api.Glyph{Name: string(rune('a' + i)), W: r.Intn(1000), H: r.Intn(8), D: r.Intn(4) - 1, Italic: r.Intn(9) - 4, Attach: r.Intn(9) - 4}
		if r.Intn(60) == 0 {
			g.Name = name()
		}
		if r.Intn(60) == 0 {
			g.W = r.Intn(3) - 1
		}
		f.Glyphs = append(f.Glyphs, g)
	}
	r.Shuffle(len(f.Glyphs), func(i, j int) { f.Glyphs[i], f.Glyphs[j] = f.Glyphs[j], f.Glyphs[i] })
	for range r.Intn(3) {
		s := api.Stretch{Name: name()}
		for range 1 + r.Intn(3) {
			s.Sizes = append(s.Sizes, name())
		}
		for range r.Intn(3) {
			s.Parts = append(s.Parts, api.Part{Name: name(), Extender: r.Intn(3) > 0})
		}
		if len(s.Parts) > 0 || r.Intn(20) == 0 {
			s.Overlap = r.Intn(4) - r.Intn(2)
		}
		f.Stretches = append(f.Stretches, s)
	}
	return f
}

func TestP5_1Random(t *testing.T) {
	r := rand.New(rand.NewSource(5))
	count := map[bool]int{}
	for i := range 30000 {
		f := randomFont(r)
		want := looksValid(f)
		checkValid(t, i, f, want)
		if len(f.Stretches) > 0 {
			count[want]++
		}
	}
	if count[true] < 500 || count[false] < 500 {
		t.Error("the fonts are too much alike", count)
	}
}

// twice returns a font, not valid, in which names occur twice.
func twice() api.Font {
	return api.Font{
		Glyphs: []api.Glyph{
			{Name: "a", W: 1, H: 2, D: 3, Italic: 4, Attach: 5}, {Name: "", W: 77}, {Name: "?", W: 6}, {Name: "a", W: 7}, {Name: "?", W: 8}, {Name: "\x00", W: -9, H: math.MaxInt}, {Name: "", W: 10},
		},
		Stretches: []api.Stretch{
			{Name: "b", Sizes: []string{"a"}}, {Name: "a", Sizes: []string{"x", "y"}, Parts: append(parts("+z"), api.Part{}), Overlap: -3},
			{Name: "a", Sizes: []string{"other"}}, {Name: "", Overlap: 4}, {Name: "", Overlap: 5},
		},
	}
}

// fonts are fonts, valid or not.
func fonts() []api.Font {
	without := sample()
	without.Glyphs = slices.DeleteFunc(without.Glyphs, func(g api.Glyph) bool { return g.Name == "?" })
	return []api.Font{
		{}, sample(), without, twice(), {Glyphs: glyphs(400), Params: params()}, {Glyphs: glyphs(10000)}, {Glyphs: make([]api.Glyph, 3), Stretches: make([]api.Stretch, 3)},
	}
}

func wanted() []string {
	return []string{
		"", "x", "?", "a", "b", "c", "j", "/", "(", "(1", "(bot", ")", "low", " ", "??", "g0", "g399", "g9999", "\x00", "\xff", "é", "A", strings.Repeat("~", 16), strings.Repeat("x", 10000),
	}
}

// first returns the first glyph with a name.
func first(f api.Font, name string) (api.Glyph, bool) {
	for _, g := range f.Glyphs {
		if g.Name == name {
			return g, true
		}
	}
	return api.Glyph{}, false
}

func TestP5_2Find(t *testing.T) {
	for i, f := range fonts() {
		before := copyOf(f)
		for _, name := range wanted() {
			g, ok := font.Find(f, name)
			if want, isThere := first(f, name); g != want || ok != isThere {
				t.Errorf("%d %.20q %v %v", i, name, g, ok)
			}
		}
		if !reflect.DeepEqual(f, before) {
			t.Error(i, "has changed")
		}
	}
	if g, ok := font.Find(twice(), "a"); !ok || g != (api.Glyph{Name: "a", W: 1, H: 2, D: 3, Italic: 4, Attach: 5}) {
		t.Error(g, ok)
	}
	if g, ok := font.Find(sample(), "y"); ok || g != (api.Glyph{}) {
		t.Error(g, ok)
	}
}

func TestP5_2Pick(t *testing.T) {
	for i, f := range fonts() {
		before := copyOf(f)
		for _, name := range wanted() {
			want, ok := first(f, name)
			if !ok {
				want, ok = first(f, "?")
			}
			if !ok {
				want = api.Glyph{Name: name}
			}
			if got := font.Pick(f, name); got != want {
				t.Errorf("%d %.20q %v", i, name, got)
			}
		}
		if !reflect.DeepEqual(f, before) {
			t.Error(i, "has changed")
		}
	}
	for i, x := range [][2]api.Glyph{
		{font.Pick(twice(), "a"), {Name: "a", W: 1, H: 2, D: 3, Italic: 4, Attach: 5}}, {font.Pick(twice(), "x"), {Name: "?", W: 6}}, {font.Pick(twice(), "?"), {Name: "?", W: 6}}, {font.Pick(twice(), ""), {W: 77}},
		{font.Pick(api.Font{}, "x"), {Name: "x"}}, {font.Pick(api.Font{}, "?"), {Name: "?"}}, {font.Pick(api.Font{}, ""), {}}, {font.Pick(api.Font{}, "\x00"), {Name: "\x00"}},
	} {
		if x[0] != x[1] {
			t.Error(i, x)
		}
	}
}

func TestP5_2Stretch(t *testing.T) {
	for i, f := range fonts() {
		before := copyOf(f)
		for _, name := range wanted() {
			var want api.Stretch
			at := slices.IndexFunc(f.Stretches, func(s api.Stretch) bool { return s.Name == name })
			if at >= 0 {
				want = f.Stretches[at]
			}
			got, ok := font.Stretch(f, name)
			if ok != (at >= 0) || got.Name != want.Name || got.Overlap != want.Overlap || !slices.Equal(got.Sizes, want.Sizes) || !slices.Equal(got.Parts, want.Parts) {
				t.Errorf("%d %.20q %v %v", i, name, got, ok)
			}
			// The result is new memory.
			for j := range got.Sizes {
				got.Sizes[j] = "changed"
			}
			for j := range got.Parts {
				got.Parts[j] = api.Part{Name: "changed"}
			}
			_, _ = append(got.Sizes, "more"), append(got.Parts, api.Part{Name: "more"})
		}
		if !reflect.DeepEqual(f, before) {
			t.Error(i, "has changed")
		}
	}
	if s, ok := font.Stretch(twice(), "a"); !ok || s.Overlap != -3 || !slices.Equal(s.Sizes, []string{"x", "y"}) || len(s.Parts) != 2 {
		t.Error(s, ok)
	}
	if s, ok := font.Stretch(sample(), "x"); ok || s.Name != "" || s.Sizes != nil || s.Parts != nil || s.Overlap != 0 {
		t.Error(s, ok)
	}
}

// What lies behind the end of a list, in its capacity, is not the result's.
func TestP5_2StretchCapacity(t *testing.T) {
	sizes, parts := []string{"a", "b", "c"}, parts("+a +b")
	s, ok := font.Stretch(api.Font{Stretches: []api.Stretch{{Name: "s", Sizes: sizes[:1], Parts: parts[:0]}}}, "s")
	_, _ = append(s.Sizes, "changed"), append(s.Parts, api.Part{Name: "changed"})
	if !ok || len(s.Sizes) != 1 || len(s.Parts) != 0 || sizes[1] != "b" || parts[0].Name != "a" {
		t.Error(s, ok, sizes, parts)
	}
}

func TestP5_2Height(t *testing.T) {
	for _, h := range metrics {
		for _, d := range metrics {
			if got := font.Height(api.Glyph{Name: "x", W: 1 << 40, H: h, D: d, Italic: 1 << 41, Attach: 1 << 42}); got != h+d {
				t.Error(h, d, got)
			}
		}
	}
	if got := font.Height(sample().Glyphs[0]); got != 420 {
		t.Error(got)
	}
}

// places are glyphs with a metric in one place.
func places(n int) []api.Glyph {
	return []api.Glyph{{W: n}, {H: n}, {D: n}, {Italic: n}, {Attach: n}, {W: n, H: n, D: n, Italic: n, Attach: n}}
}

func TestP5_3Scaled(t *testing.T) {
	for _, n := range metrics {
		for _, percent := range percents {
			for i, g := range places(n) {
				g.Name = []string{"x", "", "\x00", strings.Repeat("x", 1000), "?", "é"}[i]
				var want api.Glyph
				e := api.OK
				switch {
				case !isPercent(percent):
					e = api.ErrRange
				case !isMetric(n):
					e = api.ErrArg
				default:
					want = api.Glyph{Name: g.Name, W: scaled(g.W, percent), H: scaled(g.H, percent), D: scaled(g.D, percent), Italic: scaled(g.Italic, percent), Attach: scaled(g.Attach, percent)}
				}
				if got, gotError := font.Scaled(g, percent); got != want || gotError != e {
					t.Errorf("%.40v %d %.40v %d", g, percent, got, gotError)
				}
			}
		}
	}
}

func TestP5_3Examples(t *testing.T) {
	x := api.Glyph{Name: "x", W: 500, H: 431, D: -11, Italic: 1, Attach: -250}
	for percent, want := range map[int]api.Glyph{
		70:   {Name: "x", W: 350, H: 302, D: -8, Italic: 1, Attach: -175},
		50:   {Name: "x", W: 250, H: 216, D: -6, Italic: 1, Attach: -125},
		49:   {Name: "x", W: 245, H: 211, D: -5, Italic: 0, Attach: -123},
		1:    {Name: "x", W: 5, H: 4, D: 0, Italic: 0, Attach: -3},
		1000: {Name: "x", W: 5000, H: 4310, D: -110, Italic: 10, Attach: -2500},
	} {
		if got, e := font.Scaled(x, percent); got != want || e != api.OK {
			t.Error(percent, got, e)
		}
	}
}

// boxed returns the box of a glyph.
func boxed(g api.Glyph, percent int) api.Box {
	w := scaled(g.W, percent)
	if g.Italic > 0 {
		w += scaled(g.Italic, percent)
	}
	return api.Box{Kind: 1, Name: g.Name, Size: percent, W: w, H: scaled(g.H, percent), D: scaled(g.D, percent)}
}

func TestP5_4Box(t *testing.T) {
	broken := sample()
	broken.Params.Script = 0
	for i, f := range append(fonts(), broken) {
		before := copyOf(f)
		isValid := font.Valid(f)
		for _, name := range wanted() {
			for _, percent := range percents {
				var want api.Box
				e := api.OK
				switch {
				case !isValid:
					e = api.ErrArg
				case !isPercent(percent):
					e = api.ErrRange
				default:
					want = boxed(font.Pick(f, name), percent)
				}
				if got, gotError := font.Box(f, name, percent); !reflect.DeepEqual(got, want) || gotError != e {
					t.Errorf("%d %.20q %d %.40v %d", i, name, percent, got, gotError)
				}
			}
		}
		if !reflect.DeepEqual(f, before) {
			t.Error(i, "has changed")
		}
	}
}

func TestP5_4Examples(t *testing.T) {
	without := sample()
	without.Glyphs = without.Glyphs[:1]
	without.Stretches = nil
	for i, x := range []struct {
		f       api.Font
		name    string
		percent int
		want    api.Box
		e       api.Errno
	}{
		{sample(), "x", 100, api.Box{Kind: api.BoxGlyph, Name: "x", Size: 100, W: 530, H: 431, D: -11}, api.OK},
		{sample(), "x", 50, api.Box{Kind: api.BoxGlyph, Name: "x", Size: 50, W: 265, H: 216, D: -6}, api.OK},
		// The width and the italic part are rounded apart.
		{sample(), "?", 50, api.Box{Kind: api.BoxGlyph, Name: "?", Size: 50, W: 241, H: 347, D: 1}, api.OK},
		// A negative italic part does not count.
		{sample(), "j", 100, api.Box{Kind: api.BoxGlyph, Name: "j", Size: 100, W: 301, H: 694, D: 194}, api.OK},
		{sample(), "y", 1000, api.Box{Kind: api.BoxGlyph, Name: "?", Size: 1000, W: 4800, H: 6940, D: 10}, api.OK},
		{sample(), "", 1, api.Box{Kind: api.BoxGlyph, Name: "?", Size: 1, W: 5, H: 7}, api.OK},
		{without, "y", 70, api.Box{Kind: api.BoxGlyph, Name: "y", Size: 70}, api.OK},
		{without, "\x00", 70, api.Box{Kind: api.BoxGlyph, Name: "\x00", Size: 70}, api.OK},
		{sample(), "x", 1001, api.Box{}, api.ErrRange}, {sample(), "x", 0, api.Box{}, api.ErrRange}, {without, "y", -100, api.Box{}, api.ErrRange},
		{twice(), "a", 100, api.Box{}, api.ErrArg}, {twice(), "a", 0, api.Box{}, api.ErrArg}, {api.Font{}, "x", 1001, api.Box{}, api.ErrArg},
	} {
		if got, e := font.Box(x.f, x.name, x.percent); !reflect.DeepEqual(got, x.want) || e != x.e {
			t.Error(i, got, e)
		}
	}
}

func TestP5_5Unchanged(t *testing.T) {
	for n := -20000; n <= 20000; n++ {
		for _, g := range places(n) {
			if got, e := font.Scaled(g, 100); got != g || e != api.OK {
				t.Error(g, got, e)
			}
		}
	}
	for _, g := range sample().Glyphs {
		if got, e := font.Scaled(g, 100); got != g || e != api.OK {
			t.Error(g, got, e)
		}
	}
}

// values are the metrics of a glyph.
func values(g api.Glyph) []int { return []int{g.W, g.H, g.D, g.Italic, g.Attach} }

// keepsOrder reports whether no metric of a glyph has another sign than that of one which is scaled less, or a less absolute value.
func keepsOrder(less, more api.Glyph) bool {
	for i, n := range values(less) {
		m := values(more)[i]
		if n > 0 && m < n || n < 0 && m > n {
			return false
		}
	}
	return true
}

// keepsSigns reports whether no metric of a glyph has a sign opposite to the one before it was scaled.
func keepsSigns(g, scaled api.Glyph) bool {
	for i, n := range values(g) {
		m := values(scaled)[i]
		if n == 0 && m != 0 || n > 0 && m < 0 || n < 0 && m > 0 {
			return false
		}
	}
	return true
}

func TestP5_5Order(t *testing.T) {
	var l []api.Glyph
	for n := -20000; n <= 20000; n += 611 {
		l = append(l, places(n)...)
	}
	for n := -60; n <= 60; n++ {
		l = append(l, places(n)...)
	}
	for _, g := range append(l, sample().Glyphs...) {
		var last api.Glyph
		for percent := 1; percent <= 1000; percent++ {
			got, e := font.Scaled(g, percent)
			if e != api.OK || !keepsOrder(last, got) || !keepsSigns(g, got) {
				t.Error(g, percent, last, got, e)
			}
			last = got
		}
	}
}

// shuffled returns a font with the glyphs and the stretches of another one in another order.
func shuffled(r *rand.Rand, f api.Font) api.Font {
	f = copyOf(f)
	r.Shuffle(len(f.Glyphs), func(i, j int) { f.Glyphs[i], f.Glyphs[j] = f.Glyphs[j], f.Glyphs[i] })
	r.Shuffle(len(f.Stretches), func(i, j int) { f.Stretches[i], f.Stretches[j] = f.Stretches[j], f.Stretches[i] })
	return f
}

// sameResults checks that two fonts give the same for a name.
func sameResults(t *testing.T, f, other api.Font, name string) {
	t.Helper()
	g, ok := font.Find(f, name)
	if h, alsoOk := font.Find(other, name); g != h || ok != alsoOk {
		t.Errorf("Find %.20q %v %v", name, g, h)
	}
	if font.Pick(f, name) != font.Pick(other, name) {
		t.Errorf("Pick %.20q", name)
	}
	s, ok := font.Stretch(f, name)
	if u, alsoOk := font.Stretch(other, name); !reflect.DeepEqual(s, u) || ok != alsoOk {
		t.Errorf("Stretch %.20q %v %v", name, s, u)
	}
}

func TestP5_6Order(t *testing.T) {
	r := rand.New(rand.NewSource(6))
	for _, f := range fonts() {
		if !font.Valid(f) {
			continue
		}
		for range 20 {
			other := shuffled(r, f)
			checkValid(t, "shuffled", other, true)
			for _, name := range append(wanted(), namesOf(f.Glyphs)...) {
				sameResults(t, f, other, name)
			}
		}
	}
}

func TestP5_6Random(t *testing.T) {
	r := rand.New(rand.NewSource(66))
	for i := range 3000 {
		f := randomFont(r)
		other := shuffled(r, f)
		if isValid := font.Valid(f); !isValid {
			checkValid(t, i, other, false)
			continue
		}
		checkValid(t, i, other, true)
		for c := 'a'; c <= 'm'; c++ {
			sameResults(t, f, other, string(c))
		}
	}
}
