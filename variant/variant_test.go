package variant_test

import (
	"math"
	"math/rand"
	"reflect"
	"slices"
	"strconv"
	"strings"
	"testing"

	"vinculum/api"
	"vinculum/font"
	"vinculum/variant"
)

// parts returns the parts with names, of which those behind a + are extenders.
func parts(text string) []api.Part {
	var l []api.Part
	for _, name := range strings.Fields(text) {
		name, extends := strings.CutPrefix(name, "+")
		l = append(l, api.Part{Name: name, Extender: extends})
	}
	return l
}

func params() api.Params {
	return api.Params{Quad: 1000, XHeight: 431, Axis: 250, Rule: 40, Script: 70, ScriptScript: 50, DelimPercent: 90, DelimShort: 500}
}

// example returns a font with the character s of the chapter's example.
func example() api.Font {
	return api.Font{
		Glyphs:    []api.Glyph{{Name: "s1", W: 4, H: 6, D: 2}, {Name: "s2", W: 5, H: 9, D: 5}, {Name: "p", W: 3, H: 3, D: 1}},
		Stretches: []api.Stretch{{Name: "s", Sizes: []string{"s1", "s2"}, Parts: parts("+p"), Overlap: 1}},
		Params:    params(),
	}
}

// sample returns a valid font with a bit of everything.
func sample() api.Font {
	return api.Font{
		Glyphs: []api.Glyph{
			{Name: "x", W: 430, H: 431, D: -11, Italic: 30, Attach: 215}, {Name: "?", W: 440, H: 583, D: 83, Italic: -7, Attach: 220},
			{Name: "(", W: 389, H: 750, D: 250}, {Name: "(1", W: 469, H: 1050, D: 550}, {Name: "(2", W: 549, H: 1350, D: 851},
			{Name: "bot", W: 549, H: 900, Italic: 15}, {Name: "ext", W: 551, H: 301, D: -1, Attach: 9}, {Name: "mid", W: 400, H: 111, D: 222}, {Name: "top", W: 549, H: 1000, D: -100},
			{Name: "low", H: -300, D: 100}, {Name: "flat", H: 100, D: -100}, {Name: "thin", W: 9, H: 3, D: -2}, {Name: "sum", W: 1056, H: 750, D: 250}, {Name: "great", W: 20000, H: 20000, D: 20000, Italic: 20000},
		},
		Stretches: []api.Stretch{
			{Name: "(", Sizes: []string{"(", "(1", "(2"}, Parts: parts("bot +ext top"), Overlap: 50},
			{Name: "{", Sizes: []string{"(", "(1"}, Parts: parts("bot +ext mid +ext top"), Overlap: 299},
			{Name: "sum", Sizes: []string{"sum"}},
			{Name: "great", Sizes: []string{"x"}, Parts: parts("+great +great +great +great +great +great +great +great")},
			{Name: "top", Sizes: []string{"low", "flat", "thin"}, Parts: parts("thin top +thin thin")},
			{Name: "wide", Sizes: []string{"low", "flat", "x"}},
			{Name: "only", Sizes: []string{"low"}, Parts: parts("+thin")},
		},
		Params: params(),
	}
}

// uneven returns a font in which the scaled heights of sizes decrease: at 50 percent they are 2, 1, 2 and 3.
func uneven() api.Font {
	return api.Font{
		Glyphs:    []api.Glyph{{Name: "a", H: 1, D: 1}, {Name: "b", H: 4, D: -1}, {Name: "c", H: 4}, {Name: "d", H: 5}},
		Stretches: []api.Stretch{{Name: "s", Sizes: []string{"a", "b", "c", "d"}}, {Name: "t", Sizes: []string{"a", "b"}}, {Name: "u", Sizes: []string{"a", "b"}, Parts: parts("+a b")}},
		Params:    params(),
	}
}

// without returns the sample without a glyph "?".
func without() api.Font {
	f := sample()
	f.Glyphs = slices.DeleteFunc(f.Glyphs, func(g api.Glyph) bool { return g.Name == "?" })
	return f
}

func fonts() []api.Font {
	return []api.Font{example(), sample(), uneven(), without(), {Params: params()}}
}

// invalid returns fonts that are not valid.
func invalid() []api.Font {
	l := []api.Font{{}, sample(), sample(), sample()}
	l[1].Params.DelimPercent = 0
	l[2].Glyphs[1].Name = "x"
	l[3].Stretches[0].Overlap = 300
	return l
}

func characters() []string {
	return []string{"s", "t", "u", "(", "{", "sum", "great", "top", "wide", "only", "x", "?", "s1", "(1", "thin", "y", "", " ", "\x00", "é", strings.Repeat("x", 17)}
}

var percents = []int{1, 33, 50, 70, 99, 100}

var noPercents = []int{0, -1, -100, 101, 200, 1000, math.MaxInt, math.MinInt}

// copyOf returns a font that shares no memory with another one.
func copyOf(f api.Font) api.Font {
	f.Glyphs, f.Stretches = slices.Clone(f.Glyphs), slices.Clone(f.Stretches)
	for i := range f.Stretches {
		s := &f.Stretches[i]
		s.Sizes, s.Parts = slices.Clone(s.Sizes), slices.Clone(s.Parts)
	}
	return f
}

// scaled returns n * percent / 100, rounded, halves away from zero.
func scaled(n, percent int) int {
	if n < 0 {
		return -scaled(-n, percent)
	}
	return (2*n*percent + 100) / 200
}

// stretch returns the sizes of a character, its parts and their overlap.
func stretch(f api.Font, name string) ([]string, []api.Part, int) {
	for _, s := range f.Stretches {
		if s.Name == name {
			return s.Sizes, s.Parts, s.Overlap
		}
	}
	return []string{name}, nil, 0
}

// glyph returns the box of a glyph.
func glyph(f api.Font, name string, percent int) api.Box {
	b, e := font.Box(f, name, percent)
	if e != api.OK {
		panic(e)
	}
	return b
}

// names returns the names of the pieces of an assembly.
func names(l []api.Part, repeat int) []string {
	var pieces []string
	for _, p := range l {
		if p.Extender {
			pieces = append(pieces, slices.Repeat([]string{p.Name}, repeat)...)
		} else {
			pieces = append(pieces, p.Name)
		}
	}
	return pieces
}

// bottoms returns the bottoms of pieces, in the words of the chapter, followed by the height of the assembly.
func bottoms(f api.Font, pieces []string, overlap int) []int {
	heights := map[string]int{}
	for _, g := range f.Glyphs {
		heights[g.Name] = g.H + g.D
	}
	var l []int
	sum := 0
	for i, name := range pieces {
		l = append(l, sum-overlap*i)
		sum += heights[name]
	}
	return append(l, l[len(l)-1]+heights[pieces[len(pieces)-1]])
}

// assembly returns the box of an assembly.
func assembly(f api.Font, name string, repeat, percent int) api.Box {
	_, l, overlap := stretch(f, name)
	pieces := names(l, repeat)
	places := bottoms(f, pieces, overlap)
	list := api.Box{Kind: 3, H: scaled(places[len(pieces)], percent)}
	boxes := map[string]api.Box{}
	for _, p := range l {
		boxes[p.Name] = glyph(f, p.Name, percent)
	}
	for i, name := range pieces {
		b := boxes[name]
		b.Y = scaled(places[i], percent) + b.D
		list.Kids = append(list.Kids, b)
		list.W = max(list.W, b.W)
	}
	return list
}

// equal reports whether all fields of two boxes are equal, much faster than package reflect does.
func equal(a, b api.Box) bool {
	return a.Kind == b.Kind && a.Name == b.Name && a.Size == b.Size && a.W == b.W && a.H == b.H && a.D == b.D &&
		a.X == b.X && a.Y == b.Y && a.Of == b.Of && slices.Equal(a.Src, b.Src) && slices.EqualFunc(a.Kids, b.Kids, equal)
}

// isChoice reports whether a choice is one for a character.
func isChoice(f api.Font, name string, c variant.Choice) bool {
	sizes, l, _ := stretch(f, name)
	for _, size := range sizes {
		if c == (variant.Choice{Glyph: size}) {
			return true
		}
	}
	return len(l) > 0 && c == (variant.Choice{Repeat: c.Repeat}) && c.Repeat > 0 && c.Repeat < 1001
}

// boxOf returns the box of a choice for a character.
func boxOf(f api.Font, name string, c variant.Choice, percent int) api.Box {
	if c.Repeat > 0 {
		return assembly(f, name, c.Repeat, percent)
	}
	return glyph(f, c.Glyph, percent)
}

// heights returns the total heights of all choices for a character, in order: of its sizes, and of its assemblies.
func heights(f api.Font, name string, percent int) ([]variant.Choice, []int) {
	sizes, l, overlap := stretch(f, name)
	var choices []variant.Choice
	var totals []int
	for _, size := range sizes {
		b := glyph(f, size, percent)
		choices, totals = append(choices, variant.Choice{Glyph: size}), append(totals, b.H+b.D)
	}
	if len(l) == 0 {
		return choices, totals
	}
	// What one more repetition adds is the same for all.
	first, second := bottoms(f, names(l, 1), overlap), bottoms(f, names(l, 2), overlap)
	height, more := first[len(first)-1], second[len(second)-1]-first[len(first)-1]
	for repeat := 1; repeat <= 1000; repeat++ {
		choices, totals = append(choices, variant.Choice{Repeat: repeat}), append(totals, scaled(height, percent))
		height += more
	}
	return choices, totals
}

// needs returns needs around the total heights of choices, and the ends of all numbers.
func needs(totals []int) []int {
	l := []int{0, 1, -1, math.MinInt, math.MaxInt, -1 << 31, 1 << 31}
	for i, n := range totals {
		if i < 40 || i%97 == 0 || i > len(totals)-3 {
			l = append(l, n-1, n, n+1)
		}
	}
	return l
}

// randomFont returns a valid font with the character s, whose metrics are small and uneven, or great.
func randomFont(r *rand.Rand) api.Font {
	scale := []int{1, 1, 7, 90, 400}[r.Intn(5)]
	f := api.Font{Params: params()}
	add := func(height int) string {
		up := r.Intn(20*scale) - 5*scale
		g := api.Glyph{Name: "g" + strconv.Itoa(len(f.Glyphs)), W: r.Intn(1000), H: up, D: height - up, Italic: r.Intn(99) - 49, Attach: r.Intn(99) - 49}
		f.Glyphs = append(f.Glyphs, g)
		return g.Name
	}
	s := api.Stretch{Name: "s"}
	height := r.Intn(9*scale) - 2*scale
	for range 1 + r.Intn(1+r.Intn(16)) {
		s.Sizes = append(s.Sizes, add(height))
		height += 1 + r.Intn(2*scale)
	}
	least := math.MaxInt
	for range r.Intn(9) {
		height := 1 + r.Intn(5*scale)
		least = min(least, height)
		s.Parts = append(s.Parts, api.Part{Name: add(height), Extender: r.Intn(2) == 0})
	}
	if len(s.Parts) > 0 {
		s.Parts[r.Intn(len(s.Parts))].Extender = true
		s.Overlap = r.Intn(least)
	}
	f.Stretches = []api.Stretch{s}
	return f
}

// each calls a function with all fonts, characters and percentages, and with so many random fonts.
func each(random int, visit func(f api.Font, name string, percent int)) {
	for _, f := range fonts() {
		for _, name := range characters() {
			for _, percent := range percents {
				visit(f, name, percent)
			}
		}
	}
	r := rand.New(rand.NewSource(6))
	for range random {
		visit(randomFont(r), "s", 1+r.Intn(100))
	}
}

func TestP6_1Examples(t *testing.T) {
	f := example()
	for _, x := range []struct {
		need, percent int
		want          variant.Choice
		height        int
	}{
		{9, 100, variant.Choice{Glyph: "s2"}, 14}, {20, 100, variant.Choice{Repeat: 7}, 22}, {19, 100, variant.Choice{Repeat: 6}, 19}, {14, 100, variant.Choice{Glyph: "s2"}, 14}, {15, 100, variant.Choice{Repeat: 5}, 16},
		{8, 100, variant.Choice{Glyph: "s1"}, 8}, {-5, 100, variant.Choice{Glyph: "s1"}, 8}, {11, 50, variant.Choice{Repeat: 7}, 11}, {3001, 100, variant.Choice{Repeat: 1000}, 3001}, {3002, 100, variant.Choice{Repeat: 1000}, 3001},
		{2998, 100, variant.Choice{Repeat: 999}, 2998}, {2999, 100, variant.Choice{Repeat: 1000}, 3001}, {math.MaxInt, 1, variant.Choice{Repeat: 1000}, 30}, {math.MinInt, 1, variant.Choice{Glyph: "s1"}, 0},
	} {
		c, e := variant.Choose(f, "s", x.need, x.percent)
		if c != x.want || e != api.OK {
			t.Error(x.need, x.percent, c, e)
		}
		if n, e := variant.Height(f, "s", x.want, x.percent); n != x.height || e != api.OK {
			t.Error(x.need, x.percent, n, e)
		}
	}
	for repeat, want := range map[int]int{1: 4, 2: 7, 6: 19, 7: 22, 1000: 3001} {
		if n, e := variant.Height(f, "s", variant.Choice{Repeat: repeat}, 100); n != want || e != api.OK {
			t.Error(repeat, n, e)
		}
	}
	if n, e := variant.Height(f, "s", variant.Choice{Repeat: 7}, 50); n != 11 || e != api.OK {
		t.Error(n, e)
	}
}

func TestP6_1ExampleBox(t *testing.T) {
	f := example()
	want := api.Box{Kind: api.BoxList, W: 3, H: 22}
	for i := range 7 {
		want.Kids = append(want.Kids, api.Box{Kind: api.BoxGlyph, Name: "p", Size: 100, W: 3, H: 3, D: 1, Y: 3*i + 1})
	}
	got, e := variant.Box(f, "s", variant.Choice{Repeat: 7}, 100)
	if !equal(got, want) || e != api.OK {
		t.Error(got, e)
	}
	if got, e := variant.Find(f, "s", 20, 100); !equal(got, want) || e != api.OK {
		t.Error(got, e)
	}
	// The bottoms 0, 3 and 6, and the height 10, are rounded apart.
	want = api.Box{Kind: api.BoxList, W: 2, H: 5, Kids: []api.Box{
		{Kind: api.BoxGlyph, Name: "p", Size: 50, W: 2, H: 2, D: 1, Y: 1}, {Kind: api.BoxGlyph, Name: "p", Size: 50, W: 2, H: 2, D: 1, Y: 3}, {Kind: api.BoxGlyph, Name: "p", Size: 50, W: 2, H: 2, D: 1, Y: 4},
	}}
	if got, e := variant.Box(f, "s", variant.Choice{Repeat: 3}, 50); !equal(got, want) || e != api.OK {
		t.Error(got, e)
	}
	want = api.Box{Kind: api.BoxGlyph, Name: "s2", Size: 50, W: 3, H: 5, D: 3}
	if got, e := variant.Find(f, "s", 8, 50); !equal(got, want) || e != api.OK {
		t.Error(got, e)
	}
}

// checkErrors checks that all functions return an error, with zero values.
func checkErrors(t *testing.T, f api.Font, name string, c variant.Choice, percent int, want api.Errno) {
	t.Helper()
	if got, e := variant.Choose(f, name, 5, percent); got != (variant.Choice{}) || e != want {
		t.Errorf("Choose %.20q %d %v %d", name, percent, got, e)
	}
	if got, e := variant.Find(f, name, 5, percent); !equal(got, api.Box{}) || e != want {
		t.Errorf("Find %.20q %d %v %d", name, percent, got, e)
	}
	if got, e := variant.Box(f, name, c, percent); !equal(got, api.Box{}) || e != want {
		t.Errorf("Box %.20q %v %d %v %d", name, c, percent, got, e)
	}
	if got, e := variant.Height(f, name, c, percent); got != 0 || e != want {
		t.Errorf("Height %.20q %v %d %v %d", name, c, percent, got, e)
	}
}

func TestP6_1Errors(t *testing.T) {
	for _, c := range []variant.Choice{{}, {Glyph: "s1"}, {Glyph: "("}, {Glyph: "x"}, {Repeat: 1}, {Repeat: 1001}, {Repeat: -1}, {Glyph: "none", Repeat: 7}} {
		for _, name := range characters() {
			for _, percent := range noPercents {
				for _, f := range fonts() {
					checkErrors(t, f, name, c, percent, api.ErrRange)
				}
				for _, f := range invalid() {
					checkErrors(t, f, name, c, percent, api.ErrArg)
				}
			}
			for _, f := range invalid() {
				checkErrors(t, f, name, c, 100, api.ErrArg)
				checkErrors(t, f, name, c, 1, api.ErrArg)
			}
		}
	}
}

// checkChoice checks the box and the height of what may be a choice.
func checkChoice(t *testing.T, f api.Font, name string, c variant.Choice, percent int) {
	t.Helper()
	var want api.Box
	wantError := api.ErrNone
	if isChoice(f, name, c) {
		want, wantError = boxOf(f, name, c, percent), api.OK
	}
	if got, e := variant.Box(f, name, c, percent); !equal(got, want) || e != wantError {
		t.Errorf("Box %.20q %v %d %.60v %d", name, c, percent, got, e)
	}
	if got, e := variant.Height(f, name, c, percent); got != want.H+want.D || e != wantError {
		t.Errorf("Height %.20q %v %d %d %d", name, c, percent, got, e)
	}
}

func TestP6_1Choices(t *testing.T) {
	for _, f := range fonts() {
		glyphs := characters()
		for _, g := range f.Glyphs {
			glyphs = append(glyphs, g.Name)
		}
		for _, name := range characters() {
			for _, glyph := range glyphs {
				for _, repeat := range []int{0, 1, 2, -1, 1000, math.MaxInt, math.MinInt} {
					if glyph != "" {
						checkChoice(t, f, name, variant.Choice{Glyph: glyph, Repeat: repeat}, 70)
					}
				}
			}
			for _, repeat := range []int{0, 1, 2, 3, 10, 999, 1000, 1001, 1002, -1, -7, math.MaxInt, math.MinInt, 1 << 32, 1<<32 + 1} {
				checkChoice(t, f, name, variant.Choice{Repeat: repeat}, 100)
			}
		}
	}
}

func TestP6_1NoChoices(t *testing.T) {
	for i, x := range []struct {
		name string
		c    variant.Choice
		want api.Errno
	}{
		{"(", variant.Choice{Glyph: "("}, api.OK}, {"(", variant.Choice{Glyph: "(2"}, api.OK}, {"(", variant.Choice{Glyph: "x"}, api.ErrNone}, {"(", variant.Choice{Glyph: "bot"}, api.ErrNone}, {"(", variant.Choice{}, api.ErrNone},
		{"(", variant.Choice{Repeat: 1000}, api.OK}, {"(", variant.Choice{Repeat: 1001}, api.ErrNone}, {"(", variant.Choice{Repeat: -1}, api.ErrNone}, {"(", variant.Choice{Glyph: "(", Repeat: 1}, api.ErrNone},
		{"{", variant.Choice{Glyph: "{"}, api.ErrNone}, {"great", variant.Choice{Glyph: "great"}, api.ErrNone}, {"great", variant.Choice{Glyph: "x"}, api.OK}, {"sum", variant.Choice{Repeat: 1}, api.ErrNone}, {"sum", variant.Choice{}, api.ErrNone},
		{"x", variant.Choice{Glyph: "x"}, api.OK}, {"x", variant.Choice{Repeat: 1}, api.ErrNone}, {"x", variant.Choice{Glyph: "?"}, api.ErrNone}, {"y", variant.Choice{Glyph: "y"}, api.OK}, {"y", variant.Choice{Glyph: "?"}, api.ErrNone},
		// The only size of the character with the empty name has this name.
		{"", variant.Choice{}, api.OK}, {"", variant.Choice{Repeat: 1}, api.ErrNone}, {"", variant.Choice{Glyph: "?"}, api.ErrNone},
	} {
		if _, e := variant.Box(sample(), x.name, x.c, 100); e != x.want {
			t.Error(i, e)
		}
		if _, e := variant.Height(sample(), x.name, x.c, 100); e != x.want {
			t.Error(i, e)
		}
	}
}

func TestP6_1Boxes(t *testing.T) {
	each(100, func(f api.Font, name string, percent int) {
		choices, totals := heights(f, name, percent)
		for i, c := range choices {
			if i < 5 || i%301 == 0 || i == len(choices)-1 {
				checkChoice(t, f, name, c, percent)
			} else if i > 50 && i%17 > 0 {
				continue
			}
			if n, e := variant.Height(f, name, c, percent); n != totals[i] || e != api.OK {
				t.Fatal(name, c, percent, n, e)
			}
		}
	})
}

func TestP6_1Choose(t *testing.T) {
	each(500, func(f api.Font, name string, percent int) {
		choices, totals := heights(f, name, percent)
		for _, need := range needs(totals) {
			at := slices.IndexFunc(totals, func(n int) bool { return n >= need })
			if at < 0 {
				at = len(totals) - 1
			}
			if c, e := variant.Choose(f, name, need, percent); c != choices[at] || e != api.OK {
				t.Fatalf("%.20q %d %d %v %d", name, need, percent, c, e)
			}
		}
	})
}

func TestP6_1Find(t *testing.T) {
	each(80, func(f api.Font, name string, percent int) {
		_, totals := heights(f, name, percent)
		for i, need := range needs(totals) {
			if i > 7 && i%31 > 0 {
				continue
			}
			c, _ := variant.Choose(f, name, need, percent)
			if b, e := variant.Find(f, name, need, percent); !equal(b, boxOf(f, name, c, percent)) || e != api.OK {
				t.Fatalf("%.20q %d %d %.60v %d", name, need, percent, b, e)
			}
		}
	})
}

// A size can be lower than the one before it when both are scaled; the first one that is high enough counts, and otherwise the last one.
func TestP6_1Uneven(t *testing.T) {
	for _, x := range []struct {
		name          string
		need, percent int
		want          variant.Choice
	}{
		{"s", 1, 50, variant.Choice{Glyph: "a"}}, {"s", 2, 50, variant.Choice{Glyph: "a"}}, {"s", 3, 50, variant.Choice{Glyph: "d"}}, {"s", 4, 50, variant.Choice{Glyph: "d"}}, {"s", 3, 100, variant.Choice{Glyph: "b"}},
		{"t", 2, 50, variant.Choice{Glyph: "a"}}, {"t", 3, 50, variant.Choice{Glyph: "b"}}, {"u", 2, 50, variant.Choice{Glyph: "a"}}, {"u", 3, 50, variant.Choice{Repeat: 1}}, {"u", 4, 50, variant.Choice{Repeat: 2}},
	} {
		if c, e := variant.Choose(uneven(), x.name, x.need, x.percent); c != x.want || e != api.OK {
			t.Error(x, c, e)
		}
	}
}

// What stands for a glyph that the font does not have is the size of a character.
func TestP6_1Unknown(t *testing.T) {
	for _, need := range []int{0, 5000, math.MaxInt, math.MinInt} {
		for _, name := range []string{"y", "", "\x00", strings.Repeat("x", 17)} {
			if c, e := variant.Choose(sample(), name, need, 70); c != (variant.Choice{Glyph: name}) || e != api.OK {
				t.Errorf("%.20q %v %d", name, c, e)
			}
			want := api.Box{Kind: api.BoxGlyph, Name: "?", Size: 70, W: 308, H: 408, D: 58}
			if b, e := variant.Find(sample(), name, need, 70); !equal(b, want) || e != api.OK {
				t.Errorf("%.20q %v %d", name, b, e)
			}
			want = api.Box{Kind: api.BoxGlyph, Name: name, Size: 70}
			if b, e := variant.Find(without(), name, need, 70); !equal(b, want) || e != api.OK {
				t.Errorf("%.20q %v %d", name, b, e)
			}
		}
	}
}

func TestP6_1Greatest(t *testing.T) {
	b, e := variant.Find(sample(), "great", math.MaxInt, 100)
	if e != api.OK || len(b.Kids) != 8000 || b.H != 8000*40000 || b.W != 40000 || b.Kids[7999].Y != 7999*40000+20000 {
		t.Error(len(b.Kids), b.H, b.W, e)
	}
	if c, e := variant.Choose(sample(), "great", 999*8*40000+1, 100); c != (variant.Choice{Repeat: 1000}) || e != api.OK {
		t.Error(c, e)
	}
}

// overwrite changes all that a box refers to.
func overwrite(b api.Box) {
	for i := range b.Kids {
		b.Kids[i] = api.Box{Kind: 77, Name: "changed"}
	}
	_ = append(b.Kids, api.Box{Kind: 78})
}

func TestP6_1Unchanged(t *testing.T) {
	for _, f := range append(fonts(), invalid()...) {
		before := copyOf(f)
		for _, name := range characters() {
			for _, percent := range []int{100, 33, 0} {
				for _, need := range []int{0, 1000, 5000, math.MaxInt} {
					c, _ := variant.Choose(f, name, need, percent)
					height, _ := variant.Height(f, name, c, percent)
					b, e := variant.Box(f, name, c, percent)
					overwrite(b)
					found, _ := variant.Find(f, name, need, percent)
					overwrite(found)
					if e != api.OK {
						continue
					}
					again, _ := variant.Find(f, name, need, percent)
					if again.H+again.D != height || !equal(again, boxOf(f, name, c, percent)) {
						t.Errorf("%.20q %d %d shares memory", name, need, percent)
					}
				}
			}
		}
		if !reflect.DeepEqual(f, before) {
			t.Error("a font has changed")
		}
	}
}

func TestP6_2Covering(t *testing.T) {
	each(80, func(f api.Font, name string, percent int) {
		_, totals := heights(f, name, percent)
		for i, n := range totals {
			if i > 20 && i%301 > 0 {
				continue
			}
			for _, need := range []int{n, n - 1, n - 100} {
				if b, e := variant.Find(f, name, need, percent); b.H+b.D < need || e != api.OK {
					t.Fatalf("%.20q %d %d %d %d", name, need, percent, b.H+b.D, e)
				}
			}
		}
		greatest := slices.Max(totals)
		if b, e := variant.Find(f, name, greatest, percent); b.H+b.D != greatest || e != api.OK {
			t.Fatalf("%.20q %d %d %d %d", name, greatest, percent, b.H+b.D, e)
		}
	})
}

func TestP6_3Least(t *testing.T) {
	each(400, func(f api.Font, name string, percent int) {
		sizes, _, _ := stretch(f, name)
		_, totals := heights(f, name, percent)
		for _, need := range needs(totals) {
			c, e := variant.Choose(f, name, need, percent)
			if e != api.OK {
				t.Fatal(name, need, e)
			}
			for _, size := range sizes {
				if c.Repeat == 0 && size == c.Glyph {
					break
				}
				if n, e := variant.Height(f, name, variant.Choice{Glyph: size}, percent); n >= need || e != api.OK {
					t.Fatalf("%.20q %d %d %v %s %d", name, need, percent, c, size, n)
				}
			}
			if c.Repeat < 2 {
				continue
			}
			if n, e := variant.Height(f, name, variant.Choice{Repeat: c.Repeat - 1}, percent); n >= need || e != api.OK {
				t.Fatalf("%.20q %d %d %v %d", name, need, percent, c, n)
			}
		}
	})
}

func TestP6_4Growth(t *testing.T) {
	each(400, func(f api.Font, name string, percent int) {
		_, totals := heights(f, name, percent)
		list := needs(totals)
		slices.Sort(list)
		greatest := math.MinInt
		for _, need := range list {
			c, _ := variant.Choose(f, name, need, percent)
			n, e := variant.Height(f, name, c, percent)
			if e != api.OK || n >= need && n < greatest {
				t.Fatalf("%.20q %d %d %d %d", name, need, percent, n, greatest)
			}
			greatest = max(greatest, n)
		}
	})
}

// An assembly is higher than one with fewer repetitions, before it is scaled.
func TestP6_4Repetitions(t *testing.T) {
	each(300, func(f api.Font, name string, percent int) {
		choices, _ := heights(f, name, 100)
		last, lastScaled := math.MinInt, math.MinInt
		for _, c := range choices {
			if c.Repeat == 0 || c.Repeat > 60 && c.Repeat%17 > 0 && c.Repeat < 999 {
				continue
			}
			n, e := variant.Height(f, name, c, 100)
			m, _ := variant.Height(f, name, c, percent)
			if n <= last || m < lastScaled || e != api.OK {
				t.Fatalf("%.20q %v %d %d", name, c, n, m)
			}
			last, lastScaled = n, m
		}
	})
}

func TestP6_5Pieces(t *testing.T) {
	r := rand.New(rand.NewSource(65))
	each(300, func(f api.Font, name string, percent int) {
		_, l, _ := stretch(f, name)
		if len(l) == 0 {
			return
		}
		for _, repeat := range []int{1, 2, 3, 1 + r.Intn(60), 1 + r.Intn(1000)} {
			b, e := variant.Box(f, name, variant.Choice{Repeat: repeat}, percent)
			if e != api.OK || b.Kind != api.BoxList || b.D != 0 || len(b.Kids) != len(names(l, repeat)) {
				t.Fatal(name, repeat, percent, len(b.Kids), e)
			}
			last := 0
			for i, piece := range b.Kids {
				bottom, top := piece.Y-piece.D, piece.Y+piece.H
				if bottom < last || i == 0 && bottom != 0 || top > b.H+2 || piece.X != 0 || piece.W > b.W {
					t.Fatal(name, repeat, percent, i, bottom, top, last, b.H)
				}
				last = bottom
			}
		}
	})
}
