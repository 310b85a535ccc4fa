package codec_test

import (
	"bytes"
	"math"
	"math/big"
	"math/rand"
	"reflect"
	"runtime"
	"strings"
	"testing"

	"vinculum/api"
	"vinculum/codec"
)

type value = codec.Value

func integer(n int) value          { return value{Kind: codec.KindInt, Int: n} }
func text(s string) value          { return value{Kind: codec.KindText, Text: s} }
func list(elements ...value) value { return value{Kind: codec.KindList, List: elements} }

// nested returns a value that is n lists deeper than the given one.
func nested(n int, v value) value {
	for range n {
		v = list(v)
	}
	return v
}

// repeated returns a list of n times a value.
func repeated(n int, v value) value {
	l := list()
	for range n {
		l.List = append(l.List, v)
	}
	return l
}

// encoding follows the definition of the chapter, with numbers of any size.
func encoding(v value) []byte {
	n := new(big.Int)
	switch v.Kind {
	case codec.KindInt:
		n.Mul(big.NewInt(int64(v.Int)), big.NewInt(2))
		if v.Int < 0 {
			n.Neg(n).Sub(n, big.NewInt(1))
		}
	case codec.KindText:
		n.SetInt64(int64(len(v.Text)))
	case codec.KindList:
		n.SetInt64(int64(len(v.List)))
	}
	b := []byte{byte(64*v.Kind) + byte(n.Int64())}
	if n.Cmp(big.NewInt(56)) >= 0 {
		number := n.Bytes()
		b = append([]byte{byte(64*v.Kind + 55 + len(number))}, number...)
	}
	b = append(b, v.Text...)
	for _, x := range v.List {
		b = append(b, encoding(x)...)
	}
	return b
}

func integers() []int {
	l := []int{0, 27, 28, 29, -27, -28, -29, 100, -100, math.MaxInt, math.MinInt, math.MinInt + 1}
	for k := range 63 {
		l = append(l, 1<<k, 1<<k-1, -1<<k, -1<<k-1, 1<<k+1, -1<<k+1)
	}
	return l
}

var lengths = []int{0, 1, 2, 54, 55, 56, 57, 255, 256, 257, 65535, 65536, 65537}

// valid returns valid values of all kinds, with all lengths of heads, and with all depths.
func valid() []value {
	var l []value
	for _, n := range integers() {
		l = append(l, integer(n), list(integer(n), integer(-n)))
	}
	for c := range 256 {
		l = append(l, text(string([]byte{byte(c)})))
	}
	for _, n := range lengths {
		l = append(l, text(strings.Repeat("x", n)), text(strings.Repeat("\x00\xff", n)), repeated(n, integer(-1)), repeated(n, list()))
	}
	for n := range 64 {
		l = append(l, nested(n, integer(n)), nested(n, text("ab")), nested(n, list()), list(integer(1), nested(n/2, text("é")), text("")))
	}
	return l
}

// invalid returns values that are not valid: with other kinds, with fields of other kinds, and too deep, at all depths.
func invalid() []value {
	var l []value
	for _, v := range []value{
		{}, {Kind: 4}, {Kind: -1}, {Kind: 64 + codec.KindInt}, {Kind: math.MaxInt}, {Kind: math.MinInt}, {Int: 1}, {Text: "a"}, {List: []value{integer(1)}},
		{Kind: codec.KindInt, Int: 1, Text: "a"}, {Kind: codec.KindInt, Text: "a"}, {Kind: codec.KindInt, List: []value{integer(1)}},
		{Kind: codec.KindText, Int: 1}, {Kind: codec.KindText, Text: "a", Int: -1}, {Kind: codec.KindText, Text: "a", List: []value{text("b")}},
		{Kind: codec.KindList, Int: 1}, {Kind: codec.KindList, Text: "a"}, {Kind: codec.KindList, Int: 2, List: []value{integer(1), integer(2)}},
	} {
		l = append(l, v, list(v), list(integer(1), v), list(v, integer(1)), list(list(), list(v), text("")), nested(62, v), nested(63, v))
	}
	for n := 64; n < 70; n++ {
		l = append(l, nested(n, integer(1)), nested(n, text("")), nested(n, list()), list(integer(1), nested(n, text("a"))))
	}
	return append(l, nested(1000, integer(0)), nested(1<<16, list()))
}

func TestP3_1Valid(t *testing.T) {
	for i, v := range valid() {
		if !codec.Valid(v) {
			t.Error(i)
		}
	}
	for i, v := range invalid() {
		if codec.Valid(v) {
			t.Error(i)
		}
	}
	// Nil and empty lists are equal.
	for _, v := range []value{{Kind: codec.KindInt, Int: 3, List: []value{}}, {Kind: codec.KindText, List: []value{}}, {Kind: codec.KindList, List: []value{}}} {
		if !codec.Valid(v) {
			t.Error(v)
		}
	}
}

func TestP3_1Depth(t *testing.T) {
	deep := nested(10, integer(1))
	for i, x := range []struct {
		v    value
		want int
	}{
		{integer(5), 1}, {text(""), 1}, {text("ab"), 1}, {list(), 1}, {value{Kind: codec.KindList, List: []value{}}, 1},
		{list(integer(1)), 2}, {list(list()), 2}, {list(integer(1), list(), list(list()), text("a")), 3}, {list(list(list(list())), list()), 4},
		{list(deep, integer(1)), 12}, {list(integer(1), deep), 12}, {nested(63, integer(1)), 64}, {nested(64, integer(1)), 65}, {nested(64, list()), 65}, {nested(1<<16, integer(1)), 1<<16 + 1},
		// Values of other kinds have no elements, and neither have integers and texts.
		{value{}, 1}, {value{Kind: 4}, 1}, {value{Kind: -3, List: []value{deep}}, 1}, {value{Kind: 0, List: []value{deep}}, 1}, {list(value{Kind: 4, List: []value{deep}}), 2},
		{value{Kind: codec.KindInt, List: []value{deep}}, 1}, {value{Kind: codec.KindText, List: []value{deep}}, 1}, {list(value{Kind: codec.KindInt, List: []value{deep}}), 2},
		// The depth of a list does not depend on its other fields.
		{value{Kind: codec.KindList, Int: 7, Text: "a", List: []value{integer(1)}}, 2},
	} {
		if got := codec.Depth(x.v); got != x.want {
			t.Error(i, got, x.want)
		}
	}
}

func TestP3_1Equal(t *testing.T) {
	// No two of these are equal.
	different := []value{
		{}, {Kind: 4}, {Kind: -4}, {Int: 1}, {Text: "a"}, {List: []value{{}}}, {List: []value{{}, {}}}, {List: []value{integer(1)}},
		integer(0), integer(1), integer(-1), integer(math.MaxInt), integer(math.MinInt), text(""), text("a"), text("b"), text("ab"), text("A"), text("\xff"), text("\xfe"), list(),
		list(integer(0)), list(integer(1)), list(text("")), list(list()), list(integer(1), integer(2)), list(integer(2), integer(1)), list(integer(1), integer(2), integer(2)), list(list(integer(1)), integer(2)), list(list(integer(1), integer(2))), list(integer(1), list(integer(2))),
		{Kind: codec.KindInt, Int: 1, Text: "a"}, {Kind: codec.KindInt, Int: 1, List: []value{integer(1)}}, {Kind: codec.KindInt, Int: 1, List: []value{integer(2)}},
		{Kind: codec.KindText, Int: 1, Text: "a"}, {Kind: codec.KindText, Text: "a", List: []value{{}}}, {Kind: codec.KindList, Int: 1}, {Kind: codec.KindList, Text: "a"}, {Kind: codec.KindList, Text: "a", List: []value{{Text: "a"}}},
		nested(64, integer(1)), nested(64, integer(2)), nested(65, integer(1)), nested(1000, list()), nested(1<<16, text("a")), nested(1<<16, text("b")),
	}
	for i, a := range different {
		for j, b := range different {
			if codec.Equal(a, b) != (i == j) {
				t.Error(i, j)
			}
		}
		if !codec.Equal(a, copyOf(a)) {
			t.Error(i)
		}
	}
	for _, v := range different {
		if len(v.List) == 0 {
			empty := v
			v.List, empty.List = nil, []value{}
			if !codec.Equal(v, empty) || !codec.Equal(empty, v) || !codec.Equal(list(integer(1), v), list(integer(1), empty)) {
				t.Error(v)
			}
		}
	}
}

// copyOf returns an equal value that shares no memory with the given one.
func copyOf(v value) value {
	v.Text = strings.Clone(v.Text)
	if v.List != nil {
		elements := make([]value, len(v.List))
		for i, x := range v.List {
			elements[i] = copyOf(x)
		}
		v.List = elements
	}
	return v
}

func TestP3_2Examples(t *testing.T) {
	for _, x := range []struct {
		v    value
		want []byte
	}{
		{integer(0), []byte{64}}, {integer(-1), []byte{65}}, {integer(1), []byte{66}}, {integer(27), []byte{118}}, {integer(-28), []byte{119}}, {integer(28), []byte{120, 56}}, {integer(-29), []byte{120, 57}},
		{integer(127), []byte{120, 254}}, {integer(-128), []byte{120, 255}}, {integer(128), []byte{121, 1, 0}}, {integer(math.MaxInt), []byte{127, 255, 255, 255, 255, 255, 255, 255, 254}}, {integer(math.MinInt), []byte{127, 255, 255, 255, 255, 255, 255, 255, 255}},
		{text(""), []byte{128}}, {text("ab"), []byte{130, 97, 98}}, {text("\x00\xff"), []byte{130, 0, 255}}, {list(), []byte{192}}, {list(integer(1), text("")), []byte{194, 66, 128}}, {list(list(integer(0)), list()), []byte{194, 193, 64, 192}},
		{text(strings.Repeat("a", 55)), append([]byte{183}, strings.Repeat("a", 55)...)}, {text(strings.Repeat("a", 56)), append([]byte{184, 56}, strings.Repeat("a", 56)...)}, {text(strings.Repeat("a", 256)), append([]byte{185, 1, 0}, strings.Repeat("a", 256)...)},
		{repeated(55, integer(0)), append([]byte{247}, strings.Repeat("@", 55)...)}, {repeated(56, integer(0)), append([]byte{248, 56}, strings.Repeat("@", 56)...)}, {repeated(65536, integer(0)), append([]byte{250, 1, 0, 0}, strings.Repeat("@", 65536)...)},
	} {
		if got, e := codec.Encode(x.v); !bytes.Equal(got, x.want) || e != api.OK {
			t.Error(x.want, got, e)
		}
		if got, e := codec.Decode(x.want); !codec.Equal(got, x.v) || e != api.OK {
			t.Error(x.want, e)
		}
	}
}

func TestP3_2Encode(t *testing.T) {
	for i, v := range valid() {
		before := copyOf(v)
		if got, e := codec.Encode(v); !bytes.Equal(got, encoding(v)) || e != api.OK {
			t.Error(i, e)
		}
		if !reflect.DeepEqual(v, before) {
			t.Error(i)
		}
	}
}

func TestP3_2Errors(t *testing.T) {
	for i, v := range invalid() {
		if got, e := codec.Encode(v); len(got) != 0 || e != api.ErrArg {
			t.Error(i, len(got), e)
		}
	}
	// The heads of the text and of the list have 4 bytes, and that of the last one has 1.
	great := strings.Repeat("a", api.MaxFile-4)
	for i, x := range []struct {
		v    value
		want api.Errno
	}{
		{text(great), api.OK}, {text(great + "a"), api.ErrLimit}, {text(great + great), api.ErrLimit}, {list(text(great[1:])), api.OK}, {list(text(great)), api.ErrLimit},
		{list(text(great[2:]), list()), api.OK}, {list(text(great[1:]), list()), api.ErrLimit}, {list(list(), text(great[1:])), api.ErrLimit}, {list(text(great[1:]), text("")), api.ErrLimit}, {list(text(great[1:]), integer(0)), api.ErrLimit},
		{repeated(api.MaxFile-4, integer(0)), api.OK}, {repeated(api.MaxFile-3, integer(0)), api.ErrLimit}, {repeated(api.MaxFile-5, integer(28)), api.ErrLimit}, {repeated((api.MaxFile-4)/2, integer(28)), api.OK},
		{repeated(1<<20, text(great)), api.ErrLimit},
		// An invalid value is found first.
		{list(text(great), value{}), api.ErrArg}, {list(text(great), text(great), nested(63, integer(1))), api.ErrArg},
	} {
		got, e := codec.Encode(x.v)
		if e != x.want || (e == api.OK) != (len(got) == api.MaxFile) || e != api.OK && len(got) > 0 {
			t.Error(i, len(got), e)
		}
	}
}

func TestP3_3Decode(t *testing.T) {
	for i, v := range valid() {
		b := encoding(v)
		got, e := codec.Decode(b)
		if !codec.Equal(got, v) || e != api.OK {
			t.Error(i, e)
		}
		if !bytes.Equal(b, encoding(v)) {
			t.Error(i)
		}
		clear(b)
		if !codec.Equal(got, v) {
			t.Error(i, "shares memory")
		}
	}
	for _, b := range [][]byte{encoding(text(strings.Repeat("a", api.MaxFile-4))), encoding(repeated(api.MaxFile-4, list()))} {
		if got, e := codec.Decode(b); !bytes.Equal(encoding(got), b) || e != api.OK {
			t.Error(e)
		}
	}
}

// broken are beginnings of nothing.
var broken = [][]byte{
	nil, {}, {0}, {1}, {55}, {56, 200}, {63}, {120}, {120, 0}, {120, 55}, {121}, {121, 56}, {121, 0, 56}, {121, 0, 255}, {122, 0, 1, 0}, {122, 1, 0}, {127}, {127, 1, 2, 3, 4, 5, 6, 7}, {127, 0, 255, 255, 255, 255, 255, 255, 255}, {127, 0, 0, 0, 0, 0, 0, 0, 56},
	{129}, {130, 97}, {184}, {184, 1, 97}, {184, 55}, {184, 56, 97}, {185, 0, 56}, {191, 255, 255, 255, 255, 255, 255, 255, 255, 97}, {191, 128, 0, 0, 0, 0, 0, 0, 0}, {188, 1, 0, 0, 0, 0}, {187, 255, 255, 255, 255, 97},
	{193}, {193, 0}, {193, 120, 55}, {194, 64}, {194, 64, 0}, {194, 0, 64}, {193, 194, 64}, {193, 129}, {194, 193, 64}, {248}, {248, 1, 64}, {248, 56, 64}, {249, 0, 56}, {255, 255, 255, 255, 255, 255, 255, 255, 255, 64}, {255, 128, 0, 0, 0, 0, 0, 0, 0}, {255, 128, 0, 0, 0, 0, 0, 0, 1, 64},
}

func TestP3_3Errors(t *testing.T) {
	full := append([]byte{184, 55}, strings.Repeat("a", 55)...)
	tail := func(v value, more ...byte) []byte { return append(encoding(v), more...) }
	bad := append([][]byte{
		full, append([]byte{248, 55}, strings.Repeat("@", 55)...), append([]byte{185, 0, 200}, strings.Repeat("a", 200)...), append([]byte{249, 0, 200}, strings.Repeat("@", 200)...),
		{64, 64}, {64, 0}, {128, 97}, {192, 192}, {193, 64, 64}, {120, 56, 0}, {130, 97, 98, 99}, tail(list(integer(1), text("ab")), 64), tail(text(strings.Repeat("a", 60)), 0),
	}, broken...)
	for n := 64; n < 70; n++ {
		bad = append(bad, encoding(nested(n, integer(1))), encoding(nested(n, list())), encoding(nested(n, text("a"))), encoding(list(integer(1), nested(n-1, list()))))
	}
	bad = append(bad, bytes.Repeat([]byte{193}, 64), bytes.Repeat([]byte{193}, 65), bytes.Repeat([]byte{193}, api.MaxFile), bytes.Repeat([]byte{255}, api.MaxFile), make([]byte, api.MaxFile),
		encoding(text(strings.Repeat("a", api.MaxFile-3))), encoding(repeated(api.MaxFile-3, integer(0))), encoding(text(strings.Repeat("a", 2*api.MaxFile))), encoding(list(text(strings.Repeat("a", api.MaxFile)), integer(0))))
	for i, b := range bad {
		before := bytes.Clone(b)
		if v, e := codec.Decode(b); !reflect.DeepEqual(v, value{}) || e != api.ErrForm {
			t.Error(i, e)
		}
		if !bytes.Equal(b, before) {
			t.Error(i)
		}
	}
}

// Bytes that claim to be lists of lists with as many elements as there are bytes must not be believed.
func TestP3_3Claims(t *testing.T) {
	var b []byte
	for range 63 {
		b = append(b, 250, 15, 0, 0)
	}
	b = append(b, bytes.Repeat([]byte{64}, api.MaxFile-len(b)-1)...)
	var before, after runtime.MemStats
	runtime.ReadMemStats(&before)
	v, e := codec.Decode(append(b, 0))
	runtime.ReadMemStats(&after)
	if !reflect.DeepEqual(v, value{}) || e != api.ErrForm {
		t.Error(e)
	}
	if used := after.TotalAlloc - before.TotalAlloc; used > 1<<29 {
		t.Error(used)
	}
}

func TestP3_4Next(t *testing.T) {
	rests := [][]byte{nil, {0}, {64}, {255, 255}, {120, 55}, encoding(list(integer(1), text("ab"))), bytes.Repeat([]byte{193}, 100)}
	values := append(valid(), text(strings.Repeat("a", api.MaxFile)), repeated(api.MaxFile, integer(0)), list(text(strings.Repeat("a", api.MaxFile)), integer(28)))
	for i, v := range values {
		for j, rest := range rests {
			b := append(encoding(v), rest...)
			got, left, e := codec.Next(b)
			if !codec.Equal(got, v) || !bytes.Equal(left, rest) || e != api.OK {
				t.Error(i, j, e)
			}
			clear(b)
			if !codec.Equal(got, v) || !bytes.Equal(left, rest) {
				t.Error(i, j, "shares memory")
			}
		}
	}
	b := append(encoding(integer(1)), 66, 67)
	_, left, _ := codec.Next(b)
	clear(left)
	if !bytes.Equal(b, []byte{66, 66, 67}) {
		t.Error(b)
	}
}

func TestP3_4Errors(t *testing.T) {
	bad := append([][]byte{{120, 55, 64, 64}, {0, 64}, {193, 0, 64}, {193, 185, 0, 56, 64}, {121, 0, 200, 64}, make([]byte, 2*api.MaxFile), bytes.Repeat([]byte{193}, 2*api.MaxFile)}, broken...)
	for n := 64; n < 70; n++ {
		bad = append(bad, encoding(nested(n, integer(1))), append(encoding(nested(n, list())), 64), encoding(list(integer(1), nested(n-1, text("")))))
	}
	for i, b := range bad {
		before := bytes.Clone(b)
		if v, rest, e := codec.Next(b); !reflect.DeepEqual(v, value{}) || len(rest) > 0 || e != api.ErrForm {
			t.Error(i, e)
		}
		if !bytes.Equal(b, before) {
			t.Error(i)
		}
	}
}

// The encodings of up to 3 bytes can be counted: integers, texts, and lists of one, two and three shorter encodings.
func TestP3_5Counts(t *testing.T) {
	const one = 56 + 1 + 1
	const two = 256 - 56 + 256 + one
	const three = 65536 - 256 + 65536 + two + one*one
	counts := make([]int, 4)
	var visit func(b []byte)
	visit = func(b []byte) {
		if v, e := codec.Decode(b); e == api.OK {
			counts[len(b)]++
			if !codec.Valid(v) || len(b) < 3 && !bytes.Equal(encoding(v), b) {
				t.Error(b, v)
			}
			// What follows would have an encoding as its proper beginning.
			if len(b) == 2 && (decodes(b, 0) || decodes(b, 64) || decodes(b, 255)) {
				t.Error(b)
			}
		}
		if len(b) == 3 {
			return
		}
		for c := range 256 {
			visit(append(b, byte(c)))
		}
	}
	visit(make([]byte, 0, 4))
	if counts[0] != 0 || counts[1] != one || counts[2] != two || counts[3] != three {
		t.Error(counts, one, two, three)
	}
}

func decodes(b []byte, more byte) bool {
	_, e := codec.Decode(append(bytes.Clone(b), more))
	return e == api.OK
}

// Bytes that begin heads of all lengths, in all orders.
func TestP3_5Decoded(t *testing.T) {
	alphabet := []byte{0, 1, 55, 56, 57, 64, 65, 119, 120, 121, 122, 127, 128, 129, 130, 183, 184, 185, 192, 193, 194, 247, 248, 255}
	decoded := 0
	var visit func(b []byte)
	visit = func(b []byte) {
		if v, e := codec.Decode(b); e == api.OK {
			decoded++
			again, f := codec.Encode(v)
			if !bytes.Equal(again, b) || f != api.OK || !bytes.Equal(encoding(v), b) {
				t.Error(b, v, again)
			}
		}
		if len(b) == 4 {
			return
		}
		for _, c := range alphabet {
			visit(append(b, c))
		}
	}
	visit(make([]byte, 0, 4))
	if decoded < 1000 {
		t.Error(decoded)
	}
}

func TestP3_5Beginnings(t *testing.T) {
	seen := map[string]bool{}
	for i, v := range valid() {
		b, e := codec.Encode(v)
		if e != api.OK {
			t.Fatal(i, e)
		}
		seen[string(b)] = true
		got, e := codec.Decode(b)
		if !codec.Equal(got, v) || e != api.OK {
			t.Error(i, e)
		}
		for n := range len(b) {
			if n > 80 && n < len(b)-9 {
				continue
			}
			if _, e := codec.Decode(b[:n]); e != api.ErrForm {
				t.Error(i, n, e)
			}
			if _, _, e := codec.Next(b[:n]); e != api.ErrForm {
				t.Error(i, n, e)
			}
		}
	}
	for s := range seen {
		for n := range min(len(s), 200) {
			if seen[s[:n]] {
				t.Error([]byte(s), n)
			}
		}
	}
}

// random returns a valid value of at most the given depth.
func random(r *rand.Rand, depth int) value {
	switch kind := r.Intn(3); {
	case kind == 0:
		return integer(int(r.Uint64()) >> r.Intn(64))
	case kind == 1 || depth < 2:
		b := make([]byte, r.Intn(1+r.Intn(80)))
		r.Read(b)
		return text(string(b))
	}
	v := list()
	for range r.Intn(1 + r.Intn(70)) {
		v.List = append(v.List, random(r, depth-1))
		depth = max(1, depth-1)
	}
	return v
}

func TestP3_5Random(t *testing.T) {
	r := rand.New(rand.NewSource(3))
	for range 3000 {
		v := random(r, 8)
		b, e := codec.Encode(v)
		if !bytes.Equal(b, encoding(v)) || e != api.OK {
			t.Fatal(v, e)
		}
		if got, e := codec.Decode(b); !codec.Equal(got, v) || e != api.OK {
			t.Fatal(v, e)
		}
		// Whatever is decoded after a change is the encoding of the result, and whatever is not leaves no value.
		b[r.Intn(len(b))] = byte(r.Intn(256))
		switch got, e := codec.Decode(b); {
		case e == api.OK:
			if !codec.Valid(got) || !bytes.Equal(encoding(got), b) {
				t.Fatal(b, got)
			}
		case e != api.ErrForm || !reflect.DeepEqual(got, value{}):
			t.Fatal(b, got, e)
		}
		if got, rest, e := codec.Next(b); e == api.OK && (!codec.Valid(got) || !bytes.Equal(append(encoding(got), rest...), b)) {
			t.Fatal(b, got, rest)
		}
	}
}

func TestP3_6Streams(t *testing.T) {
	r := rand.New(rand.NewSource(6))
	var streams [][]value
	for range 300 {
		var stream []value
		for range 1 + r.Intn(9) {
			stream = append(stream, random(r, 5))
		}
		streams = append(streams, stream)
	}
	great := text(strings.Repeat("a", api.MaxFile-4))
	streams = append(streams, []value{great, great, integer(1), great}, []value{list(), list(), integer(0), text("")}, []value{nested(63, list()), nested(63, integer(1)), nested(63, text("a"))})
	for i, stream := range streams {
		var b []byte
		for _, v := range stream {
			part, e := codec.Encode(v)
			if e != api.OK {
				t.Fatal(i, e)
			}
			b = append(b, part...)
		}
		for j, v := range stream {
			got, rest, e := codec.Next(b)
			if !codec.Equal(got, v) || e != api.OK || !bytes.Equal(rest, b[len(encoding(v)):]) {
				t.Fatal(i, j, e)
			}
			b = rest
		}
		if v, rest, e := codec.Next(b); !reflect.DeepEqual(v, value{}) || len(rest) > 0 || e != api.ErrForm {
			t.Error(i, e)
		}
	}
}
