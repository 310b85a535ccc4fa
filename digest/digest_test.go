package digest_test

import (
	"bytes"
	"encoding/binary"
	"hash/fnv"
	"math"
	"math/rand"
	"reflect"
	"slices"
	"strings"
	"testing"

	"vinculum/api"
	"vinculum/digest"
)

// starts are digests to begin with.
var starts = []uint64{0, 1, 255, 256, digest.Start, 1 << 32, 1 << 63, math.MaxInt64, math.MaxUint64 - 1, math.MaxUint64}

var numbers = []int{
	0, 1, 2, 7, 12, 13, 127, 128, 255, 256, 65535, 65536, 1 << 32, 1<<56 - 1, 1 << 56, math.MaxInt,
	-1, -2, -128, -256, -257, -1 << 32, math.MinInt + 1, math.MinInt,
}

var texts = []string{
	"", "a", "b", "ab", "ba", "\x00", "\x00\x00", "\x00\x00\x00\x00\x00\x00\x00\x01", "\xff", "\xc3", "é", "\U0001f600", "alpha", "12.5", "()",
	strings.Repeat("a", api.MaxText), strings.Repeat("a", 255), strings.Repeat("a", 256), strings.Repeat("\xff", 100000),
}

// byteStrings are the texts as bytes, all strings of one byte, and some more.
func byteStrings() [][]byte {
	l := [][]byte{nil, {}, make([]byte, 1000), bytes.Repeat([]byte{255}, 1000), {128, 129}, {1, 0}, {0, 1}}
	for c := range 256 {
		l = append(l, []byte{byte(c)})
	}
	for _, s := range texts {
		l = append(l, []byte(s))
	}
	return l
}

// hashed returns the digest of a byte string, as the standard library computes it.
func hashed(b []byte) uint64 {
	h := fnv.New64a()
	h.Write(b)
	return h.Sum64()
}

// joined returns the digest of a node, from bytes that are put together by another package.
func joined(kind int, text string, cols int, kids []uint64) uint64 {
	b := binary.BigEndian.AppendUint64(nil, uint64(kind))
	b = binary.BigEndian.AppendUint64(b, uint64(len(text)))
	b = append(b, text...)
	b = binary.BigEndian.AppendUint64(b, uint64(cols))
	b = binary.BigEndian.AppendUint64(b, uint64(len(kids)))
	for _, kid := range kids {
		b = binary.BigEndian.AppendUint64(b, kid)
	}
	return hashed(b)
}

// digested returns the digest of a tree.
func digested(n api.Node) uint64 {
	var kids []uint64
	for _, kid := range n.Kids {
		kids = append(kids, digested(kid))
	}
	return joined(n.Kind, n.Text, n.Cols, kids)
}

func row(items ...api.Node) api.Node { return api.Node{Kind: api.NodeRow, Kids: items} }

func symbol(s string) api.Node { return api.Node{Kind: api.NodeSym, Text: s} }

func of(kind int, slots ...api.Node) api.Node { return api.Node{Kind: kind, Kids: slots} }

func fence(text string, body api.Node) api.Node {
	return api.Node{Kind: api.NodeFence, Text: text, Kids: []api.Node{body}}
}

func matrix(cols int, cells ...api.Node) api.Node {
	return api.Node{Kind: api.NodeMatrix, Cols: cols, Kids: cells}
}

// nested returns a node inside of n rows.
func nested(n int, inner api.Node) api.Node {
	for range n {
		inner = row(inner)
	}
	return inner
}

// formulas are valid trees.
func formulas() []api.Node {
	x, a, b := row(symbol("x")), row(symbol("a")), row(symbol("b"))
	return []api.Node{
		row(), x, a, row(symbol("a"), symbol("b")), row(symbol("b"), symbol("a")), row(symbol("alpha")),
		row(api.Node{Kind: api.NodeNum, Text: "1"}), row(symbol("1")), row(api.Node{Kind: api.NodeText, Text: "1"}), row(api.Node{Kind: api.NodeText}),
		row(of(api.NodeFrac, a, b)), row(of(api.NodeFrac, b, a)), row(of(api.NodeFrac, row(), row())), row(of(api.NodeRoot, row(), x)), row(of(api.NodeRoot, x, row())),
		row(of(api.NodeSub, a, b)), row(of(api.NodeSup, a, b)), row(of(api.NodeBoth, x, a, b)), row(of(api.NodeBoth, x, b, a)),
		row(api.Node{Kind: api.NodeAccent, Text: "hat", Kids: []api.Node{x}}), row(fence("()", x)), row(fence("[]", x)), row(fence("()", row())),
		row(matrix(1, a, b)), row(matrix(2, a, b)), row(matrix(2, a, b, x, row())), row(matrix(4, a, b, x, row())),
		row(of(api.NodeFrac, row(of(api.NodeFrac, a, b)), x)), row(of(api.NodeFrac, x, row(of(api.NodeFrac, a, b)))),
		row(slices.Repeat([]api.Node{symbol("x")}, api.MaxRow)...), row(slices.Repeat([]api.Node{symbol("x")}, api.MaxRow-1)...),
	}
}

// others are trees that are not valid.
func others() []api.Node {
	l := []api.Node{
		{}, {Kind: 1, Text: "a"}, {Kind: 1, Cols: 1}, {Kind: -1}, {Kind: 13}, {Text: "a"}, {Cols: 1}, {Cols: -1}, symbol("x"), symbol(""), symbol("\xff\x00"),
		of(api.NodeFrac), of(api.NodeFrac, row()), of(api.NodeFrac, symbol("a"), symbol("b")), of(api.NodeSym, row()), row(row()), row(row(), row()), row(row(row())), row(api.Node{}), row(api.Node{}, api.Node{}), of(0, api.Node{}),
		{Kind: math.MinInt, Text: strings.Repeat("x", 1000), Cols: math.MaxInt, Kids: []api.Node{{Kind: math.MaxInt, Cols: math.MinInt}, {}, {Kind: -7}}},
		nested(api.MaxDepth, row()), nested(1000, symbol("x")), nested(1001, symbol("x")), nested(1<<16, row()),
		row(slices.Repeat([]api.Node{symbol("x")}, 3000)...), row(slices.Repeat([]api.Node{row(symbol("x"), row())}, 3000)...),
	}
	for _, n := range numbers {
		l = append(l, api.Node{Kind: n}, api.Node{Kind: api.NodeMatrix, Cols: n}, row(api.Node{Kind: n, Cols: n, Text: "a"}))
	}
	for _, s := range texts {
		l = append(l, symbol(s), api.Node{Kind: api.NodeRow, Text: s, Cols: 2, Kids: []api.Node{symbol(s), fence(s, row(symbol(s)))}})
	}
	return l
}

func trees() []api.Node { return append(formulas(), others()...) }

// copyOf returns a tree that shares no lists with another one.
func copyOf(n api.Node) api.Node {
	n.Kids = slices.Clone(n.Kids)
	for i, kid := range n.Kids {
		n.Kids[i] = copyOf(kid)
	}
	return n
}

func TestP4_1Examples(t *testing.T) {
	const start uint64 = digest.Start
	if start != 0xcbf29ce484222325 {
		t.Error(start)
	}
	for s, want := range map[string]uint64{
		"": 0xcbf29ce484222325, "a": 0xaf63dc4c8601ec8c, "b": 0xaf63df4c8601f1a5, "foobar": 0x85944171f73967e8,
	} {
		if got := digest.Bytes([]byte(s)); got != want {
			t.Errorf("%q %x", s, got)
		}
	}
	empty := digest.Bytes(append([]byte{0, 0, 0, 0, 0, 0, 0, 1}, make([]byte, 24)...))
	if got := digest.Tree(row()); got != empty {
		t.Errorf("%x %x", got, empty)
	}
	if got := digest.Tree(api.Node{Kind: api.NodeRow, Kids: []api.Node{}}); got != empty {
		t.Errorf("%x %x", got, empty)
	}
	// The bytes of a node with each of the parts, written out.
	want := digest.Bytes([]byte{
		255, 255, 255, 255, 255, 255, 255, 254,
		0, 0, 0, 0, 0, 0, 0, 3, 'a', 0, 255,
		0, 0, 0, 0, 0, 0, 1, 4,
		0, 0, 0, 0, 0, 0, 0, 2,
		1, 2, 3, 4, 5, 6, 7, 8, 255, 254, 253, 252, 251, 250, 249, 248,
	})
	if got := digest.Join(-2, "a\x00\xff", 260, []uint64{0x0102030405060708, 0xfffefdfcfbfaf9f8}); got != want {
		t.Errorf("%x %x", got, want)
	}
}

func TestP4_1Bytes(t *testing.T) {
	for _, b := range byteStrings() {
		before := bytes.Clone(b)
		if got, want := digest.Bytes(b), hashed(b); got != want {
			t.Errorf("%.40q %x %x", b, got, want)
		}
		if !bytes.Equal(b, before) {
			t.Errorf("%.40q has changed", b)
		}
	}
}

func TestP4_1Update(t *testing.T) {
	for _, h := range starts {
		for _, b := range byteStrings() {
			before := bytes.Clone(b)
			want := h
			for _, c := range b {
				// 0x100000001b3 is 2^40 + 435.
				want ^= uint64(c)
				want = want<<40 + want*435
			}
			if got := digest.Update(h, b); got != want {
				t.Errorf("%x %.40q %x %x", h, b, got, want)
			}
			if !bytes.Equal(b, before) {
				t.Errorf("%.40q has changed", b)
			}
		}
	}
	if got := digest.Update(0, make([]byte, 100)); got != 0 {
		t.Error(got)
	}
}

func TestP4_1Join(t *testing.T) {
	great := make([]uint64, 70000)
	for i := range great {
		great[i] = uint64(i) << (i % 60)
	}
	lists := [][]uint64{nil, {}, {0}, {1}, {0, 0}, {1, 2}, {2, 1}, starts, slices.Repeat([]uint64{digest.Start}, api.MaxRow), great}
	check := func(kind int, text string, cols int, kids []uint64) {
		before := slices.Clone(kids)
		if got, want := digest.Join(kind, text, cols, kids), joined(kind, text, cols, kids); got != want {
			t.Errorf("%d %.40q %d %d: %x %x", kind, text, cols, len(kids), got, want)
		}
		if !slices.Equal(kids, before) {
			t.Errorf("%d kids have changed", len(kids))
		}
	}
	for _, kind := range numbers {
		for _, cols := range numbers {
			check(kind, "ab", cols, starts)
		}
	}
	for _, text := range texts {
		for _, kids := range lists {
			check(api.NodeMatrix, text, 3, kids)
		}
	}
}

func TestP4_1Tree(t *testing.T) {
	for i, n := range trees() {
		before := copyOf(n)
		if got, want := digest.Tree(n), digested(n); got != want {
			t.Errorf("%d %x %x", i, got, want)
		}
		if !reflect.DeepEqual(n, before) {
			t.Error(i, "has changed")
		}
	}
}

// What is next to each other in the bytes of a node is told apart, and so are trees with the same items in other rows.
func TestP4_1Different(t *testing.T) {
	seen := map[uint64]api.Node{}
	for i, n := range trees() {
		h := digest.Tree(n)
		if other, ok := seen[h]; ok && !sameTree(n, other) {
			t.Error(i)
		}
		seen[h] = n
	}
}

func sameTree(a, b api.Node) bool {
	return a.Kind == b.Kind && a.Text == b.Text && a.Cols == b.Cols && slices.EqualFunc(a.Kids, b.Kids, sameTree)
}

func TestP4_2Update(t *testing.T) {
	l := byteStrings()
	for _, a := range l {
		if digest.Update(digest.Start, a) != digest.Bytes(a) {
			t.Errorf("%.40q", a)
		}
		for _, b := range l {
			both := append(bytes.Clone(a), b...)
			if digest.Update(digest.Bytes(a), b) != digest.Bytes(both) {
				t.Errorf("%.40q %.40q", a, b)
			}
		}
	}
	r := rand.New(rand.NewSource(4))
	for range 2000 {
		b := make([]byte, r.Intn(300))
		r.Read(b)
		h, cut := r.Uint64(), r.Intn(len(b)+1)
		if digest.Update(digest.Update(h, b[:cut]), b[cut:]) != digest.Update(h, b) {
			t.Error(h, b, cut)
		}
	}
	for _, h := range starts {
		if digest.Update(h, nil) != h || digest.Update(h, []byte{}) != h {
			t.Error(h)
		}
	}
}

// everyNode checks that the digest of each node of a tree is that of Join, with digests that are known, and returns it.
func everyNode(t *testing.T, n api.Node) uint64 {
	kids := make([]uint64, len(n.Kids))
	for i, kid := range n.Kids {
		kids[i] = everyNode(t, kid)
	}
	h := digest.Join(n.Kind, n.Text, n.Cols, kids)
	// The digests of very deep trees are not computed again for each of their nodes.
	if len(kids) != 1 && digest.Tree(n) != h {
		t.Errorf("%d %.40q %d %d", n.Kind, n.Text, n.Cols, len(n.Kids))
	}
	return h
}

func TestP4_2Join(t *testing.T) {
	for i, n := range trees() {
		if h := everyNode(t, n); digest.Tree(n) != h {
			t.Error(i)
		}
	}
}

// A tree with a kid replaced has the digest of Join with one of the digests replaced.
func TestP4_2Replaced(t *testing.T) {
	for i, n := range formulas() {
		kids := make([]uint64, len(n.Kids))
		for j, kid := range n.Kids {
			kids[j] = digest.Tree(kid)
		}
		for j := range n.Kids {
			other, hashes := copyOf(n), slices.Clone(kids)
			other.Kids[j] = fence("[]", row(symbol("y")))
			hashes[j] = digest.Tree(other.Kids[j])
			h := digest.Tree(other)
			if h != digest.Join(n.Kind, n.Text, n.Cols, hashes) || h == digest.Tree(n) {
				t.Error(i, j)
			}
		}
	}
}

func TestP4_3OneByte(t *testing.T) {
	r := rand.New(rand.NewSource(43))
	random := make([]byte, 60)
	r.Read(random)
	for _, b := range [][]byte{{0}, {255}, {0, 0}, []byte("foobar"), make([]byte, 40), random} {
		for _, h := range starts {
			for at := range b {
				changed, seen := bytes.Clone(b), map[uint64]bool{}
				for c := range 256 {
					changed[at] = byte(c)
					seen[digest.Update(h, changed)] = true
				}
				if len(seen) != 256 {
					t.Errorf("%x %q %d: %d", h, b, at, len(seen))
				}
			}
		}
		for at := range b {
			changed := bytes.Clone(b)
			changed[at] ^= byte(1 + r.Intn(255))
			if digest.Bytes(changed) == digest.Bytes(b) {
				t.Errorf("%q %q", b, changed)
			}
		}
	}
}

// undone returns the number from which a digest results by the bytes.
func undone(h uint64, b []byte) uint64 {
	inverse := uint64(1)
	// Each step doubles the number of bits that are right.
	for range 6 {
		inverse *= 2 - 0x100000001b3*inverse
	}
	for _, c := range slices.Backward(b) {
		h = h*inverse ^ uint64(c)
	}
	return h
}

// If the number can be found from the result and the bytes, different numbers have different results.
func TestP4_3Numbers(t *testing.T) {
	r := rand.New(rand.NewSource(44))
	hashes := slices.Clone(starts)
	for range 20 {
		hashes = append(hashes, r.Uint64())
	}
	for _, b := range byteStrings() {
		seen := map[uint64]bool{}
		for _, h := range hashes {
			result := digest.Update(h, b)
			if undone(result, b) != h {
				t.Errorf("%x %.40q", h, b)
			}
			seen[result] = true
		}
		if len(seen) != len(hashes) {
			t.Errorf("%.40q", b)
		}
		for bit := range 64 {
			if digest.Update(1<<bit, b) == digest.Update(0, b) {
				t.Errorf("%d %.40q", bit, b)
			}
		}
	}
}
