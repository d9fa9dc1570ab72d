package tree

import (
	"bytes"
	"crypto/sha256"
	"encoding/binary"
	"encoding/hex"
	"fmt"
	"math"
	"reflect"
	"slices"
	"strings"
	"testing"

	"ferryman/api"
)

func put(t *testing.T, x *Tree, key, value string) *Tree {
	t.Helper()
	y, e := x.Put([]byte(key), []byte(value))
	if e != api.OK || y == nil {
		t.Fatalf("P5.1: Put of %q: %d", key, e)
	}
	return y
}

func cut(t *testing.T, x *Tree, key string) *Tree {
	t.Helper()
	y, was := x.Cut([]byte(key))
	if !was || y == nil {
		t.Fatalf("P5.1: Cut of %q: %t", key, was)
	}
	return y
}

// grown: a tree of letters, put in their order, each with a value of its own.
func grown(t *testing.T, letters string) *Tree {
	t.Helper()
	x := New()
	for _, c := range letters {
		x = put(t, x, string(c), "of "+string(c))
	}
	return x
}

// shape: a tree as the chapter draws it, a leaf by its key, an inner node as brackets round both sides; drawn by ways alone.
func shape(x *Tree, way ...bool) string {
	n, ok := x.Node(way)
	if !ok {
		return ""
	}
	if n.Height == 0 {
		return string(n.Key)
	}
	left := shape(x, append(slices.Clone(way), false)...)
	right := shape(x, append(slices.Clone(way), true)...)
	return "(" + left + " " + right + ")"
}

func wantShape(t *testing.T, name string, x *Tree, want string) {
	t.Helper()
	if got := shape(x); got != want {
		t.Errorf("P5.1: %s: %s, not %s", name, got, want)
	}
	wantBalanced(t, name, x)
}

// same: nodes alike, a list that is nil as an empty one (R5).
func same(a, b api.Node) bool {
	return bytes.Equal(a.Key, b.Key) && bytes.Equal(a.Value, b.Value) && a.Height == b.Height &&
		a.Size == b.Size && a.Left == b.Left && a.Right == b.Right
}

func samePair(a, b api.Pair) bool {
	return bytes.Equal(a.Key, b.Key) && bytes.Equal(a.Value, b.Value)
}

func TestExampleOfThree(t *testing.T) {
	x := grown(t, "abc")
	wantShape(t, "a, b, c", x, "(a (b c))")
	n, ok := x.Node(nil)
	if !ok || string(n.Key) != "b" || len(n.Value) != 0 || n.Height != 2 || n.Size != 3 {
		t.Errorf("P5.2: the upmost of a, b, c: %+v, %t", n, ok)
	}
	a, _ := x.Node([]bool{false})
	bc, _ := x.Node([]bool{true})
	if n.Left != Hash(a) || n.Right != Hash(bc) || Hash(n) != x.Root() {
		t.Error("P5.1: the sums of a, b, c")
	}
}

func TestExampleOfFour(t *testing.T) {
	x := grown(t, "abcd")
	wantShape(t, "a, b, c, d", x, "((a b) (c d))")
	if n, _ := x.Node(nil); string(n.Key) != "c" || n.Height != 2 || n.Size != 4 {
		t.Errorf("P5.2: the upmost of a, b, c, d: %+v", n)
	}
}

func leafSum(key, value string) api.Hash {
	v := sha256.Sum256([]byte(value))
	return sha256.Sum256([]byte("\x00" + string([]byte{byte(len(key))}) + key + string(v[:])))
}

func innerSum(height byte, size uint64, left, right api.Hash) api.Hash {
	b := binary.BigEndian.AppendUint64([]byte{1, height}, size)
	return sha256.Sum256(slices.Concat(b, left[:], right[:]))
}

func TestEmpty(t *testing.T) {
	const ofNothing = "e3b0c44298fc1c149afbf4c8996fb92427ae41e4649b934ca495991b7852b855"
	if h := Empty(); hex.EncodeToString(h[:]) != ofNothing {
		t.Errorf("P5.1: Empty is %x", h)
	}
	for name, x := range map[string]*Tree{"new": New(), "zero": {}, "cut empty": cut(t, grown(t, "a"), "a")} {
		if x == nil {
			t.Fatalf("P5.1: %s: a nil tree", name)
		}
		n, is := x.Node(nil)
		if x.Root() != Empty() || x.Len() != 0 || len(x.All()) != 0 || len(x.Nodes()) != 0 || is || !same(n, api.Node{}) {
			t.Errorf("P5.1, P5.2: %s is not empty", name)
		}
		if v, is := x.Get([]byte("a")); is || len(v) != 0 {
			t.Errorf("P5.1: %s: Get: %q, %t", name, v, is)
		}
		if y, was := x.Cut([]byte("a")); was || y == nil || y.Root() != Empty() {
			t.Errorf("P5.1: %s: Cut: %t", name, was)
		}
		if y := put(t, x, "a", "x"); y.Root() != leafSum("a", "x") || y.Len() != 1 {
			t.Errorf("P5.1: %s: Put: %x", name, y.Root())
		}
	}
}

func TestRoots(t *testing.T) {
	ab := innerSum(1, 2, leafSum("a", "of a"), leafSum("b", "of b"))
	cd := innerSum(1, 2, leafSum("c", "of c"), leafSum("d", "of d"))
	bc := innerSum(1, 2, leafSum("b", "of b"), leafSum("c", "of c"))
	for letters, want := range map[string]api.Hash{
		"a":    leafSum("a", "of a"),
		"ab":   ab,
		"ba":   ab,
		"abc":  innerSum(2, 3, leafSum("a", "of a"), bc),
		"abcd": innerSum(2, 4, ab, cd),
	} {
		if got := grown(t, letters).Root(); got != want {
			t.Errorf("P5.1: Root of %s is %x, not %x", letters, got, want)
		}
	}
}

func TestHashOfLeaves(t *testing.T) {
	left := leafSum("l", "l")
	for _, length := range []int{0, 1, 96, 97, 255, 256, 257, 512, 70000} {
		for _, size := range []int{0, 1, 256, 257, 70000} {
			key, value := strings.Repeat("k", length), strings.Repeat("v", size)
			bare := api.Node{Key: []byte(key), Value: []byte(value)}
			full := api.Node{Key: []byte(key), Value: []byte(value), Size: 7, Left: left, Right: left}
			if want := leafSum(key, value); Hash(bare) != want || Hash(full) != want {
				t.Errorf("P5.1: Hash of a leaf with a key of %d, a value of %d bytes", length, size)
			}
		}
	}
}

func TestHashOfInnerNodes(t *testing.T) {
	left, right := leafSum("l", "l"), leafSum("r", "r")
	for _, c := range []struct {
		height int
		as     byte
	}{{1, 1}, {2, 2}, {64, 64}, {255, 255}, {256, 0}, {257, 1}, {512, 0}, {1 << 32, 0}, {-1, 255}, {-256, 0}, {math.MaxInt, 255}, {math.MinInt, 0}} {
		for _, size := range []uint64{0, 1, 2, 255, 256, 1 << 32, 0x0102030405060708, math.MaxUint64} {
			n := api.Node{Key: []byte("k"), Value: []byte("v"), Height: c.height, Size: size, Left: left, Right: right}
			if got := Hash(n); got != innerSum(c.as, size, left, right) {
				t.Errorf("P5.1: Hash at Height %d, Size %d is %x", c.height, size, got)
			}
			n.Key, n.Value = nil, nil
			if got := Hash(n); got != innerSum(c.as, size, left, right) {
				t.Errorf("P5.1: Hash at Height %d, Size %d hangs on the Key or the Value", c.height, size)
			}
		}
	}
}

func TestLimits(t *testing.T) {
	text := func(n int) []byte { return bytes.Repeat([]byte("x"), n) }
	for _, x := range []*Tree{New(), grown(t, "abc"), grown(t, "xyz")} {
		root := x.Root()
		for _, c := range []struct {
			key, value int
			want       api.Errno
		}{
			{0, 0, api.ErrKey}, {1, 0, api.OK}, {96, 0, api.OK}, {97, 0, api.ErrKey}, {256, 0, api.ErrKey}, {257, 1, api.ErrKey},
			{1, 256, api.OK}, {96, 256, api.OK}, {1, 257, api.ErrLong}, {96, 257, api.ErrLong}, {1, 512, api.ErrLong}, {1, 65536, api.ErrLong},
			{0, 257, api.ErrKey}, {97, 257, api.ErrKey},
		} {
			y, e := x.Put(text(c.key), text(c.value))
			if e != c.want || (y == nil) != (e != api.OK) {
				t.Errorf("P5.1: Put of a key of %d, a value of %d bytes: %d", c.key, c.value, e)
			}
			if v, is := y.Get(text(c.key)); is != (c.want == api.OK) || is && len(v) != c.value {
				t.Errorf("P5.1: Get of a key of %d, a value of %d bytes: %d, %t", c.key, c.value, len(v), is)
			}
			if x.Root() != root {
				t.Errorf("P5.1, R4: a Put of a key of %d, a value of %d bytes changed the tree", c.key, c.value)
			}
		}
		if y, e := x.Put(nil, nil); e != api.ErrKey || y != nil {
			t.Errorf("P5.1: Put of no key: %d", e)
		}
	}
}

// Keys that no tree has are not there, and no error.
func TestWrongKeysAreNotThere(t *testing.T) {
	x := grown(t, "abc")
	for _, key := range [][]byte{nil, {}, []byte("ab"), []byte("aa"), []byte("d"), []byte("A"), {0}, {255}, bytes.Repeat([]byte("a"), 97), bytes.Repeat([]byte("z"), 70000)} {
		if v, is := x.Get(key); is || len(v) != 0 {
			t.Errorf("P5.1: Get of %.9q: %q, %t", key, v, is)
		}
		y, was := x.Cut(key)
		if was || y == nil || shape(y) != shape(x) || y.Root() != x.Root() || y.Len() != 3 {
			t.Errorf("P5.1: Cut of %.9q: %t", key, was)
		}
	}
}

func TestPutTwice(t *testing.T) {
	for _, letters := range []string{"a", "ab", "abc", "abcdefg"} {
		x := grown(t, letters)
		for _, c := range letters {
			y := put(t, x, string(c), "new")
			wantShape(t, "put twice", y, shape(x))
			if v, is := y.Get([]byte(string(c))); !is || string(v) != "new" || y.Len() != x.Len() || y.Root() == x.Root() {
				t.Errorf("P5.1: %c put twice: %q, %t", c, v, is)
			}
			if v, _ := x.Get([]byte(string(c))); string(v) != "of "+string(c) {
				t.Errorf("P5.1: %c put twice changed the first tree", c)
			}
			if z := put(t, y, string(c), "of "+string(c)); z.Root() != x.Root() {
				t.Errorf("P5.1: %c put back: another root", c)
			}
		}
	}
}

// A value of no bytes is a value.
func TestNoValue(t *testing.T) {
	x := put(t, grown(t, "ab"), "c", "")
	if v, is := x.Get([]byte("c")); !is || len(v) != 0 || x.Len() != 3 {
		t.Errorf("P5.1: a value of no bytes: %q, %t", v, is)
	}
	y, e := grown(t, "ab").Put([]byte("c"), nil)
	if e != api.OK || y.Root() != x.Root() {
		t.Error("R5: nil and empty are unlike values")
	}
	if z := put(t, x, "a", ""); z.Len() != 3 || len(z.All()) != 3 {
		t.Error("P5.1: a value of no bytes takes a key away")
	}
}

// Keys of which one begins the other, and of bytes that are no letters, as texts are compared.
func TestOrder(t *testing.T) {
	keys := []string{"\x00", "\x00\x00", "\x00\x01", "\x01", "a", "a\x00", "aa", "ab", "b", "\x7f", "\x80", "\xff", "\xff\x00", "\xff\xff", strings.Repeat("\xff", 96)}
	x := New()
	for i := range keys {
		key := keys[i*7%len(keys)]
		x = put(t, x, key, key+"!")
	}
	all := x.All()
	if len(all) != len(keys) || x.Len() != len(keys) {
		t.Fatalf("P5.1: %d of %d keys", len(all), len(keys))
	}
	for i, p := range all {
		if string(p.Key) != keys[i] || string(p.Value) != (keys[i] + "!")[:len(p.Value)] || len(p.Value) != len(keys[i])+1 {
			t.Errorf("P5.1: All at %d: %q, %q", i, p.Key, p.Value)
		}
		if v, is := x.Get(p.Key); !is || !bytes.Equal(v, p.Value) {
			t.Errorf("P5.1: Get of %q: %q, %t", p.Key, v, is)
		}
	}
}

// The four cases in which a node is balanced; the fifth and sixth: sides of the higher side that are alike, which only Cut leaves.
func TestBalancing(t *testing.T) {
	for _, c := range []struct{ name, before, last, after string }{
		{"Put, left of left", "((b c) d)", "+a", "((a b) (c d))"},
		{"Put, right of left", "((a b) d)", "+c", "((a b) (c d))"},
		{"Put, right of right", "(a (b c))", "+d", "((a b) (c d))"},
		{"Put, left of right", "(a (c d))", "+b", "((a b) (c d))"},
		{"Cut, left of left", "(((a b) c) (d e))", "-e", "((a b) (c d))"},
		{"Cut, right of left", "((a (b c)) (d e))", "-e", "((a b) (c d))"},
		{"Cut, right of right", "((a b) (c (d e)))", "-a", "((b c) (d e))"},
		{"Cut, left of right", "((a b) ((c d) e))", "-a", "((b c) (d e))"},
		{"Cut, left side alike", "(((a b) (c d)) (e f))", "-f", "((a b) ((c d) e))"},
		{"Cut, right side alike", "((a b) ((c d) (e f)))", "-a", "((b (c d)) (e f))"},
	} {
		x := fromShape(t, c.before)
		wantShape(t, c.name+", before", x, c.before)
		y := x
		if key := c.last[1:]; c.last[0] == '+' {
			y = put(t, x, key, "of "+key)
		} else {
			y = cut(t, x, key)
		}
		wantShape(t, c.name, y, c.after)
		wantShape(t, c.name+", the tree ahead", x, c.before)
	}
}

// fromShape: a tree that has that shape, grown by an order of its letters that leads to it.
func fromShape(t *testing.T, want string) *Tree {
	t.Helper()
	letters := strings.Map(func(r rune) rune {
		if strings.ContainsRune("() ", r) {
			return -1
		}
		return r
	}, want)
	var found *Tree
	permute([]byte(letters), 0, func(order []byte) bool {
		x := grown(t, string(order))
		if shape(x) == want {
			found = x
		}
		return found == nil
	})
	if found == nil {
		t.Fatalf("P5.1: no order of %s leads to %s", letters, want)
	}
	return found
}

// permute: all orders of b from i on, till see answers false.
func permute(b []byte, i int, see func([]byte) bool) bool {
	if i >= len(b)-1 {
		return see(b)
	}
	for j := i; j < len(b); j++ {
		b[i], b[j] = b[j], b[i]
		on := permute(b, i+1, see)
		b[i], b[j] = b[j], b[i]
		if !on {
			return false
		}
	}
	return true
}

// An inner node's Key is the least to the right now, also behind a Cut of what was so, far beneath.
func TestKeysBehindCut(t *testing.T) {
	x := cut(t, grown(t, "abcdefgh"), "e")
	if n, _ := x.Node(nil); string(n.Key) != "f" {
		t.Errorf("P5.1: the upmost Key is %q behind a Cut of e", n.Key)
	}
	wantShape(t, "e cut", x, "(((a b) (c d)) (f (g h)))")
	if y := put(t, x, "e", "of e"); shape(y) != "(((a b) (c (d e))) (f (g h)))" {
		t.Errorf("P5.1: e put again: %s", shape(y))
	}
}

func TestNode(t *testing.T) {
	x := grown(t, "abcde")
	wantShape(t, "a to e", x, "((a b) (c (d e)))")
	const l, r = false, true
	for _, c := range []struct {
		way    []bool
		key    string
		height int
		size   uint64
	}{
		{nil, "c", 3, 5}, {[]bool{}, "c", 3, 5},
		{[]bool{l}, "b", 1, 2}, {[]bool{l, l}, "a", 0, 1}, {[]bool{l, r}, "b", 0, 1},
		{[]bool{r}, "d", 2, 3}, {[]bool{r, l}, "c", 0, 1}, {[]bool{r, r}, "e", 1, 2},
		{[]bool{r, r, l}, "d", 0, 1}, {[]bool{r, r, r}, "e", 0, 1},
	} {
		n, ok := x.Node(c.way)
		if !ok || string(n.Key) != c.key || n.Height != c.height || n.Size != c.size {
			t.Errorf("P5.2: Node of %v: %+v, %t", c.way, n, ok)
		}
		wantWhole(t, x, c.way, n)
	}
}

// wantWhole: a leaf has a value and no sums, an inner node no value, and the sums of what is left and right of it.
func wantWhole(t *testing.T, x *Tree, way []bool, n api.Node) {
	t.Helper()
	left, isLeft := x.Node(append(slices.Clone(way), false))
	right, isRight := x.Node(append(slices.Clone(way), true))
	if n.Height == 0 {
		if isLeft || isRight || n.Left != (api.Hash{}) || n.Right != (api.Hash{}) || string(n.Value) != "of "+string(n.Key) {
			t.Errorf("P5.2: the leaf at %v: %+v", way, n)
		}
		return
	}
	if !isLeft || !isRight || n.Left != Hash(left) || n.Right != Hash(right) || len(n.Value) != 0 {
		t.Errorf("P5.2: the inner node at %v: %+v", way, n)
	}
}

func TestWaysThatLeadNowhere(t *testing.T) {
	for letters, ways := range map[string][][]bool{
		"":   {nil, {}, {false}, {true}, {true, false}, make([]bool, 100000)},
		"a":  {{false}, {true}, {false, false}, {true, true}, make([]bool, 100000)},
		"ab": {{false, false}, {false, true}, {true, false}, {true, true, true}, make([]bool, 100000)},
	} {
		x := grown(t, letters)
		for _, way := range ways {
			if n, ok := x.Node(way); ok || !same(n, api.Node{}) {
				t.Errorf("P5.2: of %q a way of %d leads to %+v", letters, len(way), n)
			}
		}
	}
}

func TestNodesInOrder(t *testing.T) {
	var got []string
	for _, n := range grown(t, "abcde").Nodes() {
		got = append(got, fmt.Sprintf("%s%d", n.Key, n.Height))
	}
	if want := "c3 b1 a0 b0 d2 c0 e1 d0 e0"; strings.Join(got, " ") != want {
		t.Errorf("P5.2: Nodes are %v, not %s", got, want)
	}
}

func TestNilTree(t *testing.T) {
	var x *Tree
	for _, key := range [][]byte{nil, []byte("a"), make([]byte, 97)} {
		for _, value := range [][]byte{nil, make([]byte, 257)} {
			if y, e := x.Put(key, value); y != nil || e != api.ErrNil {
				t.Errorf("R7: Put into a nil tree: %d", e)
			}
		}
		if y, was := x.Cut(key); y != nil || was {
			t.Errorf("R7: Cut of a nil tree: %t", was)
		}
		if v, is := x.Get(key); v != nil || is {
			t.Errorf("R7: Get of a nil tree: %q, %t", v, is)
		}
	}
	if x.Root() != Empty() || x.Root() != New().Root() {
		t.Errorf("R7: Root of a nil tree: %x", x.Root())
	}
	for _, way := range [][]bool{nil, {false}, {true, true}} {
		if n, ok := x.Node(way); ok || !same(n, api.Node{}) {
			t.Errorf("R7: Node of a nil tree: %+v, %t", n, ok)
		}
	}
	if x.Len() != 0 || len(x.All()) != 0 || len(x.Nodes()) != 0 {
		t.Error("R7: Len, All or Nodes of a nil tree")
	}
}

// seen: all that a tree tells, as one text.
func seen(x *Tree) string {
	var b strings.Builder
	fmt.Fprintf(&b, "%x %d %s\n", x.Root(), x.Len(), shape(x))
	for _, n := range x.Nodes() {
		fmt.Fprintf(&b, "%q %q %d %d %x %x\n", n.Key, n.Value, n.Height, n.Size, n.Left, n.Right)
	}
	for _, p := range x.All() {
		v, is := x.Get(p.Key)
		fmt.Fprintf(&b, "%q %q %q %t\n", p.Key, p.Value, v, is)
	}
	return b.String()
}

// Out of every tree on the way others are made, in all directions; none of them may change for it.
func TestTreesNeverChange(t *testing.T) {
	trees := []*Tree{New()}
	for _, c := range "mcxaeqzbdfh" {
		trees = append(trees, put(t, trees[len(trees)-1], string(c), "of "+string(c)))
	}
	var before []string
	for _, x := range trees {
		before = append(before, seen(x))
	}
	for _, x := range trees {
		for c := 'a'; c <= 'z'; c++ {
			y := put(t, x, string(c), "new")
			y.Cut([]byte(string(c)))
			z, _ := x.Cut([]byte(string(c)))
			z.Put([]byte("n"), nil)
		}
		x.Put(nil, nil)
		x.Put([]byte("a"), make([]byte, 257))
	}
	for i, x := range trees {
		if seen(x) != before[i] {
			t.Errorf("P5.1: the tree of %d keys changed", i)
		}
	}
}

// room: a text with spare room behind it, and the whole of it.
func room(text string) (part, whole []byte) {
	whole = []byte(text + "spare room")
	return whole[:len(text)], whole
}

func TestHandedInStaysAndIsNotKept(t *testing.T) {
	x := grown(t, "abde")
	for _, key := range []string{"c", "a", "e", "f", "0"} {
		k, wholeKey := room(key)
		v, wholeValue := room("value")
		y, _ := x.Put(k, v)
		y.Get(k)
		y.Cut(k)
		if string(wholeKey) != key+"spare room" || string(wholeValue) != "valuespare room" {
			t.Errorf("R6: what was handed in at %s changed", key)
		}
		before := seen(y)
		clear(wholeKey)
		clear(wholeValue)
		if got, is := y.Get([]byte(key)); seen(y) != before || !is || string(got) != "value" {
			t.Errorf("R6: what was handed in at %s is kept", key)
		}
	}
	way, whole := []bool{true, false, true}, []bool{true, false, true, true, false, true}
	x.Node(way)
	x.Node(whole[:1])
	if !slices.Equal(way, whole[:3]) || !slices.Equal(whole, []bool{true, false, true, true, false, true}) {
		t.Error("R6: a way changed")
	}
}

// spoil: all bytes, and the spare room behind them, become others.
func spoil(b []byte) {
	b = b[:cap(b)]
	for i := range b {
		b[i] ^= 0xff
	}
}

func TestAnswersAreNewMemory(t *testing.T) {
	x := grown(t, "abcdefg")
	y := put(t, x, "h", "of h")
	beforeX, beforeY := seen(x), seen(y)
	for c := 'a'; c <= 'h'; c++ {
		v, _ := y.Get([]byte(string(c)))
		spoil(v)
	}
	for _, way := range [][]bool{nil, {false}, {true}, {false, false}, {false, false, true}, {true, true, true}} {
		n, _ := y.Node(way)
		spoil(n.Key)
		spoil(n.Value)
	}
	for _, p := range y.All() {
		spoil(p.Key)
		spoil(p.Value)
	}
	for _, n := range y.Nodes() {
		spoil(n.Key)
		spoil(n.Value)
	}
	if seen(x) != beforeX || seen(y) != beforeY {
		t.Error("R6: an answer shares memory with a tree")
	}
}

// No two lists of one answer share memory: each is spoilt, and all others are as they were.
func TestListsOfOneAnswerShareNothing(t *testing.T) {
	x := grown(t, "abcdefg")
	nodes, all := x.Nodes(), x.All()
	for i := range nodes {
		spoil(nodes[i].Key)
		spoil(nodes[i].Value)
		for j, n := range x.Nodes() {
			if j > i && !same(n, nodes[j]) {
				t.Fatalf("R6: of Nodes %d and %d share memory", i, j)
			}
		}
	}
	for i := range all {
		spoil(all[i].Key)
		spoil(all[i].Value)
		for j, p := range x.All() {
			if j > i && !samePair(p, all[j]) {
				t.Fatalf("R6: of All %d and %d share memory", i, j)
			}
		}
	}
}

func TestAskedTwice(t *testing.T) {
	x, y := grown(t, "gfedcba"), grown(t, "gfedcba")
	if seen(x) != seen(x) || seen(x) != seen(y) || !reflect.DeepEqual(x.Nodes(), y.Nodes()) {
		t.Error("R8: asked twice, a tree tells otherwise")
	}
}
