package multi

import (
	"fmt"
	"math"
	"slices"
	"strings"
	"testing"

	"ferryman/api"
	"ferryman/fault"
	"ferryman/tree"
)

// wantCode: an error of just that number, whatever else it says; none of OK.
func wantCode(t *testing.T, promise, what string, err error, want api.Errno) {
	t.Helper()
	if (err == nil) != (want == api.OK) || fault.Code(err) != want {
		t.Errorf("%s: %s: %v (number %d), not number %d", promise, what, err, fault.Code(err), want)
	}
}

// wantCheck: Check answers just that, and facts only without an error.
func wantCheck(t *testing.T, what string, root api.Hash, l []api.Token, want api.Errno) {
	t.Helper()
	f, err := Check(root, l)
	wantCode(t, "P10.2", what, err, want)
	if (f == nil) != (want != api.OK) {
		t.Errorf("P10.2, R3: %s: facts %v beside %v", what, f, err)
	}
}

// rootOf: where tokens lead that make a tree; else some root.
func rootOf(l []api.Token) api.Hash {
	if len(l) == 0 || refShape(l) != api.OK {
		return sumOf(9)
	}
	return refRoot(l)
}

func TestNoTokens(t *testing.T) {
	wantCheck(t, "no tokens, an empty tree's root", tree.Empty(), nil, api.OK)
	wantCheck(t, "no tokens, an empty tree's root", tree.Empty(), []api.Token{}, api.OK)
	for _, root := range []api.Hash{{}, sumOf(0), grown(t, "a").Root()} {
		wantCheck(t, "no tokens, another root", root, nil, api.ErrShort)
		wantCheck(t, "no tokens, another root", root, []api.Token{}, api.ErrShort)
	}
	wantCheck(t, "a leaf, an empty tree's root", tree.Empty(), []api.Token{leafOf("a")}, api.ErrRoot)
	one := []api.Token{{Kind: api.THidden, Hash: tree.Empty()}}
	wantCheck(t, "a hidden empty tree", tree.Empty(), one, api.OK)
	if f, _ := Check(tree.Empty(), one); got(f, []byte("a")) != "unknown" {
		t.Error("P10.3: what is hidden is known")
	}
}

func TestHowMany(t *testing.T) {
	bad := api.Token{Kind: 9}
	for _, n := range []int{1, 2, 2047, 2048} {
		wantCheck(t, fmt.Sprintf("%d of another kind", n), sumOf(0), slices.Repeat([]api.Token{bad}, n), api.ErrKind)
	}
	for _, n := range []int{2049, 2050, 4096, 100000} {
		wantCheck(t, fmt.Sprintf("%d of another kind", n), sumOf(0), slices.Repeat([]api.Token{bad}, n), api.ErrLong)
		wantCheck(t, fmt.Sprintf("%d leaves without a key", n), tree.Empty(), make([]api.Token, n), api.ErrLong)
	}
}

// One lacks, or is left, everywhere.
func TestShortAndLong(t *testing.T) {
	x := grown(t, "gcaebdfhijk")
	for _, keys := range [][]string{{}, {"a"}, {"k"}, {"d", "i"}, strings.Split("abcdefghijk", "")} {
		l := makeOf(x, keys...)
		for n := range l {
			wantCheck(t, fmt.Sprintf("of %d tokens %d", len(l), n), x.Root(), l[:n], api.ErrShort)
		}
		for _, more := range []api.Token{hidden(0), leafOf("z"), inner(1), {}, {Kind: 9}, {Kind: api.TLeaf}} {
			wantCheck(t, fmt.Sprintf("behind %d tokens one more", len(l)), x.Root(), append(copied(l), more), api.ErrLong)
			wantCheck(t, fmt.Sprintf("behind %d tokens one more, another root", len(l)), sumOf(0), append(copied(l), more), api.ErrLong)
		}
	}
	wantCheck(t, "two hidden", sumOf(0), []api.Token{hidden(0), hidden(0)}, api.ErrLong)
	wantCheck(t, "an inner one alone", sumOf(0), []api.Token{inner(1)}, api.ErrShort)
	wantCheck(t, "an inner one and one side", sumOf(0), []api.Token{inner(1), leafOf("a")}, api.ErrShort)
}

func TestLengths(t *testing.T) {
	for _, c := range []struct {
		key, value int
		want       api.Errno
	}{
		{0, 0, api.ErrKey}, {1, 0, api.OK}, {2, 1, api.OK}, {95, 255, api.OK}, {96, 256, api.OK}, {97, 0, api.ErrKey}, {97, 257, api.ErrKey},
		{1, 256, api.OK}, {1, 257, api.ErrKey}, {96, 257, api.ErrKey}, {0, 257, api.ErrKey}, {256, 0, api.ErrKey}, {257, 1, api.ErrKey}, {353, 1, api.ErrKey}, {70000, 70000, api.ErrKey},
	} {
		leaf := api.Token{Kind: api.TLeaf, Key: []byte(strings.Repeat("k", c.key)), Value: []byte(strings.Repeat("v", c.value))}
		for _, l := range [][]api.Token{{leaf}, {inner(1), leaf, hidden(0)}, {inner(5), hidden(0), inner(3), leafOf("a"), leaf}} {
			what := fmt.Sprintf("of %d tokens one with a key of %d, a value of %d bytes", len(l), c.key, c.value)
			wantCheck(t, what, refRoot(l), l, c.want)
			if c.want == api.OK {
				wantCheck(t, what+", another root", sumOf(1), l, api.ErrRoot)
			}
		}
	}
}

// wrongHeights: Heights that no node has.
var wrongHeights = []int{0, -1, 65, 66, 256, 257, 1 << 20, 1 << 32, 1<<32 + 1, math.MaxInt, math.MinInt}

func TestFirstHeight(t *testing.T) {
	for _, h := range []int{1, 2, 63, 64} {
		l := []api.Token{inner(h), hidden(0), leafOf("a")}
		wantCheck(t, fmt.Sprintf("a first Height of %d", h), refRoot(l), l, api.OK)
	}
	for _, h := range wrongHeights {
		l := []api.Token{inner(h), hidden(0), leafOf("a")}
		wantCheck(t, fmt.Sprintf("a first Height of %d", h), refRoot(l), l, api.ErrNode)
		wantCheck(t, fmt.Sprintf("a first Height of %d, and nothing", h), sumOf(0), l[:1], api.ErrNode)
	}
}

// The Heights of both sides, against that of the one above.
func TestHeightsBelow(t *testing.T) {
	for _, above := range []int{1, 2, 3, 40, 63, 64} {
		for _, below := range append([]int{above - 1, above, above + 1, 1, above / 2, above + 256, above - 256}, wrongHeights...) {
			want := api.OK
			if below < 1 || below >= above {
				want = api.ErrNode
			}
			what := fmt.Sprintf("beneath %d one of %d", above, below)
			left := []api.Token{inner(above), inner(below), leafOf("a"), hidden(0), hidden(2)}
			wantCheck(t, what+", left", refRoot(left), left, want)
			right := []api.Token{inner(above), hidden(0), inner(below), hidden(2), leafOf("a")}
			wantCheck(t, what+", right", refRoot(right), right, want)
			if above == 64 {
				continue
			}
			deep := append([]api.Token{inner(64), hidden(0)}, left...)
			wantCheck(t, what+", further down", refRoot(deep), deep, want)
		}
	}
}

// What is above binds, not what is beside: a side may be as high as its neighbour, and higher than what is beneath that.
func TestSidesAreAlone(t *testing.T) {
	for _, l := range [][]api.Token{
		{inner(3), inner(1), hidden(0), hidden(2), inner(2), hidden(4), hidden(6)},
		{inner(3), inner(2), inner(1), hidden(0), hidden(2), hidden(4), inner(2), hidden(8), inner(1), hidden(6), hidden(10)},
		{inner(64), inner(1), leafOf("a"), leafOf("b"), inner(63), leafOf("c"), inner(62), hidden(0), leafOf("d")},
	} {
		wantCheck(t, short(l), refRoot(l), l, api.OK)
	}
	l := []api.Token{inner(3), inner(2), inner(1), hidden(0), hidden(2), inner(2), hidden(4), hidden(6), hidden(8)}
	wantCheck(t, "a side of a side as high as it", refRoot(l), l, api.ErrNode)
}

// A row of inner nodes as deep as may be, down each side.
func TestDeepest(t *testing.T) {
	var left, right []api.Token
	for h := 64; h >= 1; h-- {
		left = append(left, inner(h))
		right = append(right, inner(h), hidden(byte(h)))
	}
	left = append(left, leafOf("a"))
	for h := range 64 {
		left = append(left, hidden(byte(h)))
	}
	right = append(right, leafOf("z"))
	for _, l := range [][]api.Token{left, right} {
		wantCheck(t, "64 nodes, each beneath the other", refRoot(l), l, api.OK)
		wantCheck(t, "64 nodes, each beneath the other, another root", sumOf(0), l, api.ErrRoot)
	}
	if f, _ := Check(refRoot(left), left); got(f, []byte("A")) != "none" || got(f, []byte("a")) != "value of a" || got(f, []byte("b")) != "unknown" {
		t.Error("P10.3: of the leftmost leaf alone")
	}
	if f, _ := Check(refRoot(right), right); got(f, []byte("A")) != "unknown" || got(f, []byte("z")) != "value of z" || got(f, []byte("zz")) != "none" {
		t.Error("P10.3: of the rightmost leaf alone")
	}
	wantCheck(t, "one more beneath them", sumOf(0), append(left[:64:64], inner(1)), api.ErrNode)
}

func TestKinds(t *testing.T) {
	for kind := range 256 {
		x := api.Token{Kind: api.TokenKind(kind), Hash: sumOf(0), Key: []byte("k"), Height: 1}
		if kind >= 1 && kind <= 3 {
			continue
		}
		wantCheck(t, fmt.Sprintf("kind %d", kind), sumOf(0), []api.Token{x}, api.ErrKind)
		wantCheck(t, fmt.Sprintf("kind %d to the left", kind), sumOf(0), []api.Token{inner(1), x, hidden(0)}, api.ErrKind)
		wantCheck(t, fmt.Sprintf("kind %d to the right", kind), sumOf(0), []api.Token{inner(1), hidden(0), x}, api.ErrKind)
	}
}

// A Size is a number of the sum, and no more.
func TestSizes(t *testing.T) {
	for _, size := range []uint64{0, 1, 2, 255, 256, 1 << 32, math.MaxUint64 - 1, math.MaxUint64} {
		l := []api.Token{inner(2), leafOf("a"), {Kind: api.TInner, Height: 1, Size: size}, leafOf("b"), hidden(0)}
		root := refRoot(l)
		wantCheck(t, fmt.Sprintf("a Size of %d", size), root, l, api.OK)
		l[2].Size++
		wantCheck(t, fmt.Sprintf("a Size of %d and one", size), root, l, api.ErrRoot)
	}
}

func TestLeavesRise(t *testing.T) {
	for _, c := range []struct {
		keys string
		want api.Errno
	}{
		{"a b", api.OK}, {"b a", api.ErrOrder}, {"a a", api.ErrOrder}, {"a aa", api.OK}, {"aa a", api.ErrOrder}, {"a \xff", api.OK}, {"\xff a", api.ErrOrder}, {"\x7f \x80", api.OK},
		{"a . b", api.OK}, {"b . a", api.ErrOrder}, {"a . a", api.ErrOrder}, {". b a", api.ErrOrder}, {"b a .", api.ErrOrder}, {"a . . . b", api.OK}, {"b . . . a", api.ErrOrder},
		{"a b c d", api.OK}, {"a b d c", api.ErrOrder}, {"b a c d", api.ErrOrder}, {"a c b d", api.ErrOrder}, {"a b c a", api.ErrOrder}, {"a b c c", api.ErrOrder}, {"d c b a", api.ErrOrder},
	} {
		l := rowOf(c.keys)
		wantCheck(t, fmt.Sprintf("leaves %q", c.keys), refRoot(l), l, c.want)
		wantCheck(t, fmt.Sprintf("leaves %q, another root", c.keys), sumOf(0), l, api.ErrRoot)
	}
}

// rowOf: tokens of leaves by their keys, with a blank between; a dot is a hidden one. Each is to the left of a node further down.
func rowOf(keys string) []api.Token {
	var l []api.Token
	all := strings.Split(keys, " ")
	for i, k := range all {
		if i+1 < len(all) {
			l = append(l, inner(len(all)-i))
		}
		if k == "." {
			l = append(l, hidden(byte(i)))
		} else {
			l = append(l, leafOf(k))
		}
	}
	return l
}

// Of many errors the first that is named, and of tokens the first.
func TestOrderOfErrors(t *testing.T) {
	noKey, noKind := api.Token{Kind: api.TLeaf}, api.Token{}
	for _, c := range []struct {
		name string
		l    []api.Token
		want api.Errno
	}{
		{"a Height ahead of a key", []api.Token{inner(2), inner(2), noKey}, api.ErrNode},
		{"a key ahead of a Height", []api.Token{inner(2), noKey, inner(2)}, api.ErrKey},
		{"a key ahead of a kind", []api.Token{inner(2), noKey, noKind}, api.ErrKey},
		{"a kind ahead of a key", []api.Token{inner(2), noKind, noKey}, api.ErrKind},
		{"a kind ahead of a Height", []api.Token{inner(2), noKind, inner(2)}, api.ErrKind},
		{"a Height ahead of a kind", []api.Token{inner(65), noKind}, api.ErrNode},
		{"a key ahead of one that lacks", []api.Token{inner(2), noKey}, api.ErrKey},
		{"a kind ahead of one that lacks", []api.Token{inner(2), inner(1), hidden(0), noKind}, api.ErrKind},
		{"a Height ahead of one that lacks", []api.Token{inner(2), inner(2)}, api.ErrNode},
		{"a key ahead of some that are left", []api.Token{inner(2), hidden(0), noKey, hidden(0)}, api.ErrKey},
		{"some that are left ahead of their kind", []api.Token{leafOf("a"), noKind}, api.ErrLong},
		{"some that are left ahead of the root and the order", append(rowOf("b a"), hidden(0)), api.ErrLong},
		{"one that lacks ahead of the order", []api.Token{inner(2), leafOf("b"), inner(1), leafOf("a")}, api.ErrShort},
		{"a key of 97 bytes and a value of 257", []api.Token{{Kind: api.TLeaf, Key: make([]byte, 97), Value: make([]byte, 257)}}, api.ErrKey},
		{"the root ahead of the order", rowOf("b a"), api.ErrRoot},
	} {
		wantCheck(t, c.name, sumOf(0), c.l, c.want)
		if e := refCheck(sumOf(0), c.l); e != c.want {
			t.Errorf("the reference says %d of %s", e, c.name)
		}
	}
}

// Fields that a token's kind hasn't say nothing: they are none of what Check refuses.
func TestOtherFields(t *testing.T) {
	l := []api.Token{
		{Kind: api.TInner, Height: 1, Size: 2, Hash: sumOf(1), Key: make([]byte, 97), Value: make([]byte, 257)},
		{Kind: api.THidden, Hash: sumOf(0), Key: []byte("z"), Value: make([]byte, 257), Height: 70, Size: 9},
		{Kind: api.TLeaf, Key: []byte("b"), Value: []byte("v"), Hash: sumOf(2), Height: -1, Size: 3},
	}
	wantCheck(t, "fields of other kinds", refRoot(l), l, api.OK)
	if f, _ := Check(refRoot(l), l); got(f, []byte("b")) != "value v" || got(f, []byte("z")) != "none" || got(f, []byte("a")) != "unknown" {
		t.Error("P10.3: fields of other kinds")
	}
}

// bent: tokens, each time with a bit of one of their parts turned, one more, one less, or two changed for each other.
func bent(l []api.Token, see func(what string, m []api.Token)) {
	for i, x := range l {
		bentToken(x, func(what string, y api.Token) {
			m := copied(l)
			m[i] = y
			see(fmt.Sprintf("of token %d %s", i, what), m)
		})
		see(fmt.Sprintf("token %d less", i), slices.Delete(copied(l), i, i+1))
		for j := range i {
			m := copied(l)
			m[i], m[j] = m[j], m[i]
			see(fmt.Sprintf("tokens %d and %d changed for each other", i, j), m)
		}
	}
	for i := range len(l) + 1 {
		for _, more := range []api.Token{{}, hidden(0), leafOf("d"), leafOf("zz"), inner(1), inner(64)} {
			see(fmt.Sprintf("a token more, at %d", i), slices.Insert(copied(l), i, more))
		}
	}
}

// bentToken: a token with a bit of a part that its kind has turned, with more or less bytes, or of another kind.
func bentToken(x api.Token, see func(what string, y api.Token)) {
	for kind := range 256 {
		if api.TokenKind(kind) != x.Kind {
			y := x
			y.Kind = api.TokenKind(kind)
			see(fmt.Sprintf("another kind, %d", kind), y)
		}
	}
	switch x.Kind {
	case api.THidden:
		for bit := range 256 {
			y := x
			y.Hash[bit/8] ^= 1 << (bit % 8)
			see(fmt.Sprintf("bit %d of Hash", bit), y)
		}
	case api.TLeaf:
		bentBytes(x.Key, func(what string, b []byte) {
			y := x
			y.Key = b
			see(what+" of Key", y)
		})
		bentBytes(x.Value, func(what string, b []byte) {
			y := x
			y.Value = b
			see(what+" of Value", y)
		})
	default:
		for bit := range 64 {
			y := x
			y.Height ^= 1 << bit
			see(fmt.Sprintf("bit %d of Height", bit), y)
			y = x
			y.Size ^= 1 << bit
			see(fmt.Sprintf("bit %d of Size", bit), y)
		}
	}
}

// Of right tokens nothing changed is taken.
func TestBentTokens(t *testing.T) {
	x := grown(t, "gcaebdfhijk")
	other := put(t, x, "k", "of l")
	for _, keys := range [][]string{{}, {"a"}, {"b", "f!"}, {"d", "i", "k"}, strings.Split("abcdefghijk", "")} {
		l := makeOf(x, keys...)
		bent(l, func(what string, m []api.Token) {
			if told(m) == told(l) {
				return
			}
			want := refCheck(x.Root(), m)
			if want == api.OK {
				t.Errorf("P10.4: Make of %q, %s: the reference takes it", keys, what)
			}
			wantCheck(t, fmt.Sprintf("Make of %q, %s", keys, what), x.Root(), m, want)
			wantCheck(t, fmt.Sprintf("Make of %q, %s, of its own root", keys, what), rootOf(m), m, refCheck(rootOf(m), m))
		})
		wantCheck(t, "another tree's root", other.Root(), l, api.ErrRoot)
		for bit := range 256 {
			root := x.Root()
			root[bit/8] ^= 1 << (bit % 8)
			wantCheck(t, fmt.Sprintf("bit %d of the root", bit), root, l, api.ErrRoot)
		}
	}
}

// What is taken of a tree's root is so: tokens of one tree are taken of another one only where they hold there too.
func TestOnlyWhatIsSo(t *testing.T) {
	trees := []*tree.Tree{tree.New()}
	for _, c := range "mcxaeqzb" {
		last := trees[len(trees)-1]
		trees = append(trees, put(t, last, string(c), "1"), put(t, last, string(c), "2"))
	}
	keys := between(strings.Split("abcemqxz", ""))
	for i, x := range trees {
		for _, key := range keys {
			l := makeOf(x, key)
			for j, y := range trees {
				f, err := Check(y.Root(), l)
				if (err == nil) != (x.Root() == y.Root()) {
					t.Fatalf("P10.2: tree %d's tokens of %q, of tree %d's root: %v", i, key, j, err)
				}
				if err != nil {
					continue
				}
				for _, k := range keys {
					holdGet(t, y, l, f, k)
				}
			}
		}
	}
}

// An inner node's bytes are no leaf's, nor a leaf's an inner node's.
func TestNoInnerNodeIsALeaf(t *testing.T) {
	x := grown(t, "abcd")
	top, _ := x.Node(nil)
	for _, value := range [][]byte{slices.Concat(top.Left[:], top.Right[:]), top.Left[:], nil} {
		for _, key := range []string{"c", "\x02", "\x02\x00\x00\x00\x00\x00\x00\x00\x04"} {
			wantCheck(t, fmt.Sprintf("a leaf %q", key), x.Root(), []api.Token{{Kind: api.TLeaf, Key: []byte(key), Value: value}}, api.ErrRoot)
		}
	}
}

// Any node may be hidden: what is known of what is left is so.
func TestOneMoreHidden(t *testing.T) {
	x := grown(t, "gcaebdfhijk")
	keys := between(strings.Split("abcdefghijk", ""))
	l := makeOf(x, strings.Split("abcdefghijk", "")...)
	for i := range l {
		for end := i + 1; end <= len(l); end++ {
			if refShape(l[i:end]) != api.OK {
				continue
			}
			m := slices.Concat(l[:i], []api.Token{{Kind: api.THidden, Hash: refRoot(l[i:end])}}, l[end:])
			f, err := Check(x.Root(), m)
			wantCode(t, "P10.2", short(m), err, api.OK)
			for _, key := range keys {
				holdGet(t, x, m, f, key)
			}
			break
		}
	}
}

func TestGet(t *testing.T) {
	for _, c := range []struct{ row, known, unknown string }{
		{".", "", "a b z"},
		{"b", "a b bb c", ""},
		{". b", "b bb c", "a"},
		{"b .", "a b", "bb c"},
		{". b .", "b", "a bb c"},
		{"b d", "a b c d e", ""},
		{"b . d", "a b d e", "bb c cc"},
		{". b d .", "b bb c d", "a dd e"},
		{"b . d . f", "a b d f g", "c e"},
		{"b d . f", "a b c d f g", "dd e"},
		{"b . . . f h", "a b f g h i", "bb c d e"},
		{". . b d . .", "b c d", "a e"},
	} {
		l := rowOf(c.row)
		f, err := Check(refRoot(l), l)
		wantCode(t, "P10.2", c.row, err, api.OK)
		for _, key := range strings.Fields(c.known + " " + c.unknown) {
			want := "none"
			switch {
			case slices.Contains(strings.Fields(c.row), key):
				want = "value of " + key
			case slices.Contains(strings.Fields(c.unknown), key):
				want = "unknown"
			}
			if is := got(f, []byte(key)); is != want || refGet(l, key) != want {
				t.Errorf("P10.3: of %s Get of %s: %s, not %s", c.row, key, is, want)
			}
		}
	}
}

func TestGetOfKeyLengths(t *testing.T) {
	x := put(t, put(t, tree.New(), strings.Repeat("k", 96), "long"), "k", "")
	l := makeOf(x, "k", strings.Repeat("k", 96))
	f, err := Check(x.Root(), l)
	wantCode(t, "P10.2", "two leaves", err, api.OK)
	for n, want := range map[int]string{0: "unknown", 1: "value ", 2: "none", 95: "none", 96: "value long", 97: "unknown", 98: "unknown", 257: "unknown", 352: "unknown", 70000: "unknown"} {
		if is := got(f, []byte(strings.Repeat("k", n))); is != want {
			t.Errorf("P10.3: Get of a key of %d bytes: %s, not %s", n, is, want)
		}
	}
	if is := got(f, nil); is != "unknown" {
		t.Errorf("P10.3: Get of a nil key: %s", is)
	}
}

// Facts that are nil, or that no Check made, show nothing.
func TestNoFacts(t *testing.T) {
	var none *Facts
	for name, f := range map[string]*Facts{"nil": none, "zero": {}} {
		for _, key := range [][]byte{nil, {}, []byte("a"), make([]byte, 96), make([]byte, 97)} {
			if v, is, known := f.Get(key); len(v) != 0 || is || known {
				t.Errorf("R7: Get of facts that are %s: %q, %t, %t", name, v, is, known)
			}
		}
	}
}
