package nodes

import (
	"bytes"
	"fmt"
	"math/rand"
	"slices"
	"testing"

	"ferryman/api"
	"ferryman/tree"
)

func put(t *testing.T, x *tree.Tree, key, value string) *tree.Tree {
	t.Helper()
	y, e := x.Put([]byte(key), []byte(value))
	if e != api.OK {
		t.Fatalf("Put of %q: %d", key, e)
	}
	return y
}

func cut(t *testing.T, x *tree.Tree, key string) *tree.Tree {
	t.Helper()
	y, is := x.Cut([]byte(key))
	if !is {
		t.Fatalf("Cut of %q: it isn't there", key)
	}
	return y
}

func keyed(t *testing.T, keys ...string) *tree.Tree {
	t.Helper()
	x := tree.New()
	for _, k := range keys {
		x = put(t, x, k, "of "+k)
	}
	return x
}

// grown: so many trees, each with a key more than the one ahead of it, the first one empty.
func grown(t *testing.T, many int) []*tree.Tree {
	t.Helper()
	trees := []*tree.Tree{tree.New()}
	for i := 1; i < many; i++ {
		trees = append(trees, put(t, trees[i-1], fmt.Sprintf("key %d", i*37%many), fmt.Sprint(i)))
	}
	return trees
}

func save(t *testing.T, b *Base, x *tree.Tree) {
	t.Helper()
	if h, e := b.Save(x); h != x.Root() || e != api.OK {
		t.Fatalf("P7.2: Save: %x, %d; want the root %x", h, e, x.Root())
	}
}

func saved(t *testing.T, trees ...*tree.Tree) *Base {
	t.Helper()
	b := New()
	for _, x := range trees {
		save(t, b, x)
	}
	return b
}

func roots(trees ...*tree.Tree) []api.Hash {
	var l []api.Hash
	for _, x := range trees {
		l = append(l, x.Root())
	}
	return l
}

// laid: a node's bytes, laid by hand.
func laid(n api.Node) string {
	b := field(1, string(n.Key))
	if n.Height > 0 {
		return b + number(3, uint64(n.Height)) + number(4, n.Size) + sumField(5, n.Left) + sumField(6, n.Right)
	}
	if len(n.Value) > 0 {
		b += field(2, string(n.Value))
	}
	return b
}

// shelf is what a base must have: nodes by their sums.
type shelf map[api.Hash]api.Node

func shelfOf(trees ...*tree.Tree) shelf {
	s := shelf{}
	for _, x := range trees {
		s.add(x)
	}
	return s
}

func (s shelf) add(x *tree.Tree) {
	for _, n := range x.Nodes() {
		s[tree.Hash(n)] = n
	}
}

// from: what is come to from these sums.
func (s shelf) from(roots []api.Hash) shelf {
	out := shelf{}
	for work := slices.Clone(roots); len(work) > 0; work = work[1:] {
		n, is := s[work[0]]
		if !is {
			continue
		}
		out[work[0]] = n
		if n.Height > 0 {
			work = append(work, n.Left, n.Right)
		}
	}
	return out
}

func (s shelf) sums() []api.Hash {
	var l []api.Hash
	for h := range s {
		l = append(l, h)
	}
	slices.SortFunc(l, func(x, y api.Hash) int { return bytes.Compare(x[:], y[:]) })
	return l
}

// wantNone: there is nothing under these sums.
func wantNone(t *testing.T, name string, b *Base, sums ...api.Hash) {
	t.Helper()
	for _, h := range sums {
		if v, is := b.Get(h); is || len(v) != 0 {
			t.Fatalf("P7.2: %s: Get of %x: %x, %t; want nothing", name, h, v, is)
		}
	}
}

// wantAs: the base has just what is on the shelf.
func wantAs(t *testing.T, name string, b *Base, s shelf) {
	t.Helper()
	if b.Len() != len(s) {
		t.Fatalf("P7.2: %s: Len %d; want %d", name, b.Len(), len(s))
	}
	for h, n := range s {
		if v, is := b.Get(h); !is || string(v) != laid(n) {
			t.Fatalf("P7.2: %s: Get of %x: %x, %t; want %x", name, h, v, is, laid(n))
		}
	}
	wantNone(t, name, b, api.Hash{}, tree.Empty(), sumOf(200))
}

func keep(t *testing.T, name string, b *Base, l []api.Hash, want int) {
	t.Helper()
	if n := b.Keep(l); n != want {
		t.Fatalf("P7.2: %s: Keep of %d roots: %d went; want %d", name, len(l), n, want)
	}
}

func TestBaseExample(t *testing.T) {
	x := put(t, tree.New(), "a", "")
	y := put(t, x, "b", "")
	b := saved(t, x, y)
	wantAs(t, "two trees", b, shelfOf(y))
	if b.Len() != 3 {
		t.Errorf("P7.2: Len %d", b.Len())
	}
	keep(t, "the lesser one", b, roots(x), 2)
	wantAs(t, "the lesser one", b, shelfOf(x))
}

func TestNewBase(t *testing.T) {
	b := New()
	if b == nil {
		t.Fatal("P7.2: New: nil")
	}
	wantAs(t, "new", b, nil)
	keep(t, "new", b, nil, 0)
	keep(t, "new", b, []api.Hash{{}, tree.Empty(), sumOf(1)}, 0)
	wantAs(t, "new, kept", b, nil)
}

func TestSaveOfEachSize(t *testing.T) {
	for many, x := range grown(t, 80) {
		b := saved(t, x)
		wantAs(t, fmt.Sprint("keys: ", many), b, shelfOf(x))
		if want := max(0, 2*many-1); b.Len() != want {
			t.Errorf("P7.2: %d keys: Len %d; want %d", many, b.Len(), want)
		}
	}
}

func TestSaveOfEdges(t *testing.T) {
	x := tree.New()
	for i, size := range []int{0, 1, 255, 256} {
		x = put(t, x, fmt.Sprint(i), long(size))
		x = put(t, x, long(95)+fmt.Sprint(i), long(size))
		x = put(t, x, string([]byte{byte(i)}), "\x00\xff")
	}
	wantAs(t, "long keys and values", saved(t, x), shelfOf(x))
}

// What is saved is all that a reader needs: from the root down by Get and Decode stand the tree's pairs.
func TestReadBack(t *testing.T) {
	x := grown(t, 200)[199]
	b := saved(t, x)
	var pairs []api.Pair
	var read func(h api.Hash)
	read = func(h api.Hash) {
		v, is := b.Get(h)
		n, e := Decode(v)
		if !is || e != api.OK || tree.Hash(n) != h {
			t.Fatalf("P7.2: Get of %x: %x, %t, %d", h, v, is, e)
		}
		if n.Height == 0 {
			pairs = append(pairs, api.Pair{Key: n.Key, Value: n.Value})
			return
		}
		read(n.Left)
		read(n.Right)
	}
	read(x.Root())
	if !slices.EqualFunc(pairs, x.All(), func(p, q api.Pair) bool {
		return bytes.Equal(p.Key, q.Key) && bytes.Equal(p.Value, q.Value)
	}) {
		t.Errorf("P7.2: %d pairs that aren't the tree's", len(pairs))
	}
}

func TestSaveTwice(t *testing.T) {
	x := keyed(t, "c", "a", "b", "e", "d")
	twin := keyed(t, "c", "a", "b", "e", "d")
	b := saved(t, x)
	for range 3 {
		save(t, b, x)
		wantAs(t, "saved again", b, shelfOf(x))
		save(t, b, twin)
		wantAs(t, "its twin saved", b, shelfOf(x))
	}
	keep(t, "saved often", b, roots(x), 0)
	keep(t, "saved often", b, nil, 9)
	wantAs(t, "saved often, then nothing kept", b, nil)
}

func TestSharedNodes(t *testing.T) {
	x := grown(t, 33)[32]
	more := put(t, x, "key more", "m")
	less := cut(t, x, "key 7")
	other := put(t, x, "key 9", "another")
	b := saved(t, x)
	for i, y := range []*tree.Tree{more, less, other, tree.New()} {
		was := b.Len()
		save(t, b, y)
		// A way down of at most some eight nodes is new.
		if b.Len() > was+8 {
			t.Errorf("P7.2: tree %d: %d nodes more", i, b.Len()-was)
		}
	}
	all := shelfOf(x, more, less, other)
	wantAs(t, "shared", b, all)
	if sum := len(shelfOf(x)) + len(shelfOf(more)) + len(shelfOf(less)) + len(shelfOf(other)); len(all) >= sum {
		t.Errorf("the trees share nothing: %d of %d", len(all), sum)
	}
	left := shelfOf(more, other)
	keep(t, "shared", b, roots(more, other), len(all)-len(left))
	wantAs(t, "shared, two kept", b, left)
	keep(t, "shared", b, roots(other), len(left)-len(shelfOf(other)))
	wantAs(t, "shared, one kept", b, shelfOf(other))
}

func TestEmptyTrees(t *testing.T) {
	x := keyed(t, "a")
	bare := cut(t, x, "a")
	for name, none := range map[string]*tree.Tree{"new": tree.New(), "a zero": {}, "cut bare": bare} {
		b := New()
		if h, e := b.Save(none); h != tree.Empty() || e != api.OK {
			t.Errorf("P7.2: Save of an empty tree, %s: %x, %d", name, h, e)
		}
		wantAs(t, name, b, nil)
		save(t, b, x)
		save(t, b, none)
		wantAs(t, name+", behind another", b, shelfOf(x))
		keep(t, name, b, roots(none), 1)
		wantAs(t, name+", kept alone", b, nil)
	}
}

func TestKeepOfNoRoot(t *testing.T) {
	for _, none := range [][]api.Hash{nil, {}} {
		trees := grown(t, 12)
		b := saved(t, trees...)
		keep(t, "no root", b, none, len(shelfOf(trees...)))
		wantAs(t, "no root", b, nil)
		wantNone(t, "no root", b, shelfOf(trees...).sums()...)
		keep(t, "no root again", b, none, 0)
	}
}

func TestKeepOfAllRoots(t *testing.T) {
	trees := grown(t, 20)
	b := saved(t, trees...)
	for range 2 {
		keep(t, "all roots", b, roots(trees...), 0)
		wantAs(t, "all roots", b, shelfOf(trees...))
	}
}

func TestKeepOfEachRoot(t *testing.T) {
	trees := grown(t, 20)
	all := shelfOf(trees...)
	for i, x := range trees {
		b := saved(t, trees...)
		keep(t, fmt.Sprint("root ", i), b, roots(x), len(all)-len(shelfOf(x)))
		wantAs(t, fmt.Sprint("root ", i), b, shelfOf(x))
		keep(t, fmt.Sprint("root again ", i), b, roots(x), 0)
	}
}

func TestKeepOfRootsThatAreNot(t *testing.T) {
	x, y := keyed(t, "a", "b", "c"), keyed(t, "d", "e")
	strange := []api.Hash{{}, tree.Empty(), sumOf(5), keyed(t, "z").Root(), keyed(t, "a", "b").Root()}
	b := saved(t, x, y)
	keep(t, "a strange root and one that is", b, append(slices.Clone(strange), x.Root()), 3)
	wantAs(t, "a strange root and one that is", b, shelfOf(x))
	for _, h := range strange {
		b := saved(t, x, y)
		keep(t, fmt.Sprintf("%x alone", h), b, []api.Hash{h}, 8)
		wantAs(t, "a strange root alone", b, nil)
	}
}

func TestKeepOfARootTwice(t *testing.T) {
	trees := grown(t, 9)
	x, y := trees[8], trees[5]
	all := shelfOf(trees...)
	b := saved(t, trees...)
	want := shelfOf(x, y)
	keep(t, "named twice", b, roots(x, y, x, x, y), len(all)-len(want))
	wantAs(t, "named twice", b, want)
	keep(t, "one named twice", b, roots(y, y), len(want)-len(shelfOf(y)))
	wantAs(t, "one named twice", b, shelfOf(y))
}

// A root need not be a tree's upmost node.
func TestKeepOfLowerNodes(t *testing.T) {
	x := grown(t, 16)[15]
	all := shelfOf(x)
	for _, h := range all.sums() {
		b := saved(t, x)
		want := all.from([]api.Hash{h})
		keep(t, fmt.Sprintf("%x alone", h), b, []api.Hash{h}, len(all)-len(want))
		wantAs(t, "a lower node", b, want)
		save(t, b, x)
		wantAs(t, "saved again", b, all)
		keep(t, "a lower node and the root", b, []api.Hash{h, x.Root()}, 0)
	}
}

func TestSavedAgain(t *testing.T) {
	trees := grown(t, 24)
	all := shelfOf(trees...)
	b := saved(t, trees...)
	for i, x := range trees {
		keep(t, "one", b, roots(x), len(all)-len(shelfOf(x)))
		for j := range trees {
			save(t, b, trees[(i+j)%len(trees)])
		}
		wantAs(t, fmt.Sprint("all saved again behind Keep of ", i), b, all)
	}
}

func TestNilBase(t *testing.T) {
	var b *Base
	for name, x := range map[string]*tree.Tree{"nil": nil, "empty": tree.New(), "full": keyed(t, "a", "b")} {
		if h, e := b.Save(x); h != (api.Hash{}) || e != api.ErrNil {
			t.Errorf("R7: Save of a tree that is %s: %x, %d; want ErrNil", name, h, e)
		}
	}
	if n := b.Len(); n != 0 {
		t.Errorf("R7: Len %d", n)
	}
	for _, l := range [][]api.Hash{nil, {{}}, {tree.Empty(), sumOf(1)}} {
		if n := b.Keep(l); n != 0 {
			t.Errorf("R7: Keep: %d", n)
		}
	}
	for _, h := range []api.Hash{{}, tree.Empty(), keyed(t, "a").Root()} {
		if v, is := b.Get(h); is || len(v) != 0 {
			t.Errorf("R7: Get: %x, %t", v, is)
		}
	}
}

func TestNilTree(t *testing.T) {
	trees := grown(t, 6)
	for i := range trees {
		b := saved(t, trees[:i]...)
		for range 2 {
			if h, e := b.Save(nil); h != (api.Hash{}) || e != api.ErrNil {
				t.Errorf("P7.2: Save of nil: %x, %d; want ErrNil", h, e)
			}
			wantAs(t, "behind a nil tree", b, shelfOf(trees[:i]...))
		}
	}
}

// A base that New didn't make must not panic (P1).
func TestZeroBase(t *testing.T) {
	var b Base
	wantAs(t, "zero", &b, nil)
	keep(t, "zero", &b, []api.Hash{{}}, 0)
	x := keyed(t, "a", "b", "c")
	save(t, &b, tree.New())
	save(t, &b, x)
	wantAs(t, "zero, saved", &b, shelfOf(x))
	keep(t, "zero, saved", &b, nil, 5)
}

func TestBasesAreApart(t *testing.T) {
	x, y := keyed(t, "a", "b", "c"), keyed(t, "b", "c", "d", "e")
	one, two := saved(t, x), saved(t, y)
	wantAs(t, "the one", one, shelfOf(x))
	wantAs(t, "the other", two, shelfOf(y))
	keep(t, "the one", one, nil, 5)
	wantAs(t, "the other, still", two, shelfOf(y))
	save(t, one, y)
	keep(t, "the other", two, roots(x), 7)
	wantAs(t, "the one, still", one, shelfOf(y))
}

// In which order trees come is nothing to what is there (R8).
func TestOrderOfSaves(t *testing.T) {
	trees := grown(t, 30)
	turned := slices.Clone(trees)
	slices.Reverse(turned)
	wantAs(t, "rising", saved(t, trees...), shelfOf(trees...))
	wantAs(t, "falling", saved(t, turned...), shelfOf(trees...))
	r := rand.New(rand.NewSource(3))
	for range 5 {
		r.Shuffle(len(turned), func(i, j int) { turned[i], turned[j] = turned[j], turned[i] })
		wantAs(t, "shuffled", saved(t, turned...), shelfOf(trees...))
	}
}

func TestChangedAnswersChangeNothing(t *testing.T) {
	x := grown(t, 40)[39]
	b, s := saved(t, x), shelfOf(x)
	for _, h := range s.sums() {
		one, _ := b.Get(h)
		two, _ := b.Get(h)
		scribble(reachAll(one))
		if string(two) != laid(s[h]) {
			t.Errorf("R6: two answers of Get share memory: %x", two)
		}
	}
	wantAs(t, "answers changed", b, s)
	h, _ := b.Save(x)
	scribble(h[:])
	wantAs(t, "a root changed", b, s)
	wantAs(t, "the tree's nodes changed", saved(t, x), s)
	keep(t, "answers changed", b, roots(x), 0)
}

// What is answered stays when its node goes.
func TestAnswersStay(t *testing.T) {
	x := keyed(t, "a", "b", "c")
	b, s := saved(t, x), shelfOf(x)
	kept := map[api.Hash][]byte{}
	for h := range s {
		kept[h], _ = b.Get(h)
	}
	keep(t, "all go", b, nil, 5)
	save(t, b, keyed(t, "x", "y", "z"))
	for h, v := range kept {
		if string(v) != laid(s[h]) {
			t.Errorf("R6: an answer of Get changed: %x", v)
		}
	}
}

func TestSaveLeavesTheTreeAlone(t *testing.T) {
	x, other := grown(t, 15)[14], keyed(t, "other")
	was := x.All()
	mine := *x
	b := New()
	save(t, b, &mine)
	if mine != *x || x.Root() != mine.Root() {
		t.Error("R6: Save changed the tree that was handed in")
	}
	for i, p := range x.All() {
		if !bytes.Equal(p.Key, was[i].Key) || !bytes.Equal(p.Value, was[i].Value) {
			t.Error("R6: Save changed a pair of the tree")
		}
	}
	mine = *other
	wantAs(t, "another tree laid there", b, shelfOf(x))
}

// Keys and values that were handed to the tree may change afterwards.
func TestKeysHandedInMayChange(t *testing.T) {
	key, value := []byte("key"), []byte("value")
	x, _ := tree.New().Put(key, value)
	b := saved(t, x)
	scribble(key)
	scribble(value)
	if v, is := b.Get(x.Root()); !is || string(v) != field(1, "key")+field(2, "value") {
		t.Errorf("R6: Get: %x, %t", v, is)
	}
}

func TestKeepLeavesItsRootsAlone(t *testing.T) {
	trees := grown(t, 10)
	b := saved(t, trees...)
	whole := append(roots(trees[9], trees[3], trees[9]), sumOf(1), sumOf(2), sumOf(3))
	was := slices.Clone(whole)
	want := shelfOf(trees[9], trees[3])
	b.Keep(whole[:3])
	if !slices.Equal(whole, was) {
		t.Error("R6: Keep changed its roots, or the spare room behind them")
	}
	for i := range whole {
		whole[i] = sumOf(byte(i))
	}
	wantAs(t, "roots changed afterwards", b, want)
}

// Scripts of Save and Keep, held against shelves.
func TestBaseScripts(t *testing.T) {
	r := rand.New(rand.NewSource(11))
	for script := range 40 {
		b, s, ever := New(), shelf{}, shelf{}
		x := tree.New()
		var known []api.Hash
		for step := range 60 {
			name := fmt.Sprintf("script %d, step %d", script, step)
			key := fmt.Sprint(r.Intn(4 << (script % 4)))
			if r.Intn(3) > 0 {
				x = put(t, x, key, fmt.Sprint(r.Intn(3)))
			} else {
				x, _ = x.Cut([]byte(key))
			}
			if r.Intn(4) > 0 {
				save(t, b, x)
				s.add(x)
				ever.add(x)
				known = append(known, x.Root())
			}
			if r.Intn(6) == 0 {
				l := picked(r, known, ever)
				left := s.from(l)
				keep(t, name, b, l, len(s)-len(left))
				s = left
			}
			wantAs(t, name, b, s)
		}
		for h := range ever {
			if _, is := s[h]; !is {
				wantNone(t, "gone", b, h)
			}
		}
	}
}

// picked: some roots, some lower nodes, some that never were, in any order.
func picked(r *rand.Rand, known []api.Hash, ever shelf) []api.Hash {
	var l []api.Hash
	for _, h := range known {
		if r.Intn(4) == 0 {
			l = append(l, h)
		}
	}
	for _, h := range ever.sums() {
		if r.Intn(40) == 0 {
			l = append(l, h)
		}
	}
	l = append(l, sumOf(byte(r.Intn(256))))
	r.Shuffle(len(l), func(i, j int) { l[i], l[j] = l[j], l[i] })
	return l
}

// Many versions of a great tree: what is new alone is gone into.
func TestManyVersions(t *testing.T) {
	x := tree.New()
	for i := range 4000 {
		x = put(t, x, fmt.Sprint("key ", i), "")
	}
	b := saved(t, x)
	first := x
	var last []*tree.Tree
	for i := range 2000 {
		x = put(t, x, fmt.Sprint("key ", i*7%4000), fmt.Sprint(i))
		save(t, b, x)
		last = append(last, x)
	}
	last = last[len(last)-64:]
	was := b.Len()
	want := shelfOf(last...)
	keep(t, "the last 64", b, roots(last...), was-len(want))
	wantAs(t, "the last 64", b, want)
	wantNone(t, "the first", b, first.Root())
	keep(t, "the last one", b, roots(x), len(want)-7999)
	wantAs(t, "the last one", b, shelfOf(x))
}

// FuzzBase: a script of trees, saved and kept, held against a shelf.
func FuzzBase(f *testing.F) {
	f.Add([]byte{1, 2, 3, 250, 4, 5, 255})
	f.Add([]byte{240, 250, 255, 0, 128, 0, 250, 250})
	f.Add([]byte{9, 240, 9, 241, 10, 242, 251, 11, 252, 255})
	f.Fuzz(func(t *testing.T, script []byte) {
		b, s := New(), shelf{}
		x := tree.New()
		var known []api.Hash
		for _, c := range script {
			switch {
			case c == 255:
				keep(t, "none", b, nil, len(s))
				s = shelf{}
			case c >= 250 && len(known) > 0:
				l := []api.Hash{known[int(c)%len(known)], known[len(known)/2]}
				left := s.from(l)
				keep(t, "two", b, l, len(s)-len(left))
				s = left
			case c >= 200:
				save(t, b, x)
				s.add(x)
				known = append(known, x.Root())
			case c >= 128:
				x, _ = x.Cut([]byte{c % 16})
			default:
				x = put(t, x, string([]byte{c % 16}), string([]byte{c}))
			}
			wantAs(t, "fuzzed", b, s)
		}
	})
}
