package cache

import (
	"bytes"
	"fmt"
	"math/rand"
	"slices"
	"strings"
	"testing"

	"ferryman/api"
	"ferryman/nodes"
	"ferryman/tree"
)

// An empty tree's root is asked no base: it has no node.
func TestGetOfAnEmptyTree(t *testing.T) {
	x := keyed(t, "a", "b")
	for _, b := range []*nodes.Base{nodes.New(), saved(t, tree.New()), saved(t, x)} {
		c := made(t, b, 2)
		for _, key := range []string{"", "a", "b", strings.Repeat("k", 97)} {
			wantNothing(t, c, tree.Empty(), key, api.OK)
			wantAsTree(t, "an empty tree", c, tree.New(), key)
		}
		wantList(t, "an empty tree", c, nil)
	}
	c := made(t, saved(t, x), 3)
	wantAsTree(t, "two keys", c, x, "a")
	was := c.List()
	wantNothing(t, c, tree.Empty(), "a", api.OK)
	wantList(t, "an empty tree behind another", c, was)
}

func TestGetOfOneLeaf(t *testing.T) {
	for _, key := range []string{"\x00", "m", strings.Repeat("m", 96)} {
		x := keyed(t, key)
		c := made(t, saved(t, x), 1)
		wantValue(t, c, x.Root(), key, "of "+key)
		for _, other := range []string{"", "a", "l", key + "\x00", "n", "\xff", strings.Repeat("m", 95), strings.Repeat("m", 97)} {
			wantNothing(t, c, x.Root(), other, api.OK)
			wantList(t, "one leaf", c, []api.Hash{x.Root()})
		}
	}
}

func TestGetOfAnEmptyValue(t *testing.T) {
	x := put(t, put(t, tree.New(), "a", ""), "b", "")
	c := made(t, saved(t, x), 3)
	wantValue(t, c, x.Root(), "a", "")
	wantValue(t, c, x.Root(), "b", "")
	wantNothing(t, c, x.Root(), "c", api.OK)
}

// Of each inner node: a key just below its Key goes to the left, its Key and one just above it to the right.
func TestGetGoesDown(t *testing.T) {
	x := numbered(t, 50)
	c := made(t, saved(t, x), 4096)
	for _, n := range x.Nodes() {
		key := string(n.Key)
		for _, k := range []string{key, key + "\x00", key[:len(key)-1], key[:len(key)-1] + string([]byte{key[len(key)-1] - 1}) + "\xff"} {
			wantAsTree(t, "about an inner node's Key", c, x, k)
			passed := way(t, x, k)
			if l := c.List(); len(l) < len(passed) || !slices.Equal(l[len(l)-len(passed):], passed) {
				t.Fatalf("P8.2: Get of %q didn't read the way down", k)
			}
		}
	}
}

// Keys are compared as texts: bytes beyond 127, and a key ahead of one that goes on.
func TestGetOfUnlikeKeys(t *testing.T) {
	keys := []string{"\x00", "\x00\x00", "a", "ab", "b", "\x7f", "\x80", "\xff", "\xff\xff", strings.Repeat("a", 96), strings.Repeat("\xff", 96)}
	x := keyed(t, keys...)
	for _, room := range []int{1, 2, 100} {
		c := made(t, saved(t, x), room)
		for _, k := range keys {
			wantValue(t, c, x.Root(), k, "of "+k)
		}
		for _, k := range []string{"", "\x00\x00\x00", "\x01", "aa", "ac", "c", "\x81", "\xfe", "\xff\xff\xff", strings.Repeat("a", 95), strings.Repeat("a", 97), strings.Repeat("\xff", 97), strings.Repeat("z", 1000)} {
			wantNothing(t, c, x.Root(), k, api.OK)
		}
	}
}

func TestGetOfANilKey(t *testing.T) {
	x := keyed(t, "a", "b")
	c := made(t, saved(t, x), 2)
	for _, key := range [][]byte{nil, {}} {
		if v, is, e := c.Get(x.Root(), key); len(v) != 0 || is || e != api.OK {
			t.Errorf("P8.2: Get of no key: %q, %t, %d", v, is, e)
		}
		wantList(t, "no key", c, []api.Hash{x.Root(), leafSum("a")})
	}
}

func TestListBehindGets(t *testing.T) {
	x := keyed(t, "a", "b", "c", "d")
	c := made(t, saved(t, x), 7)
	l, r := keyed(t, "a", "b").Root(), keyed(t, "c", "d").Root()
	a, b, d := leafSum("a"), leafSum("b"), leafSum("d")
	steps := []struct {
		key  string
		want []api.Hash
	}{
		{"a", []api.Hash{x.Root(), l, a}},
		{"a", []api.Hash{x.Root(), l, a}},
		{"b", []api.Hash{a, x.Root(), l, b}},
		{"e", []api.Hash{a, l, b, x.Root(), r, d}},
		{"", []api.Hash{b, r, d, x.Root(), l, a}},
	}
	for i, s := range steps {
		c.Get(x.Root(), []byte(s.key))
		wantList(t, fmt.Sprintf("Get %d, of %q", i, s.key), c, s.want)
	}
}

func TestListBehindGetsWithLittleRoom(t *testing.T) {
	x := numbered(t, 30)
	for _, room := range []int{1, 2, 3, 4} {
		c := made(t, saved(t, x), room)
		for i := range 32 {
			key := fmt.Sprint("key ", i)
			wantAsTree(t, "little room", c, x, key)
			passed := way(t, x, key)
			wantList(t, "little room", c, passed[len(passed)-room:])
		}
	}
}

func TestGetOfRootsThatAreNot(t *testing.T) {
	x := keyed(t, "a", "b", "c")
	c := made(t, saved(t, x), 2)
	wantAsTree(t, "a root that is", c, x, "a")
	was := c.List()
	for _, h := range []api.Hash{{}, {1}, leafSum("d"), keyed(t, "a", "b").Root()} {
		for _, key := range []string{"", "a", "d"} {
			wantNothing(t, c, h, key, api.ErrNone)
		}
	}
	wantList(t, "roots that aren't", c, was)
}

// A lower node is the root of the tree beneath it.
func TestGetFromLowerNodes(t *testing.T) {
	x := keyed(t, "a", "b", "c", "d", "e")
	c := made(t, saved(t, x), 3)
	for _, low := range []*tree.Tree{keyed(t, "a", "b"), keyed(t, "c"), keyed(t, "d", "e")} {
		for _, key := range []string{"", "a", "b", "c", "d", "e", "f"} {
			wantAsTree(t, "a lower node", c, low, key)
		}
	}
}

// An error midway: the base has let go what isn't cached. What was read up to there is cached, the youngest last.
func TestGetEndsMidway(t *testing.T) {
	x := numbered(t, 40)
	for _, key := range []string{"key 0", "key 17", "key 39", "not there"} {
		passed := way(t, x, key)
		for deep := range len(passed) {
			b := saved(t, x, keyed(t, "x"))
			c := made(t, b, 20)
			// Turned round, so that reading again is to be seen in the order.
			for i := range deep {
				read(t, c, passed[deep-1-i])
			}
			read(t, c, leafSum("x"))
			b.Keep([]api.Hash{leafSum("x")})
			wantNothing(t, c, x.Root(), key, api.ErrNone)
			wantList(t, fmt.Sprint("ended at ", deep), c, append([]api.Hash{leafSum("x")}, passed[:deep]...))
		}
	}
}

// An error behind nodes that the base has still: they come, and the oldest goes for them.
func TestGetEndsMidwayBehindTheBase(t *testing.T) {
	x := keyed(t, "a", "b", "c", "d")
	left := keyed(t, "a", "b")
	b := saved(t, x)
	c := made(t, b, 2)
	read(t, c, leafSum("d"), x.Root())
	b.Keep([]api.Hash{left.Root()})
	wantNothing(t, c, x.Root(), "c", api.ErrNone)
	wantList(t, "to the right there is nothing", c, []api.Hash{leafSum("d"), x.Root()})
	wantAsTree(t, "to the left there is all", c, x, "a")
	wantList(t, "to the left there is all", c, []api.Hash{left.Root(), leafSum("a")})
	wantNothing(t, c, x.Root(), "a", api.ErrNone)
	wantList(t, "the root was lost", c, []api.Hash{left.Root(), leafSum("a")})
}

// A Get that its own reading robs of what it needs next reads it out of the base, or ends.
func TestGetWithRoomForOne(t *testing.T) {
	x := keyed(t, "a", "b")
	b := saved(t, x)
	c := made(t, b, 1)
	read(t, c, leafSum("b"))
	b.Keep([]api.Hash{x.Root()})
	wantValue(t, c, x.Root(), "b", "of b")
	read(t, c, x.Root())
	b.Keep(nil)
	wantNothing(t, c, x.Root(), "b", api.ErrNone)
	wantList(t, "the root alone", c, []api.Hash{x.Root()})
}

// P8.3: rooms of all sizes, nodes thrown out between the calls, trees that share nodes.
func TestGetAsTheTree(t *testing.T) {
	r := rand.New(rand.NewSource(8))
	trees := []*tree.Tree{tree.New()}
	for i := range 60 {
		x := put(t, trees[i], fmt.Sprint("key ", r.Intn(90)), fmt.Sprint(i))
		if y, is := x.Cut([]byte(fmt.Sprint("key ", r.Intn(90)))); is {
			x = y
		}
		trees = append(trees, x)
	}
	b := saved(t, trees...)
	for _, room := range []int{1, 2, 3, 10, 100, 4096} {
		c := made(t, b, room)
		for _, x := range trees {
			for range 40 {
				wantAsTree(t, fmt.Sprint("room ", room), c, x, fmt.Sprint("key ", r.Intn(92)))
				if r.Intn(2) == 0 {
					c.Evict(r.Intn(room))
				}
				if many := len(c.List()); many > room {
					t.Fatalf("P8.1: %d cached, with room for %d", many, room)
				}
			}
		}
	}
}

func TestAllKeysOfAGreatTree(t *testing.T) {
	x := numbered(t, 3000)
	c := made(t, saved(t, x), 64)
	for _, p := range x.All() {
		wantAsTree(t, "a great tree", c, x, string(p.Key))
		wantAsTree(t, "a great tree", c, x, string(p.Key)+"+")
	}
}

func TestNilCache(t *testing.T) {
	var c *Cache
	for _, h := range []api.Hash{{}, tree.Empty(), leafSum("a")} {
		if n, e := c.Node(h); !same(n, api.Node{}) || e != api.ErrNil {
			t.Errorf("R7: Node: %v, %d; want ErrNil", n, e)
		}
		for _, key := range [][]byte{nil, []byte("a")} {
			if v, is, e := c.Get(h, key); len(v) != 0 || is || e != api.ErrNil {
				t.Errorf("R7: Get: %q, %t, %d; want ErrNil", v, is, e)
			}
		}
	}
	for _, i := range []int{-1, 0, 1} {
		if c.Evict(i) {
			t.Errorf("R7: Evict(%d) of a nil cache", i)
		}
	}
	if l := c.List(); len(l) != 0 {
		t.Errorf("R7: List: %d", len(l))
	}
}

// A cache that New didn't make has no base: it must not panic (P1).
func TestZeroCache(t *testing.T) {
	var c Cache
	wantNone(t, &c, api.Hash{}, tree.Empty(), leafSum("a"))
	wantNothing(t, &c, leafSum("a"), "a", api.ErrNone)
	wantNothing(t, &c, tree.Empty(), "a", api.OK)
	evict(t, &c, 0, false)
	wantList(t, "zero", &c, nil)
}

// A base that nodes.New didn't make is an empty one.
func TestCacheOfAZeroBase(t *testing.T) {
	var b nodes.Base
	x := keyed(t, "a", "b")
	c := made(t, &b, 2)
	wantNone(t, c, sums(x)...)
	b.Save(x)
	wantAsTree(t, "a zero base that grew", c, x, "b")
}

// spoil: each byte another one, in the spare room, too.
func spoil(b []byte) {
	b = b[:cap(b)]
	for i := range b {
		b[i] ^= 0xa5
	}
}

func TestChangedAnswersChangeNothing(t *testing.T) {
	x := numbered(t, 20)
	c := made(t, saved(t, x), 100)
	for range 3 {
		for _, n := range x.Nodes() {
			wantNode(t, c, n)
			one, _ := c.Node(tree.Hash(n))
			two, _ := c.Node(tree.Hash(n))
			spoil(one.Key)
			spoil(one.Value)
			if !same(two, n) {
				t.Fatal("R6: two answers of Node share memory")
			}
			spoil(two.Key)
			spoil(two.Value)
		}
		for _, p := range x.All() {
			wantAsTree(t, "answers changed", c, x, string(p.Key))
			one, _, _ := c.Get(x.Root(), p.Key)
			two, _, _ := c.Get(x.Root(), p.Key)
			spoil(one)
			if !bytes.Equal(two, p.Value) {
				t.Fatal("R6: two answers of Get share memory")
			}
			spoil(two)
		}
	}
	for _, n := range x.Nodes() {
		wantNode(t, c, n)
	}
}

func TestChangedListsChangeNothing(t *testing.T) {
	x := numbered(t, 9)
	c := made(t, saved(t, x), 20)
	for many, h := range sums(x) {
		read(t, c, h)
		one, two := c.List(), c.List()
		one = one[:cap(one)]
		for i := range one {
			one[i] = api.Hash{byte(i)}
		}
		if !slices.Equal(two, sums(x)[:many+1]) {
			t.Fatal("R6: two answers of List share memory")
		}
		wantList(t, "a list changed", c, sums(x)[:many+1])
	}
	evict(t, c, len(sums(x))-1, true)
	l := c.List()
	l = append(l, api.Hash{7})
	l[0] = api.Hash{8}
	wantList(t, "a list longer", c, sums(x)[:len(sums(x))-1])
}

// What was answered stays as it is, whatever comes and goes behind it.
func TestAnswersStay(t *testing.T) {
	x := numbered(t, 9)
	b := saved(t, x)
	c := made(t, b, 5)
	all := sums(x)
	read(t, c, all[:5]...)
	l := c.List()
	n, _ := c.Node(all[16])
	was, _ := tree.New().Put(n.Key, n.Value)
	v, _, _ := c.Get(x.Root(), []byte("key 3"))
	evict(t, c, 0, true)
	evict(t, c, 2, true)
	read(t, c, all...)
	b.Keep(nil)
	evictAll(t, c)
	if !slices.Equal(l, all[:5]) || string(v) != "3" || was.Root() != tree.Hash(n) || tree.Hash(n) != all[16] {
		t.Error("R6: an answer changed")
	}
}

func TestGetLeavesItsKeyAlone(t *testing.T) {
	x := keyed(t, "a", "b", "key")
	c := made(t, saved(t, x), 5)
	whole := []byte("key and spare room")
	was := bytes.Clone(whole)
	if v, is, e := c.Get(x.Root(), whole[:3]); string(v) != "of key" || !is || e != api.OK {
		t.Fatalf("P8.2: Get: %q, %t, %d", v, is, e)
	}
	if !bytes.Equal(whole, was) {
		t.Error("R6: Get changed its key, or the spare room behind it")
	}
	spoil(whole)
	for _, n := range x.Nodes() {
		wantNode(t, c, n)
	}
	wantValue(t, c, x.Root(), "key", "of key")
}

// Reading leaves the base alone.
func TestBaseIsLeftAlone(t *testing.T) {
	x := numbered(t, 12)
	b := saved(t, x)
	c := made(t, b, 3)
	for range 2 {
		read(t, c, sums(x)...)
		c.Get(x.Root(), []byte("key 3"))
		c.Evict(1)
	}
	if b.Len() != 23 {
		t.Errorf("R6: the base has %d nodes", b.Len())
	}
	for _, n := range x.Nodes() {
		want, _ := nodes.Encode(n)
		if v, is := b.Get(tree.Hash(n)); !is || !bytes.Equal(v, want) {
			t.Errorf("R6: the base has %x", v)
		}
	}
}
