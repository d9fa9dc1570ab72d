package cache

import (
	"bytes"
	"fmt"
	"math"
	"slices"
	"strings"
	"testing"

	"ferryman/api"
	"ferryman/nodes"
	"ferryman/tree"
)

func put(t *testing.T, x *tree.Tree, key, value string) *tree.Tree {
	t.Helper()
	y, e := x.Put([]byte(key), []byte(value))
	if e != api.OK {
		t.Fatalf("Put of %q: %d", key, e)
	}
	return y
}

func keyed(t *testing.T, keys ...string) *tree.Tree {
	t.Helper()
	x := tree.New()
	for _, k := range keys {
		x = put(t, x, k, "of "+k)
	}
	return x
}

// numbered: a tree of so many keys.
func numbered(t *testing.T, many int) *tree.Tree {
	t.Helper()
	x := tree.New()
	for i := range many {
		x = put(t, x, fmt.Sprint("key ", i), fmt.Sprint(i))
	}
	return x
}

func saved(t *testing.T, trees ...*tree.Tree) *nodes.Base {
	t.Helper()
	b := nodes.New()
	for _, x := range trees {
		if _, e := b.Save(x); e != api.OK {
			t.Fatalf("Save: %d", e)
		}
	}
	return b
}

func made(t *testing.T, b *nodes.Base, room int) *Cache {
	t.Helper()
	c, e := New(b, room)
	if c == nil || e != api.OK {
		t.Fatalf("P8.1: New with room for %d: %v, %d", room, c, e)
	}
	return c
}

// sums: of all of a tree's nodes, the upmost first.
func sums(x *tree.Tree) []api.Hash {
	var l []api.Hash
	for _, n := range x.Nodes() {
		l = append(l, tree.Hash(n))
	}
	return l
}

// leafSum: of a leaf with that key, made as keyed does.
func leafSum(key string) api.Hash {
	return tree.Hash(api.Node{Key: []byte(key), Value: []byte("of " + key), Size: 1})
}

// way: the sums that are passed from a tree's root to a key's place, found by the tree alone.
func way(t *testing.T, x *tree.Tree, key string) []api.Hash {
	t.Helper()
	var l []api.Hash
	var turns []bool
	for {
		n, is := x.Node(turns)
		if !is {
			t.Fatalf("no node at %v", turns)
		}
		l = append(l, tree.Hash(n))
		if n.Height == 0 {
			return l
		}
		turns = append(turns, key >= string(n.Key))
	}
}

func same(x, y api.Node) bool {
	return bytes.Equal(x.Key, y.Key) && bytes.Equal(x.Value, y.Value) && x.Height == y.Height && x.Size == y.Size && x.Left == y.Left && x.Right == y.Right
}

func wantNode(t *testing.T, c *Cache, n api.Node) {
	t.Helper()
	h := tree.Hash(n)
	if got, e := c.Node(h); e != api.OK || !same(got, n) {
		t.Fatalf("P8.1: Node of %x: %v, %d; want %v", h[:4], got, e, n)
	}
	if l := c.List(); len(l) == 0 || l[len(l)-1] != h {
		t.Fatalf("P8.1: Node of %x isn't the youngest behind it", h[:4])
	}
}

// read: so many nodes of these sums, one behind the other.
func read(t *testing.T, c *Cache, l ...api.Hash) {
	t.Helper()
	for _, h := range l {
		n, e := c.Node(h)
		if e != api.OK || tree.Hash(n) != h {
			t.Fatalf("P8.1: Node of %x: %v, %d", h[:4], n, e)
		}
	}
}

func wantNone(t *testing.T, c *Cache, l ...api.Hash) {
	t.Helper()
	was := c.List()
	for _, h := range l {
		if n, e := c.Node(h); !same(n, api.Node{}) || e != api.ErrNone {
			t.Fatalf("P8.1: Node of %x: %v, %d; want ErrNone", h[:4], n, e)
		}
	}
	wantList(t, "behind what isn't there", c, was)
}

func wantList(t *testing.T, name string, c *Cache, want []api.Hash) {
	t.Helper()
	if got := c.List(); !slices.Equal(got, want) {
		t.Fatalf("P8.1: %s: List is %s; want %s", name, short(got), short(want))
	}
}

func short(l []api.Hash) string {
	var b strings.Builder
	for _, h := range l {
		fmt.Fprintf(&b, "%x ", h[:4])
	}
	return b.String()
}

func evict(t *testing.T, c *Cache, i int, want bool) {
	t.Helper()
	if c.Evict(i) != want {
		t.Fatalf("P8.1: Evict(%d) of %d isn't %t", i, len(c.List()), want)
	}
}

func evictAll(t *testing.T, c *Cache) {
	t.Helper()
	for range c.List() {
		evict(t, c, 0, true)
	}
	wantList(t, "all thrown out", c, nil)
}

func wantValue(t *testing.T, c *Cache, root api.Hash, key, want string) {
	t.Helper()
	if v, is, e := c.Get(root, []byte(key)); string(v) != want || !is || e != api.OK {
		t.Fatalf("P8.2: Get of %q: %q, %t, %d; want %q", key, v, is, e, want)
	}
}

func wantNothing(t *testing.T, c *Cache, root api.Hash, key string, want api.Errno) {
	t.Helper()
	if v, is, e := c.Get(root, []byte(key)); len(v) != 0 || is || e != want {
		t.Fatalf("P8.2: Get of %q: %q, %t, %d; want nothing, false, %d", key, v, is, e, want)
	}
}

// wantAsTree: Get of a key tells what the tree does (P8.3).
func wantAsTree(t *testing.T, name string, c *Cache, x *tree.Tree, key string) {
	t.Helper()
	want, there := x.Get([]byte(key))
	v, is, e := c.Get(x.Root(), []byte(key))
	if !bytes.Equal(v, want) || is != there || e != api.OK {
		t.Fatalf("P8.3: %s: Get of %q: %q, %t, %d; want %q, %t", name, key, v, is, e, want, there)
	}
}

func TestExample(t *testing.T) {
	x := keyed(t, "a", "b")
	c := made(t, saved(t, x), 1)
	wantAsTree(t, "the example", c, x, "a")
	wantAsTree(t, "the example", c, x, "b")
	wantValue(t, c, x.Root(), "a", "of a")
	wantValue(t, c, x.Root(), "b", "of b")
	wantList(t, "the example", c, []api.Hash{leafSum("b")})
}

func TestRooms(t *testing.T) {
	b := saved(t, keyed(t, "a", "b"))
	for room, want := range map[int]api.Errno{
		math.MinInt: api.ErrRange, -4096: api.ErrRange, -1: api.ErrRange, 0: api.ErrRange,
		1: api.OK, 2: api.OK, 4095: api.OK, 4096: api.OK,
		4097: api.ErrRange, 1 << 32: api.ErrRange, 1<<32 + 1: api.ErrRange, math.MaxInt: api.ErrRange,
	} {
		c, e := New(b, room)
		if e != want || (c != nil) != (want == api.OK) {
			t.Errorf("P8.1: New with room for %d: %v, %d; want %d", room, c, e, want)
		}
		if c, e := New(nil, room); c != nil || e != api.ErrNil {
			t.Errorf("P8.1: New of a nil base, room for %d: %v, %d; want ErrNil", room, c, e)
		}
	}
}

func TestNewHasNothing(t *testing.T) {
	for _, room := range []int{1, 2, 4096} {
		c := made(t, saved(t, keyed(t, "a", "b", "c")), room)
		wantList(t, "new", c, nil)
		for _, i := range []int{math.MinInt, -1, 0, 1, room - 1, room, math.MaxInt} {
			evict(t, c, i, false)
		}
		wantList(t, "new", c, nil)
	}
}

func TestNodeOfAll(t *testing.T) {
	x := numbered(t, 60)
	x = put(t, x, strings.Repeat("k", 96), strings.Repeat("v", 256))
	x = put(t, x, "\x00", "")
	for _, room := range []int{1, 2, 7, 122, 123, 4096} {
		c := made(t, saved(t, x), room)
		for range 2 {
			for _, n := range x.Nodes() {
				wantNode(t, c, n)
				wantNode(t, c, n)
			}
		}
		all := sums(x)
		wantList(t, "all read", c, all[max(0, len(all)-room):])
	}
}

func TestNodeThatIsNot(t *testing.T) {
	x := keyed(t, "a", "b", "c")
	strange := []api.Hash{{}, tree.Empty(), {31: 1}, leafSum("d"), keyed(t, "a", "b").Root()}
	for _, room := range []int{1, 3, 4096} {
		c := made(t, saved(t, x), room)
		wantNone(t, c, strange...)
		read(t, c, sums(x)...)
		wantNone(t, c, strange...)
		empty := made(t, nodes.New(), room)
		wantNone(t, empty, append(strange, sums(x)...)...)
	}
}

// One bit more or less makes another sum.
func TestNodeOfTurnedSums(t *testing.T) {
	x := keyed(t, "a", "b")
	c := made(t, saved(t, x), 3)
	read(t, c, sums(x)...)
	for i := range 256 {
		h := x.Root()
		h[i/8] ^= 1 << (i % 8)
		wantNone(t, c, h)
		wantNothing(t, c, h, "a", api.ErrNone)
	}
}

func TestReadAgain(t *testing.T) {
	l := sums(keyed(t, "a", "b", "c"))
	for i := range l {
		c := made(t, saved(t, keyed(t, "a", "b", "c")), 5)
		read(t, c, l...)
		read(t, c, l[i])
		want := append(slices.Delete(slices.Clone(l), i, i+1), l[i])
		wantList(t, fmt.Sprint("read again: ", i), c, want)
		read(t, c, l[i], l[i])
		wantList(t, fmt.Sprint("read thrice: ", i), c, want)
	}
}

func TestOldestGoes(t *testing.T) {
	x := numbered(t, 20)
	l := sums(x)
	for _, room := range []int{1, 2, 3, 10, 38, 39, 40} {
		c := made(t, saved(t, x), room)
		for i, h := range l {
			read(t, c, h)
			wantList(t, fmt.Sprintf("room %d, %d read", room, i+1), c, l[max(0, i+1-room):i+1])
		}
	}
}

// Which is the oldest hangs on when it was read last, not on when it came.
func TestOldestIsWhatWasReadLeastLately(t *testing.T) {
	l := sums(keyed(t, "a", "b", "c"))
	c := made(t, saved(t, keyed(t, "a", "b", "c")), 3)
	read(t, c, l[0], l[1], l[2], l[0], l[3])
	wantList(t, "1 is the oldest", c, []api.Hash{l[2], l[0], l[3]})
	read(t, c, l[2], l[4])
	wantList(t, "0 is the oldest", c, []api.Hash{l[3], l[2], l[4]})
	read(t, c, l[1], l[0])
	wantList(t, "3, then 2", c, []api.Hash{l[4], l[1], l[0]})
}

func TestGreatestRoom(t *testing.T) {
	x := numbered(t, 2100)
	l := sums(x)
	for _, room := range []int{4095, 4096} {
		c := made(t, saved(t, x), room)
		read(t, c, l[:room]...)
		wantList(t, "full", c, l[:room])
		for i := room; i < len(l); i++ {
			read(t, c, l[i])
			if got := c.List(); len(got) != room || got[0] != l[i+1-room] {
				t.Fatalf("P8.1: room %d, %d read: %d are there", room, i+1, len(got))
			}
		}
		wantList(t, "overfull", c, l[len(l)-room:])
		evict(t, c, room, false)
		evict(t, c, room-1, true)
		evict(t, c, room-1, false)
		wantList(t, "one thrown out", c, l[len(l)-room:len(l)-1])
	}
}

func TestEvictAtEachPlace(t *testing.T) {
	x := keyed(t, "a", "b", "c", "d")
	l := sums(x)
	for many := range len(l) + 1 {
		for _, room := range []int{max(1, many), many + 1} {
			for _, i := range []int{math.MinInt, -many, -1, 0, 1, many / 2, many - 1, many, many + 1, room, math.MaxInt} {
				c := made(t, saved(t, x), room)
				read(t, c, l[:many]...)
				there := i >= 0 && i < many
				evict(t, c, i, there)
				want := slices.Clone(l[:many])
				if there {
					want = slices.Delete(want, i, i+1)
				}
				wantList(t, fmt.Sprintf("Evict(%d) of %d", i, many), c, want)
			}
		}
	}
}

func TestEvictAll(t *testing.T) {
	x := keyed(t, "a", "b", "c", "d", "e")
	l := sums(x)
	for name, place := range map[string]func(many int) int{
		"from the oldest on":   func(int) int { return 0 },
		"from the youngest on": func(many int) int { return many - 1 },
		"from the middle on":   func(many int) int { return many / 2 },
	} {
		c := made(t, saved(t, x), 9)
		for range 3 {
			read(t, c, l...)
			want := slices.Clone(l)
			for many := len(l); many > 0; many-- {
				i := place(many)
				evict(t, c, i, true)
				want = slices.Delete(want, i, i+1)
				wantList(t, name, c, want)
			}
			evict(t, c, 0, false)
		}
	}
}

// What was thrown out is read out of the base again, as the youngest.
func TestReadBehindEvict(t *testing.T) {
	x := keyed(t, "a", "b", "c")
	l := sums(x)
	b := saved(t, x)
	c := made(t, b, 4)
	read(t, c, l[0], l[1], l[2], l[3])
	evict(t, c, 1, true)
	read(t, c, l[4])
	wantList(t, "there was room for one", c, []api.Hash{l[0], l[2], l[3], l[4]})
	evict(t, c, 0, true)
	read(t, c, l[1], l[0])
	wantList(t, "two read again", c, []api.Hash{l[3], l[4], l[1], l[0]})
	evict(t, c, 2, true)
	b.Keep(nil)
	wantNone(t, c, l[1], l[2])
	read(t, c, l[3], l[0], l[4])
	wantList(t, "the base is bare", c, []api.Hash{l[3], l[0], l[4]})
}

// What is cached is told, though the base has let it go; what is thrown out then is gone.
func TestBaseLetsGo(t *testing.T) {
	x, y := keyed(t, "a", "b", "c"), keyed(t, "x", "y")
	b := saved(t, x, y)
	c := made(t, b, 5)
	read(t, c, sums(x)...)
	b.Keep([]api.Hash{y.Root()})
	for _, n := range x.Nodes() {
		wantNode(t, c, n)
	}
	for _, key := range []string{"", "a", "aa", "b", "c", "d"} {
		wantAsTree(t, "let go", c, x, key)
	}
	read(t, c, y.Root())
	gone := 0
	for _, h := range sums(x) {
		if !slices.Contains(c.List(), h) {
			gone++
			wantNone(t, c, h)
		}
	}
	if gone != 1 {
		t.Errorf("P8.1: %d went for one that came", gone)
	}
	evictAll(t, c)
	wantNone(t, c, sums(x)...)
	read(t, c, sums(y)...)
}

func TestBaseGrows(t *testing.T) {
	x := keyed(t, "a", "b")
	y := put(t, x, "c", "of c")
	b := nodes.New()
	c := made(t, b, 10)
	wantNone(t, c, sums(y)...)
	wantNothing(t, c, x.Root(), "a", api.ErrNone)
	b.Save(x)
	wantAsTree(t, "x was saved", c, x, "a")
	wantNothing(t, c, y.Root(), "a", api.ErrNone)
	b.Save(y)
	for _, key := range []string{"a", "b", "c", "d"} {
		wantAsTree(t, "y was saved", c, y, key)
		wantAsTree(t, "y was saved", c, x, key)
	}
}

func TestTwoCachesOnOneBase(t *testing.T) {
	x := keyed(t, "a", "b", "c")
	l := sums(x)
	b := saved(t, x)
	one, two := made(t, b, 2), made(t, b, 4)
	read(t, one, l[0], l[1], l[2])
	wantList(t, "nothing was read of the other", two, nil)
	read(t, two, l[4], l[3], l[2], l[1])
	wantList(t, "the one", one, l[1:3])
	evict(t, two, 0, true)
	wantList(t, "the one, still", one, l[1:3])
	b.Keep(nil)
	read(t, one, l[1])
	read(t, two, l[3])
	wantNone(t, one, l[3])
	wantNone(t, two, l[4])
	wantList(t, "the one, at last", one, []api.Hash{l[2], l[1]})
	wantList(t, "the other, at last", two, []api.Hash{l[2], l[1], l[3]})
}

func TestTwoBases(t *testing.T) {
	x, y := keyed(t, "a", "b"), keyed(t, "x", "y")
	one, two := made(t, saved(t, x), 3), made(t, saved(t, y), 3)
	wantAsTree(t, "the one", one, x, "a")
	wantAsTree(t, "the other", two, y, "x")
	wantNothing(t, one, y.Root(), "x", api.ErrNone)
	wantNothing(t, two, x.Root(), "a", api.ErrNone)
}

// Bytes that aren't a node's: Decode's error, and nothing changes. A base has none such, so they are handed to what stands behind it.
func TestBytesThatAreNoNode(t *testing.T) {
	l := sums(keyed(t, "a", "b"))
	c := made(t, saved(t, keyed(t, "a", "b")), 2)
	read(t, c, l[0], l[1])
	for _, b := range []string{"", "\x01", "\x01\x00\x01", "\x01\x00\x00", "\x02\x00\x01x", "\x01\x00\x01a\x09\x00\x01a", "\x01\x00\x01a\x04\x00\x01\x01"} {
		_, want := nodes.Decode([]byte(b))
		if want == api.OK {
			t.Fatalf("%x is a node", b)
		}
		if n, e := c.take(l[2], []byte(b)); !same(n, api.Node{}) || e != want {
			t.Errorf("P8.1: %x: %v, %d; want %d", b, n, e, want)
		}
		wantList(t, "bytes that are no node", c, l[:2])
	}
	read(t, c, l[2])
	wantList(t, "a node, then", c, l[1:3])
}
