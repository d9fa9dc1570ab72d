package cache

import (
	"bytes"
	"fmt"
	"math/rand"
	"slices"
	"testing"

	"ferryman/api"
	"ferryman/nodes"
	"ferryman/tree"
)

// world is a cache, its base, and what both must have: the nodes of the base, and of the cache with their ages, told by the chapter's words in another way.
type world struct {
	base  *nodes.Base
	cache *Cache
	room  int
	there map[api.Hash]api.Node
	seen  map[api.Hash]sight
	clock int
}

type sight struct {
	node api.Node
	when int
}

func worldOf(t *testing.T, room int) *world {
	b := nodes.New()
	return &world{base: b, cache: made(t, b, room), room: room, there: map[api.Hash]api.Node{}, seen: map[api.Hash]sight{}}
}

func (w *world) save(x *tree.Tree) {
	w.base.Save(x)
	for _, n := range x.Nodes() {
		w.there[tree.Hash(n)] = n
	}
}

// keep: nothing of a tree stays, if its root went once, though another one shares nodes with it.
func (w *world) keep(x *tree.Tree) {
	w.base.Keep([]api.Hash{x.Root()})
	_, is := w.there[x.Root()]
	w.there = map[api.Hash]api.Node{}
	if is {
		for _, n := range x.Nodes() {
			w.there[tree.Hash(n)] = n
		}
	}
}

// look: what Node must answer.
func (w *world) look(h api.Hash) (api.Node, bool) {
	s, is := w.seen[h]
	if !is {
		if s.node, is = w.there[h]; !is {
			return api.Node{}, false
		}
	}
	w.clock++
	s.when = w.clock
	w.seen[h] = s
	if len(w.seen) > w.room {
		delete(w.seen, w.list()[0])
	}
	return s.node, true
}

func (w *world) list() []api.Hash {
	var l []api.Hash
	for h := range w.seen {
		l = append(l, h)
	}
	slices.SortFunc(l, func(x, y api.Hash) int { return w.seen[x].when - w.seen[y].when })
	return l
}

// find: what Get must answer.
func (w *world) find(h api.Hash, key string) (value string, is bool, e api.Errno) {
	if h == tree.Empty() {
		return "", false, api.OK
	}
	n, there := w.look(h)
	switch {
	case !there:
		return "", false, api.ErrNone
	case n.Height == 0 && string(n.Key) == key:
		return string(n.Value), true, api.OK
	case n.Height == 0:
		return "", false, api.OK
	case key < string(n.Key):
		return w.find(n.Left, key)
	}
	return w.find(n.Right, key)
}

func (w *world) node(t *testing.T, name string, h api.Hash) {
	t.Helper()
	want, is := w.look(h)
	n, e := w.cache.Node(h)
	if !same(n, want) || (e == api.OK) != is || e != api.OK && e != api.ErrNone {
		t.Fatalf("P8.1: %s: Node of %x: %v, %d; want %v, %t", name, h[:4], n, e, want, is)
	}
}

func (w *world) get(t *testing.T, name string, h api.Hash, key string) {
	t.Helper()
	want, there, err := w.find(h, key)
	if v, is, e := w.cache.Get(h, []byte(key)); string(v) != want || is != there || e != err {
		t.Fatalf("P8.2: %s: Get of %q: %q, %t, %d; want %q, %t, %d", name, key, v, is, e, want, there, err)
	}
}

func (w *world) evict(t *testing.T, name string, i int) {
	t.Helper()
	l := w.list()
	is := i >= 0 && i < len(l)
	if is {
		delete(w.seen, l[i])
	}
	if w.cache.Evict(i) != is {
		t.Fatalf("P8.1: %s: Evict(%d) of %d isn't %t", name, i, len(l), is)
	}
}

// check: the order is as it must be, and what is there no more than there is room for.
func (w *world) check(t *testing.T, name string) {
	t.Helper()
	l := w.cache.List()
	if !slices.Equal(l, w.list()) {
		t.Fatalf("P8.1: %s: List is %s; want %s", name, short(l), short(w.list()))
	}
	if len(l) > w.room || len(w.cache.held) != len(l) {
		t.Fatalf("P8.1: %s: %d cached, %d of them listed, with room for %d", name, len(w.cache.held), len(l), w.room)
	}
}

func TestScripts(t *testing.T) {
	r := rand.New(rand.NewSource(21))
	for script := range 60 {
		w := worldOf(t, []int{1, 2, 3, 5, 20, 4096}[script%6])
		trees := []*tree.Tree{tree.New()}
		for step := range 300 {
			name := fmt.Sprintf("script %d, room %d, step %d", script, w.room, step)
			x := trees[len(trees)-1-r.Intn(min(4, len(trees)))]
			key := fmt.Sprint(r.Intn(30))
			switch r.Intn(12) {
			case 0, 1:
				x = put(t, x, key, fmt.Sprint(step))
				trees = append(trees, x)
				w.save(x)
			case 2:
				if y, is := x.Cut([]byte(key)); is {
					trees = append(trees, y)
					w.save(y)
				}
			case 3:
				if r.Intn(3) == 0 {
					w.keep(x)
				}
			case 4, 5:
				w.evict(t, name, r.Intn(12)-1)
			case 6, 7:
				for _, h := range append(sums(x), api.Hash{byte(step)}) {
					if r.Intn(5) == 0 {
						w.node(t, name, h)
					}
				}
			default:
				w.get(t, name, x.Root(), key)
			}
			w.check(t, name)
		}
	}
}

// The same calls, the same answers (R8).
func TestTwins(t *testing.T) {
	x := numbered(t, 40)
	one, two := made(t, saved(t, x), 6), made(t, saved(t, x), 6)
	r := rand.New(rand.NewSource(4))
	for range 500 {
		key := []byte(fmt.Sprint("key ", r.Intn(45)))
		v, is, e := one.Get(x.Root(), key)
		u, there, f := two.Get(x.Root(), key)
		if !bytes.Equal(u, v) || is != there || e != f {
			t.Fatalf("R8: Get of %q: %q and %q", key, v, u)
		}
		i := r.Intn(20)
		if one.Evict(i) != two.Evict(i) || !slices.Equal(one.List(), two.List()) {
			t.Fatalf("R8: %s and %s", short(one.List()), short(two.List()))
		}
	}
}

// FuzzCache: a script of trees that come and go, reads and throwing out, held against a world.
func FuzzCache(f *testing.F) {
	f.Add(uint8(0), []byte{1, 2, 3, 130, 131, 132, 200, 201, 250, 130})
	f.Add(uint8(1), []byte{1, 2, 3, 4, 5, 130, 131, 255, 132, 133, 230, 231, 130})
	f.Add(uint8(5), []byte{9, 8, 7, 6, 5, 4, 3, 2, 1, 70, 135, 136, 137, 240, 200, 135, 255, 135, 220})
	f.Fuzz(func(t *testing.T, room uint8, script []byte) {
		w := worldOf(t, 1+int(room)%9)
		x, old := tree.New(), tree.New()
		for _, c := range script {
			key := string([]byte{c % 32})
			switch {
			case c < 64:
				old, x = x, put(t, x, key, string([]byte{c}))
				w.save(x)
			case c < 96:
				old = x
				x, _ = x.Cut([]byte(key))
				w.save(x)
			case c < 144:
				w.get(t, "fuzzed", x.Root(), key)
			case c < 192:
				w.get(t, "fuzzed", old.Root(), key)
			case c < 224:
				if l := sums(x); len(l) > 0 {
					w.node(t, "fuzzed", l[int(c)%len(l)])
				}
			case c < 248:
				w.evict(t, "fuzzed", int(c)-226)
			case c < 252:
				w.keep(old)
			default:
				w.keep(x)
			}
			w.check(t, "fuzzed")
		}
	})
}
