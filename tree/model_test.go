package tree

import (
	"bytes"
	"encoding/binary"
	"fmt"
	"math/rand"
	"slices"
	"testing"

	"ferryman/api"
)

// plant is a tree as the chapter tells it, kept as keys and sides alone: all else is worked out anew each time it is asked for. A leaf has no sides.
type plant struct {
	key, value string
	sides      [2]*plant
}

// turns counts how often each case of balancing was met: by the higher side, and whether that one's inner side is the higher one (2: neither).
type turns map[[2]int]int

func (p *plant) isLeaf() bool { return p.sides[0] == nil }

func (p *plant) height() int {
	if p.isLeaf() {
		return 0
	}
	return 1 + max(p.sides[0].height(), p.sides[1].height())
}

func (p *plant) leaves() []*plant {
	if p == nil {
		return nil
	}
	if p.isLeaf() {
		return []*plant{p}
	}
	return slices.Concat(p.sides[0].leaves(), p.sides[1].leaves())
}

func (p *plant) sum() api.Hash {
	if p.isLeaf() {
		return leafSum(p.key, p.value)
	}
	return innerSum(byte(p.height()), uint64(len(p.leaves())), p.sides[0].sum(), p.sides[1].sum())
}

func (p *plant) nodes() []api.Node {
	if p == nil {
		return nil
	}
	if p.isLeaf() {
		return []api.Node{{Key: []byte(p.key), Value: []byte(p.value), Size: 1}}
	}
	n := api.Node{Key: []byte(p.sides[1].leaves()[0].key), Height: p.height(), Size: uint64(len(p.leaves()))}
	n.Left, n.Right = p.sides[0].sum(), p.sides[1].sum()
	return slices.Concat([]api.Node{n}, p.sides[0].nodes(), p.sides[1].nodes())
}

// join: above both, the first on side s.
func join(s int, here, there *plant) *plant {
	p := &plant{}
	p.sides[s], p.sides[1-s] = here, there
	return p
}

// settle: both turns of the sentence are one here, said of side s.
func (c turns) settle(p *plant) *plant {
	for s := range 2 {
		high, low := p.sides[s], p.sides[1-s]
		if high.height() <= low.height()+1 {
			continue
		}
		outer, inner := high.sides[s], high.sides[1-s]
		if outer.height() < inner.height() {
			c[[2]int{s, 1}]++
			return join(s, join(s, outer, inner.sides[s]), join(s, inner.sides[1-s], low))
		}
		if outer.height() > inner.height() {
			c[[2]int{s, 0}]++
		} else {
			c[[2]int{s, 2}]++
		}
		return join(s, outer, join(s, inner, low))
	}
	return p
}

// way: the side on which a key's place is.
func (p *plant) way(key string) int {
	if key < p.sides[1].leaves()[0].key {
		return 0
	}
	return 1
}

func (c turns) put(p *plant, key, value string) *plant {
	l := &plant{key: key, value: value}
	if p == nil || p.isLeaf() && p.key == key {
		return l
	}
	if p.isLeaf() {
		if key < p.key {
			return join(0, l, p)
		}
		return join(1, l, p)
	}
	s := p.way(key)
	return c.settle(join(s, c.put(p.sides[s], key, value), p.sides[1-s]))
}

func (c turns) cut(p *plant, key string) *plant {
	if p == nil || p.isLeaf() {
		if p != nil && p.key == key {
			return nil
		}
		return p
	}
	s := p.way(key)
	rest := c.cut(p.sides[s], key)
	if rest == nil {
		return p.sides[1-s]
	}
	return c.settle(join(s, rest, p.sides[1-s]))
}

// wantAs: a tree tells what the plant does.
func wantAs(t *testing.T, name string, x *Tree, p *plant) {
	t.Helper()
	root := Empty()
	if p != nil {
		root = p.sum()
	}
	leaves := p.leaves()
	if x.Root() != root || x.Len() != len(leaves) {
		t.Fatalf("P5.1: %s: Root or Len: %s", name, shape(x))
	}
	if !slices.EqualFunc(x.Nodes(), p.nodes(), same) {
		t.Fatalf("P5.2: %s: Nodes: %s", name, shape(x))
	}
	var pairs []api.Pair
	for _, l := range leaves {
		pairs = append(pairs, api.Pair{Key: []byte(l.key), Value: []byte(l.value)})
		if v, is := x.Get([]byte(l.key)); !is || string(v) != l.value {
			t.Fatalf("P5.1: %s: Get of %q: %q, %t", name, l.key, v, is)
		}
	}
	if !slices.EqualFunc(x.All(), pairs, samePair) {
		t.Fatalf("P5.1: %s: All: %s", name, shape(x))
	}
}

// wantBalanced: what each node says of itself is so, and no sides differ by more than one; by Nodes alone.
func wantBalanced(t *testing.T, name string, x *Tree) {
	t.Helper()
	nodes := x.Nodes()
	if len(nodes) == 0 {
		return
	}
	if rest := under(t, name, nodes); len(rest) != 0 {
		t.Fatalf("P5.2: %s: %d nodes that stand nowhere", name, len(rest))
	}
}

// under: the nodes behind the first and all beneath it.
func under(t *testing.T, name string, nodes []api.Node) []api.Node {
	t.Helper()
	n, rest := nodes[0], nodes[1:]
	if n.Height == 0 {
		return rest
	}
	left := rest[0]
	rest = under(t, name, rest)
	right := rest[0]
	if d := left.Height - right.Height; d < -1 || d > 1 {
		t.Fatalf("P5.3: %s: sides of Heights %d and %d", name, left.Height, right.Height)
	}
	if n.Height != 1+max(left.Height, right.Height) || n.Size != left.Size+right.Size || n.Left != Hash(left) || n.Right != Hash(right) {
		t.Fatalf("P5.1: %s: an inner node that isn't of its sides", name)
	}
	return under(t, name, rest)
}

// Every order of up to six keys, and every key cut out of what came.
func TestAllOrders(t *testing.T) {
	c := turns{}
	for n := 1; n <= 6; n++ {
		permute([]byte("abcdef")[:n], 0, func(order []byte) bool {
			x, p := New(), (*plant)(nil)
			for _, k := range order {
				x = put(t, x, string(k), "of "+string(k))
				p = c.put(p, string(k), "of "+string(k))
			}
			wantAs(t, string(order), x, p)
			for _, k := range order {
				wantAs(t, fmt.Sprintf("%s without %c", order, k), cut(t, x, string(k)), c.cut(p, string(k)))
			}
			return true
		})
	}
}

// Scripts of Put and Cut over few keys and over many, till each case of balancing was met often, behind both.
func TestScripts(t *testing.T) {
	puts, cuts := turns{}, turns{}
	r := rand.New(rand.NewSource(5))
	for script := range 60 {
		x, p := New(), (*plant)(nil)
		keys := 4 << (script % 5)
		for step := range 200 {
			key := fmt.Sprintf("%x", r.Intn(keys))
			name := fmt.Sprintf("script %d, step %d", script, step)
			if up := step%100 < 60; r.Intn(10) < 7 == up {
				value := fmt.Sprint(step)
				x, p = put(t, x, key, value), puts.put(p, key, value)
			} else {
				var was bool
				before := len(p.leaves())
				x, was = x.Cut([]byte(key))
				p = cuts.cut(p, key)
				if was != (len(p.leaves()) < before) {
					t.Fatalf("P5.1: %s: Cut: %t", name, was)
				}
			}
			if step%10 == 0 || keys < 20 {
				wantAs(t, name, x, p)
				wantBalanced(t, name, x)
			}
		}
	}
	for s := range 2 {
		if puts[[2]int{s, 0}] < 20 || puts[[2]int{s, 1}] < 20 || cuts[[2]int{s, 0}] < 20 || cuts[[2]int{s, 1}] < 20 || cuts[[2]int{s, 2}] < 20 {
			t.Errorf("a case of balancing was met too seldom: %v, %v", puts, cuts)
		}
	}
}

// greatKey: keys of several bytes whose order isn't that of their making.
func greatKey(n int) []byte {
	return binary.BigEndian.AppendUint32(nil, uint32(n)*2654435761)
}

func TestBalancedWhenGreat(t *testing.T) {
	const many = 3000
	rising := func(n int) []byte { return binary.BigEndian.AppendUint32(nil, uint32(n)) }
	falling := func(n int) []byte { return rising(many - n) }
	for name, key := range map[string]func(int) []byte{"rising": rising, "falling": falling, "mixed": greatKey} {
		x := New()
		for n := range many {
			x, _ = x.Put(key(n), []byte(name))
		}
		wantBalanced(t, name, x)
		if n, _ := x.Node(nil); x.Len() != many || n.Height > 16 {
			t.Errorf("P5.3: %s: Height %d of %d", name, n.Height, x.Len())
		}
		for n := range many {
			if n%3 > 0 {
				x, _ = x.Cut(key(n))
			}
			if n%500 == 0 {
				wantBalanced(t, name+", cut", x)
			}
		}
		wantBalanced(t, name+", cut", x)
		if all := x.All(); x.Len() != many/3 || !slices.IsSortedFunc(all, func(a, b api.Pair) int { return bytes.Compare(a.Key, b.Key) }) {
			t.Errorf("P5.1: %s: %d keys are left", name, x.Len())
		}
		for n := range many {
			if v, is := x.Get(key(n)); is != (n%3 == 0) || is && string(v) != name {
				t.Errorf("P5.1: %s: Get of %d: %q, %t", name, n, v, is)
			}
		}
	}
}

// Each byte is a step: its low bits a key, its highest one whether that goes.
func FuzzTree(f *testing.F) {
	f.Add([]byte("abcd"))
	f.Add([]byte{1, 2, 3, 4, 5, 6, 129, 130, 131, 4})
	f.Add([]byte{9, 8, 7, 6, 5, 4, 3, 2, 1, 137, 136, 200})
	f.Fuzz(func(t *testing.T, steps []byte) {
		x, p, c := New(), (*plant)(nil), turns{}
		for i, s := range steps[:min(len(steps), 150)] {
			key := string(s & 0x7f)
			if s < 0x80 {
				x, p = put(t, x, key, fmt.Sprint(i)), c.put(p, key, fmt.Sprint(i))
			} else {
				x, _ = x.Cut([]byte(key))
				p = c.cut(p, key)
			}
		}
		wantAs(t, "fuzz", x, p)
		wantBalanced(t, "fuzz", x)
	})
}
