package proof

import (
	"strings"
	"testing"

	"ferryman/api"
	"ferryman/tree"
)

func TestExample(t *testing.T) {
	x := grown(t, "ab")
	p, ok := Make(x, []byte("b"))
	want := api.Turn{Height: 1, Size: 2, Right: true, Other: refLeaf([]byte("a"), []byte("of a"))}
	if !ok || string(p.Key) != "b" || string(p.Value) != "of b" || len(p.Turns) != 1 || p.Turns[0] != want {
		t.Errorf("P9.1: the proof of b: %s, %t", told(p), ok)
	}
	if err := Verify(x.Root(), p); err != nil {
		t.Errorf("P9.2: the proof of b: %v", err)
	}
	g, ok := None(x, []byte("c"))
	if !ok || toldSide(g.Left) != told(p) || g.Right != nil {
		t.Errorf("P9.1: the gap of c: %s, %t", toldGap(g), ok)
	}
	if err := VerifyGap(x.Root(), []byte("c"), g); err != nil {
		t.Errorf("P9.3: the gap of c: %v", err)
	}
}

// between: the keys, and texts below all, between each two, above all, and of lengths that no key has.
func between(keys []string) []string {
	l := []string{"", "\x00", "\xff\xff", strings.Repeat("m", 97), strings.Repeat("\xff", 300)}
	for _, k := range keys {
		l = append(l, k, k+"\x00", k[:len(k)-1], k+"!")
	}
	return l
}

// holdTree: all that Make and None say of a tree against the reference, and what they answer is taken of the tree's root.
func holdTree(t *testing.T, x *tree.Tree, keys []string) {
	t.Helper()
	all := refProofs(x)
	for _, key := range keys {
		var want api.Proof
		is := false
		for _, p := range all {
			if string(p.Key) == key {
				want, is = p, true
			}
		}
		p, ok := Make(x, []byte(key))
		if ok != is || told(p) != told(want) {
			t.Fatalf("P9.1: of %d keys the proof of %q: %s, %t, not %s", len(all), key, told(p), ok, told(want))
		}
		if err := Verify(x.Root(), p); ok && err != nil {
			t.Fatalf("P9.2: of %d keys the proof of %q: %v", len(all), key, err)
		}
		wantGap, no := refGap(all, key)
		g, ok := None(x, []byte(key))
		if ok != no || toldGap(g) != toldGap(wantGap) {
			t.Fatalf("P9.1: of %d keys the gap of %q: %s, %t, not %s", len(all), key, toldGap(g), ok, toldGap(wantGap))
		}
		if err := VerifyGap(x.Root(), []byte(key), g); ok && len(key) >= 1 && len(key) <= 96 && err != nil {
			t.Fatalf("P9.3: of %d keys the gap of %q: %v", len(all), key, err)
		}
	}
}

func TestMakeAndNone(t *testing.T) {
	const letters = "kqcxgmbtzeohdrfyjanwslvpiu"
	x := tree.New()
	holdTree(t, x, between([]string{"k"}))
	var keys []string
	for _, c := range letters {
		keys = append(keys, string(c))
		x = put(t, x, string(c), "of "+string(c))
		holdTree(t, x, between(keys))
	}
	for _, c := range "maztkqcbu" {
		x, _ = x.Cut([]byte(string(c)))
		holdTree(t, x, between(keys))
	}
}

// Keys of which one begins the other, of bytes that are no letters, of the greatest length, and values of none and of the greatest length.
func TestKeysOfAllKinds(t *testing.T) {
	keys := []string{"\x00", "\x00\x00", "\x01", "a", "a\x00", "aa", "ab", "b", "\x7f", "\x80", "\xff", "\xff\x00", strings.Repeat("a", 96), strings.Repeat("\xff", 96)}
	values := []string{"", "\x00", strings.Repeat("v", 256)}
	x := tree.New()
	for i, key := range keys {
		x = put(t, x, key, values[i%len(values)])
	}
	holdTree(t, x, between(keys))
}

func TestScripts(t *testing.T) {
	for seed := range uint32(40) {
		x := tree.New()
		n := seed*2654435761 + 12345
		var keys []string
		for range 60 {
			n = n*1664525 + 1013904223
			key := string([]byte{'a' + byte(n>>24)%5, 'a' + byte(n>>16)%9})[:1+n>>12&1]
			keys = append(keys, key)
			if n>>8&3 == 0 {
				x, _ = x.Cut([]byte(key))
			} else {
				x = put(t, x, key, key+"="+string(rune('0'+n>>9&7)))
			}
		}
		holdTree(t, x, between(keys))
	}
}

// A great tree: each of its ways, of many turns.
func TestGreatTree(t *testing.T) {
	x := tree.New()
	var keys []string
	for i := range 2000 {
		key := string([]byte{byte(i >> 8), byte(i * 7), 'k'})
		keys = append(keys, key)
		x = put(t, x, key, key)
	}
	all := refProofs(x)
	for i, p := range all {
		q, ok := Make(x, p.Key)
		if !ok || told(p) != told(q) || Verify(x.Root(), q) != nil {
			t.Fatalf("P9.1: of 2000 keys the proof of %q", p.Key)
		}
		key := append([]byte(string(p.Key)), 0)
		g, ok := None(x, key)
		last := i+1 == len(all)
		if !ok || toldSide(g.Left) != told(p) || last != (g.Right == nil) || !last && told(*g.Right) != told(all[i+1]) || VerifyGap(x.Root(), key, g) != nil {
			t.Fatalf("P9.1: of 2000 keys the gap behind %q", p.Key)
		}
	}
}

func TestNoTree(t *testing.T) {
	var none *tree.Tree
	for name, x := range map[string]*tree.Tree{"nil": none, "empty": tree.New(), "zero": {}, "cut": cutAll(t)} {
		for _, key := range [][]byte{nil, {}, []byte("a"), make([]byte, 97)} {
			if p, ok := Make(x, key); ok || told(p) != told(api.Proof{}) {
				t.Errorf("P9.1, R7: Make of a tree that's %s: %s, %t", name, told(p), ok)
			}
			g, ok := None(x, key)
			if !ok || g.Left != nil || g.Right != nil {
				t.Errorf("P9.1, R7: None of a tree that's %s: %s, %t", name, toldGap(g), ok)
			}
			if err := VerifyGap(x.Root(), []byte("a"), g); err != nil {
				t.Errorf("P9.3, R7: the gap of a tree that's %s: %v", name, err)
			}
		}
	}
}

func cutAll(t *testing.T) *tree.Tree {
	x, was := grown(t, "a").Cut([]byte("a"))
	if !was {
		t.Fatal("Cut of a")
	}
	return x
}

// A tree of one key: proofs without turns, gaps of one side.
func TestOneKey(t *testing.T) {
	x := grown(t, "m")
	p, ok := Make(x, []byte("m"))
	if !ok || told(p) != `"m"="of m"` || Verify(x.Root(), p) != nil || refLeaf([]byte("m"), []byte("of m")) != x.Root() {
		t.Errorf("P9.1, P9.2: of one key: %s, %t", told(p), ok)
	}
	if g, ok := None(x, []byte("a")); !ok || g.Left != nil || toldSide(g.Right) != told(p) || VerifyGap(x.Root(), []byte("a"), g) != nil {
		t.Errorf("P9.1, P9.3: the gap below one key: %s, %t", toldGap(g), ok)
	}
	if g, ok := None(x, []byte("z")); !ok || g.Right != nil || toldSide(g.Left) != told(p) || VerifyGap(x.Root(), []byte("z"), g) != nil {
		t.Errorf("P9.1, P9.3: the gap above one key: %s, %t", toldGap(g), ok)
	}
	if g, ok := None(x, []byte("m")); ok || g.Left != nil || g.Right != nil {
		t.Errorf("P9.1, R3: the gap of a key that is there: %s, %t", toldGap(g), ok)
	}
}
