package proof

import (
	"bytes"
	"fmt"
	"math"
	"strings"
	"testing"

	"ferryman/api"
	"ferryman/tree"
)

func TestGapOfAWrongKey(t *testing.T) {
	x := grown(t, "bdf")
	gaps := map[string]api.Gap{"no side": {}}
	for _, key := range []string{"a", "c", "g"} {
		gaps[key], _ = None(x, []byte(key))
	}
	// A gap that would be wrong in all that is looked for later, too.
	bad, _ := chain(70)
	gaps["wrong"] = api.Gap{Left: &bad, Right: &bad}
	for name, g := range gaps {
		for _, n := range []int{0, 97, 98, 257, 352, 70000} {
			for _, root := range []api.Hash{x.Root(), tree.Empty(), {}} {
				wantCode(t, "P9.3", fmt.Sprintf("a key of %d bytes, the gap %s", n, name), VerifyGap(root, bytes.Repeat([]byte("c"), n), g), api.ErrKey)
			}
		}
	}
	wantCode(t, "P9.3", "a key that's nil", VerifyGap(tree.Empty(), nil, api.Gap{}), api.ErrKey)
	for _, n := range []int{1, 2, 95, 96} {
		wantCode(t, "P9.3", fmt.Sprintf("a key of %d bytes", n), VerifyGap(x.Root(), bytes.Repeat([]byte("c"), n), gaps["c"]), api.OK)
		wantCode(t, "P9.3", fmt.Sprintf("a key of %d bytes, an empty tree", n), VerifyGap(tree.Empty(), bytes.Repeat([]byte("c"), n), api.Gap{}), api.OK)
	}
}

func TestGapWithoutASide(t *testing.T) {
	for _, key := range []string{"\x00", "a", "m", strings.Repeat("\xff", 96)} {
		wantCode(t, "P9.3", "no side, an empty tree", VerifyGap(tree.Empty(), []byte(key), api.Gap{}), api.OK)
		wantCode(t, "P9.3", "no side, a tree of one key", VerifyGap(grown(t, "b").Root(), []byte(key), api.Gap{}), api.ErrRoot)
		wantCode(t, "P9.3", "no side, a tree of three keys", VerifyGap(grown(t, "bcd").Root(), []byte(key), api.Gap{}), api.ErrRoot)
		wantCode(t, "P9.3", "no side, no root", VerifyGap(api.Hash{}, []byte(key), api.Gap{}), api.ErrRoot)
		p, _ := chain(0)
		wantCode(t, "P9.3", "a side, an empty tree", VerifyGap(tree.Empty(), []byte("l"), api.Gap{Left: &p}), api.ErrRoot)
		wantCode(t, "P9.3", "a side, an empty tree", VerifyGap(tree.Empty(), []byte("a"), api.Gap{Right: &p}), api.ErrRoot)
	}
}

// sidesOf: none, and each of the tree's leaves.
func sidesOf(x *tree.Tree) []*api.Proof {
	sides := []*api.Proof{nil}
	for _, p := range refProofs(x) {
		sides = append(sides, &p)
	}
	return sides
}

// All pairs of leaves that there are of a tree, and none, for every key: just the one gap of a key that isn't there is taken, and all others have the reference's error.
func TestAllGapsOfATree(t *testing.T) {
	for _, letters := range []string{"", "b", "bd", "bdf", "bdfh", "bdfhj", "jhfdb", "bdfhjln", "pnljhfdbrt"} {
		x := grown(t, letters)
		sides := sidesOf(x)
		for c := byte('a'); c <= 'u'; c++ {
			key := []byte{c}
			want, no := refGap(refProofs(x), string(key))
			for _, l := range sides {
				for _, r := range sides {
					g := api.Gap{Left: l, Right: r}
					err := VerifyGap(x.Root(), key, g)
					what := fmt.Sprintf("%s, %s: %.5s to %.5s", letters, key, toldSide(l), toldSide(r))
					wantCode(t, "P9.3", what, err, refVerifyGap(x.Root(), string(key), g))
					if so := no && toldGap(g) == toldGap(want); so != (err == nil) {
						t.Errorf("P9.4: %s: %v", what, err)
					}
				}
			}
		}
	}
}

// Sides that are leaves of a tree next to each other, but not next to the key, at its ends too.
func TestKeyOutsideOfItsGap(t *testing.T) {
	x := grown(t, "bdfhj")
	for _, c := range []struct{ of, key string }{
		{"a", "b"}, {"a", "c"}, {"a", "z"}, {"a", "b\x00"}, {"c", "b"}, {"c", "d"}, {"c", "a"}, {"c", "e"}, {"c", "d\x00"}, {"k", "j"}, {"k", "a"}, {"k", "i"}, {"g", "f"}, {"g", "h"}, {"g", "\xff"},
	} {
		g, ok := None(x, []byte(c.of))
		if !ok {
			t.Fatalf("P9.1: None of %s", c.of)
		}
		wantCode(t, "P9.3", fmt.Sprintf("the gap of %s for %q", c.of, c.key), VerifyGap(x.Root(), []byte(c.key), g), api.ErrProof)
	}
	for _, c := range []struct{ of, key string }{{"a", "\x00"}, {"a", "aaaa"}, {"c", "b\x00"}, {"c", "c\xff\xff"}, {"k", "j\x00"}, {"k", "\xff"}} {
		g, _ := None(x, []byte(c.of))
		wantCode(t, "P9.3", fmt.Sprintf("the gap of %s for %q", c.of, c.key), VerifyGap(x.Root(), []byte(c.key), g), api.OK)
	}
}

func TestSidesChangedForEachOther(t *testing.T) {
	for _, letters := range []string{"b", "bd", "bdfhjln"} {
		x := grown(t, letters)
		for c := byte('a'); c <= 'o'; c += 2 {
			g, ok := None(x, []byte{c})
			if !ok || VerifyGap(x.Root(), []byte{c}, g) != nil {
				t.Errorf("P9.3: of %s the gap of %c", letters, c)
			}
			if g.Left != nil || g.Right != nil {
				wantCode(t, "P9.3", fmt.Sprintf("of %s the gap of %c, its sides changed", letters, c), VerifyGap(x.Root(), []byte{c}, api.Gap{Left: g.Right, Right: g.Left}), api.ErrProof)
			}
			if g.Left != nil && g.Right != nil {
				wantCode(t, "P9.3", "without Left", VerifyGap(x.Root(), []byte{c}, api.Gap{Right: g.Right}), refVerifyGap(x.Root(), string(c), api.Gap{Right: g.Right}))
				wantCode(t, "P9.3", "without Right", VerifyGap(x.Root(), []byte{c}, api.Gap{Left: g.Left}), refVerifyGap(x.Root(), string(c), api.Gap{Left: g.Left}))
				if VerifyGap(x.Root(), []byte{c}, api.Gap{Right: g.Right}) == nil || VerifyGap(x.Root(), []byte{c}, api.Gap{Left: g.Left}) == nil {
					t.Errorf("P9.4: of %s a half of the gap of %c is taken", letters, c)
				}
				wantCode(t, "P9.3", "twice the Left one", VerifyGap(x.Root(), []byte{c}, api.Gap{Left: g.Left, Right: g.Left}), api.ErrProof)
				wantCode(t, "P9.3", "twice the Right one", VerifyGap(x.Root(), []byte{c}, api.Gap{Left: g.Right, Right: g.Right}), api.ErrProof)
			}
		}
	}
}

// going: a side of turns by letters, all else of which is by their places: l, r, and L, R of another Other, h, H of another Height, s, S of another Size.
func going(way, key string) *api.Proof {
	p := &api.Proof{Key: []byte(key), Value: []byte("v")}
	for i, c := range way {
		turn := api.Turn{Height: 2*len(way) - 2*i, Size: 7, Right: strings.ContainsRune("rRHS", c), Other: sumOf(3)}
		switch c {
		case 'L', 'R':
			turn.Other = sumOf(4)
		case 'h', 'H':
			turn.Height--
		case 's', 'S':
			turn.Size--
		}
		p.Turns = append(p.Turns, turn)
	}
	return p
}

// What next to each other is, by the ways alone: what they lead to isn't looked at ahead of it.
func TestNextToEachOther(t *testing.T) {
	for _, c := range []struct {
		left, right string
		next        bool
	}{
		{"l", "r", true}, {"L", "r", true}, {"l", "R", true}, {"r", "l", false}, {"l", "l", false}, {"r", "r", false}, {"", "", false}, {"l", "", false}, {"", "r", false}, {"l", "L", false}, {"r", "R", false},
		{"ll", "lr", true}, {"rl", "rr", true}, {"rl", "lr", false}, {"lr", "rl", true}, {"lr", "rr", false}, {"ll", "rl", false}, {"ll", "rr", false}, {"lrr", "rll", true}, {"lrl", "rll", false}, {"lrr", "rlr", false}, {"llr", "rll", false}, {"lrr", "rrl", false},
		{"Ll", "lr", false}, {"Rl", "rr", false}, {"rl", "Rr", false}, {"hl", "lr", false}, {"sl", "lr", false}, {"Hl", "rr", false}, {"rl", "Sr", false}, {"LL", "Lr", true},
		{"h", "r", false}, {"l", "H", false}, {"h", "H", true}, {"s", "r", false}, {"l", "S", false}, {"s", "S", true}, {"h", "S", false},
		{"lrlr", "lrrl", true}, {"lrlr", "lrrr", false}, {"lrll", "lrrl", false}, {"lrlr", "lRrl", false}, {"rrrl", "rrrr", true}, {"llll", "lllr", true}, {"lrR", "rlL", true}, {"lhr", "rll", false}, {"lHs", "rhL", false},
	} {
		l, r := going(c.left, "b"), going(c.right, "d")
		want := api.ErrProof
		if c.next {
			want = api.ErrRoot
		}
		wantCode(t, "P9.3", c.left+" and "+c.right, VerifyGap(sumOf(9), []byte("c"), api.Gap{Left: l, Right: r}), want)
		if refNext(l, r) != c.next {
			t.Errorf("the reference says otherwise of %s and %s", c.left, c.right)
		}
	}
}

// Ways of unlike lengths: behind the turn at which they part each goes on as far as it likes.
func TestNextByUnlikeLengths(t *testing.T) {
	shared := []api.Turn{{Height: 60, Size: 99, Right: true, Other: sumOf(1)}, {Height: 50, Size: 98, Other: sumOf(2)}}
	for more := range 8 {
		for less := range 8 {
			l, r := going("l"+strings.Repeat("r", more), "b"), going("r"+strings.Repeat("l", less), "d")
			l.Turns[0].Height, r.Turns[0].Height = 40, 40
			l.Turns, r.Turns = append(shared[:2:2], l.Turns...), append(shared[:2:2], r.Turns...)
			g := api.Gap{Left: l, Right: r}
			wantCode(t, "P9.3", fmt.Sprintf("%d and %d turns more", more, less), VerifyGap(sumOf(9), []byte("c"), g), api.ErrRoot)
			r.Turns[len(r.Turns)-1].Right = less > 0
			wantCode(t, "P9.3", fmt.Sprintf("%d and %d turns more, the last one of the Right side to the other side", more, less), VerifyGap(sumOf(9), []byte("c"), g), api.ErrProof)
		}
	}
}

// One side alone: all of its turns go to the end.
func TestOneSide(t *testing.T) {
	for _, c := range []struct {
		way         string
		left, right api.Errno
	}{
		{"", api.ErrRoot, api.ErrRoot}, {"l", api.ErrProof, api.ErrRoot}, {"r", api.ErrRoot, api.ErrProof}, {"lr", api.ErrProof, api.ErrProof}, {"rl", api.ErrProof, api.ErrProof},
		{"ll", api.ErrProof, api.ErrRoot}, {"rr", api.ErrRoot, api.ErrProof}, {"lllr", api.ErrProof, api.ErrProof}, {"rrrl", api.ErrProof, api.ErrProof}, {"lll", api.ErrProof, api.ErrRoot}, {"rrRrr", api.ErrRoot, api.ErrProof},
	} {
		p := going(c.way, "k")
		wantCode(t, "P9.3", "Left alone: "+c.way, VerifyGap(sumOf(9), []byte("m"), api.Gap{Left: p}), c.left)
		wantCode(t, "P9.3", "Right alone: "+c.way, VerifyGap(sumOf(9), []byte("c"), api.Gap{Right: p}), c.right)
		root := refRoot(*p)
		if c.left == api.ErrRoot {
			wantCode(t, "P9.3", "Left alone: "+c.way, VerifyGap(root, []byte("m"), api.Gap{Left: p}), api.OK)
			wantCode(t, "P9.3", "Left alone, the key's own: "+c.way, VerifyGap(root, []byte("k"), api.Gap{Left: p}), api.ErrProof)
			wantCode(t, "P9.3", "Left alone, above the key: "+c.way, VerifyGap(root, []byte("c"), api.Gap{Left: p}), api.ErrProof)
		}
		if c.right == api.ErrRoot {
			wantCode(t, "P9.3", "Right alone: "+c.way, VerifyGap(root, []byte("c"), api.Gap{Right: p}), api.OK)
			wantCode(t, "P9.3", "Right alone, the key's own: "+c.way, VerifyGap(root, []byte("k"), api.Gap{Right: p}), api.ErrProof)
			wantCode(t, "P9.3", "Right alone, below the key: "+c.way, VerifyGap(root, []byte("m"), api.Gap{Right: p}), api.ErrProof)
		}
	}
}

// wrongSides: ways in which a side is wrong, and Verify's error of it; none of them changes which way its turns go, nor the turns that both share.
func wrongSides() map[string]func(p *api.Proof) api.Errno {
	return map[string]func(p *api.Proof) api.Errno{
		"no key":              func(p *api.Proof) api.Errno { p.Key = nil; return api.ErrKey },
		"a long key":          func(p *api.Proof) api.Errno { p.Key = append(p.Key, make([]byte, 96)...); return api.ErrKey },
		"a long value":        func(p *api.Proof) api.Errno { p.Value = make([]byte, 257); return api.ErrKey },
		"another value":       func(p *api.Proof) api.Errno { p.Value = []byte("x"); return api.ErrRoot },
		"a height of 0":       func(p *api.Proof) api.Errno { p.Turns[len(p.Turns)-1].Height = 0; return api.ErrNode },
		"another sum":         func(p *api.Proof) api.Errno { p.Turns[len(p.Turns)-1].Other[9]++; return api.ErrRoot },
		"another size":        func(p *api.Proof) api.Errno { p.Turns[len(p.Turns)-1].Size = math.MaxUint64; return api.ErrRoot },
		"65 turns":            longer,
		"65 turns and no key": func(p *api.Proof) api.Errno { p.Key = nil; return longer(p) },
	}
}

// longer: turns more, all to the side of the last one.
func longer(p *api.Proof) api.Errno {
	for len(p.Turns) <= 64 {
		p.Turns = append(p.Turns, p.Turns[len(p.Turns)-1])
	}
	return api.ErrLong
}

// Left first: Verify's error of it, then where its key is; then the Right one's.
func TestLeftFirst(t *testing.T) {
	x := grown(t, "bdfhjlnp")
	fair, ok := None(x, []byte("i"))
	if !ok || len(fair.Left.Turns) != 3 || len(fair.Right.Turns) != 3 {
		t.Fatalf("P9.1: the gap of i: %s", toldGap(fair))
	}
	for left, spoilLeft := range wrongSides() {
		g := copiedGap(fair)
		want := spoilLeft(g.Left)
		wantCode(t, "P9.3", "Left: "+left, VerifyGap(x.Root(), []byte("i"), g), want)
		wantCode(t, "P9.3", "Left: "+left+", for a key at its end", VerifyGap(x.Root(), []byte("h"), g), want)
		wantCode(t, "P9.3", "Left: "+left+", for the Right one's key", VerifyGap(x.Root(), []byte("j"), g), want)
		for right, spoilRight := range wrongSides() {
			h := copiedGap(g)
			spoilRight(h.Right)
			wantCode(t, "P9.3, R2", "Left: "+left+", Right: "+right, VerifyGap(x.Root(), []byte("i"), h), want)
		}
	}
	for right, spoilRight := range wrongSides() {
		g := copiedGap(fair)
		want := spoilRight(g.Right)
		wantCode(t, "P9.3", "Right: "+right, VerifyGap(x.Root(), []byte("i"), g), want)
		wantCode(t, "P9.3, R2", "Right: "+right+", for its key", VerifyGap(x.Root(), []byte("j"), g), want)
		wantCode(t, "P9.3, R2", "Right: "+right+", for the Left one's key", VerifyGap(x.Root(), []byte("h"), g), api.ErrProof)
	}
}

// Not next to each other, and else wrong: that comes ahead of Verify's errors, behind a wrong key.
func TestNextComesFirst(t *testing.T) {
	x := grown(t, "bdfhjlnp")
	b, _ := Make(x, []byte("b"))
	f, _ := Make(x, []byte("f"))
	for name, spoilSide := range wrongSides() {
		l, r := copied(b), copied(f)
		spoilSide(&l)
		spoilSide(&r)
		for _, g := range []api.Gap{{Left: &l, Right: &f}, {Left: &b, Right: &r}, {Left: &l, Right: &r}, {Left: &l}, {Right: &r}} {
			wantCode(t, "P9.3, R2", "leaves that aren't next to each other, and "+name, VerifyGap(x.Root(), []byte("c"), g), api.ErrProof)
			wantCode(t, "P9.3, R2", "leaves that aren't next to each other, no key, and "+name, VerifyGap(x.Root(), nil, g), api.ErrKey)
		}
	}
}

// Of a right gap anything changed, of either side, is the gap of nothing.
func TestBentGaps(t *testing.T) {
	x := grown(t, "gcaebdfhikj")
	other := put(t, x, "l", "of l")
	for _, key := range []string{"A", "aa", "dd", "g!", "z"} {
		g, _ := None(x, []byte(key))
		see := func(what string, h api.Gap) {
			err := VerifyGap(x.Root(), []byte(key), h)
			if err == nil {
				t.Errorf("P9.4: of %s, %s: taken", key, what)
			}
			wantCode(t, "P9.3", "of "+key+", "+what, err, refVerifyGap(x.Root(), key, h))
		}
		if g.Left != nil {
			bent(*g.Left, func(what string, q api.Proof) { see("Left: "+what, api.Gap{Left: &q, Right: g.Right}) })
		}
		if g.Right != nil {
			bent(*g.Right, func(what string, q api.Proof) { see("Right: "+what, api.Gap{Left: g.Left, Right: &q}) })
		}
		wantCode(t, "P9.3", "of "+key+", another tree's root", VerifyGap(other.Root(), []byte(key), g), api.ErrRoot)
	}
}

// The same change of one turn of both sides.
func TestBothBent(t *testing.T) {
	x := grown(t, "bdfhjlnp")
	fair, _ := None(x, []byte("g"))
	for i := range fair.Left.Turns {
		for _, bend := range []func(*api.Turn){
			func(u *api.Turn) { u.Size++ }, func(u *api.Turn) { u.Height += 9 }, func(u *api.Turn) { u.Other[0]++ }, func(u *api.Turn) { u.Right = !u.Right },
		} {
			g := copiedGap(fair)
			bend(&g.Left.Turns[i])
			bend(&g.Right.Turns[i])
			err := VerifyGap(x.Root(), []byte("g"), g)
			if err == nil {
				t.Errorf("P9.4: turn %d of both sides changed: taken", i)
			}
			wantCode(t, "P9.3", fmt.Sprintf("turn %d of both sides changed", i), err, refVerifyGap(x.Root(), "g", g))
		}
	}
}

// What is taken of a tree's root is so, also of gaps of other trees.
func TestOnlyGapsThatAreSo(t *testing.T) {
	trees := []*tree.Tree{tree.New()}
	for _, c := range "mcxaeqzb" {
		trees = append(trees, put(t, trees[len(trees)-1], string(c), "1"))
	}
	for i, x := range trees {
		for j, y := range trees {
			for c := byte('a'); c <= 'z'; c++ {
				g, ok := None(x, []byte{c})
				_, is := y.Get([]byte{c})
				if ok && VerifyGap(y.Root(), []byte{c}, g) == nil && is {
					t.Errorf("P9.4: tree %d's gap of %c is taken of tree %d", i, c, j)
				}
			}
		}
	}
}
