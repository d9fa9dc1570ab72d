package proof

import (
	"bytes"
	"errors"
	"fmt"
	"math"
	"slices"
	"testing"

	"ferryman/api"
	"ferryman/fault"
	"ferryman/tree"
)

// wantCode: an error of just that number, whatever else it says; none of OK.
func wantCode(t *testing.T, promise, what string, err error, want api.Errno) {
	t.Helper()
	if (err == nil) != (want == api.OK) || fault.Code(err) != want {
		t.Errorf("%s: %s: %v (number %d), not number %d", promise, what, err, fault.Code(err), want)
	}
}

func TestHowManyTurns(t *testing.T) {
	for _, turns := range []int{0, 1, 2, 63, 64} {
		p, root := chain(turns)
		wantCode(t, "P9.2", fmt.Sprintf("%d turns", turns), Verify(root, p), api.OK)
		wantCode(t, "P9.2", fmt.Sprintf("%d turns, another root", turns), Verify(sumOf(0), p), api.ErrRoot)
		wantCode(t, "P9.2", fmt.Sprintf("%d turns, no root", turns), Verify(api.Hash{}, p), api.ErrRoot)
		wantCode(t, "P9.2", fmt.Sprintf("%d turns, an empty tree's root", turns), Verify(tree.Empty(), p), api.ErrRoot)
	}
	for _, turns := range []int{65, 66, 1000, 100000} {
		p := api.Proof{Key: []byte("k"), Turns: make([]api.Turn, turns)}
		for i := range p.Turns {
			p.Turns[i].Height = turns - i
		}
		wantCode(t, "P9.2", fmt.Sprintf("%d turns", turns), Verify(sumOf(0), p), api.ErrLong)
	}
}

func TestLengths(t *testing.T) {
	for _, c := range []struct {
		key, value int
		want       api.Errno
	}{
		{0, 0, api.ErrKey}, {1, 0, api.OK}, {2, 1, api.OK}, {95, 255, api.OK}, {96, 256, api.OK}, {97, 0, api.ErrKey}, {97, 257, api.ErrKey},
		{1, 256, api.OK}, {1, 257, api.ErrKey}, {96, 257, api.ErrKey}, {0, 257, api.ErrKey}, {257, 1, api.ErrKey}, {353, 1, api.ErrKey}, {70000, 70000, api.ErrKey},
	} {
		for _, turns := range []int{0, 1, 64} {
			p, _ := chain(turns)
			p.Key, p.Value = bytes.Repeat([]byte("k"), c.key), bytes.Repeat([]byte("v"), c.value)
			what := fmt.Sprintf("a key of %d, a value of %d bytes, %d turns", c.key, c.value, turns)
			wantCode(t, "P9.2", what, Verify(refRoot(p), p), c.want)
			if c.want == api.OK {
				wantCode(t, "P9.2", what+", another root", Verify(sumOf(1), p), api.ErrRoot)
			}
		}
	}
	wantCode(t, "P9.2", "a proof of nothing", Verify(api.Hash{}, api.Proof{}), api.ErrKey)
	wantCode(t, "P9.2", "a proof of nothing, an empty tree's root", Verify(tree.Empty(), api.Proof{}), api.ErrKey)
}

func TestHeights(t *testing.T) {
	for _, c := range []struct {
		heights []int
		wrong   int // the last wrong one; -1: none
	}{
		{[]int{1}, -1}, {[]int{64}, -1}, {[]int{63}, -1}, {[]int{0}, 0}, {[]int{-1}, 0}, {[]int{65}, 0}, {[]int{256}, 0}, {[]int{257}, 0}, {[]int{math.MaxInt}, 0}, {[]int{math.MinInt}, 0},
		{[]int{2, 1}, -1}, {[]int{64, 1}, -1}, {[]int{64, 63}, -1}, {[]int{50, 7, 3}, -1},
		{[]int{1, 1}, 0}, {[]int{1, 2}, 0}, {[]int{2, 2, 1}, 0}, {[]int{64, 64}, 0}, {[]int{65, 64}, 0}, {[]int{65, 1}, 0}, {[]int{66, 65}, 1}, {[]int{66, 65, 64}, 1},
		{[]int{3, 2, 0}, 2}, {[]int{3, 0, 1}, 1}, {[]int{0, 0, 0}, 2}, {[]int{0, 2, 1}, 0}, {[]int{2, 1, -1}, 2}, {[]int{-1, -2}, 1}, {[]int{-1, -2, 3}, 1},
		{[]int{5, 5, 5, 1}, 1}, {[]int{5, 5, 4, 1}, 0}, {[]int{1, 2, 3, 4}, 2}, {[]int{9, 1, 2, 1}, 1}, {[]int{258, 257, 2}, 1}, {[]int{math.MaxInt, math.MinInt}, 1},
	} {
		p := api.Proof{Key: []byte("k"), Value: []byte("v")}
		for i, h := range c.heights {
			p.Turns = append(p.Turns, api.Turn{Height: h, Size: 2, Right: i%2 == 1, Other: sumOf(byte(i))})
		}
		err := Verify(refRoot(p), p)
		if c.wrong < 0 {
			wantCode(t, "P9.2", fmt.Sprint("Heights ", c.heights), err, api.OK)
			continue
		}
		wantCode(t, "P9.2", fmt.Sprint("Heights ", c.heights), err, api.ErrNode)
		var s *fault.Step
		if !errors.As(err, &s) || s.N != c.wrong {
			t.Errorf("P9.2: of Heights %v the last wrong one isn't told: %v", c.heights, err)
		}
		if got := refWrongTurn(p.Turns); got != c.wrong {
			t.Errorf("the reference says %d of %v", got, c.heights)
		}
	}
}

// Every turn but one of 64 is right.
func TestOneWrongHeight(t *testing.T) {
	for i := range 64 {
		for _, h := range []int{0, -5, 65, 64 - i + 1, 64 - i - 1, 64 - i + 256} {
			p, _ := chain(64)
			p.Turns[i].Height = h
			wantCode(t, "P9.2", fmt.Sprintf("turn %d of Height %d", i, h), Verify(refRoot(p), p), api.ErrNode)
		}
	}
}

// Of many errors the first that is named.
func TestOrderOfErrors(t *testing.T) {
	p, root := chain(66)
	p.Key, p.Value = nil, make([]byte, 257)
	p.Turns[3].Height = 0
	wantCode(t, "P9.2, R2", "all of it wrong", Verify(sumOf(0), p), api.ErrLong)
	p.Turns = p.Turns[:64]
	wantCode(t, "P9.2, R2", "all but how many", Verify(sumOf(0), p), api.ErrKey)
	p.Key = []byte("key")
	wantCode(t, "P9.2, R2", "the value, a height, the root", Verify(sumOf(0), p), api.ErrKey)
	p.Key, p.Value = make([]byte, 97), []byte("value")
	wantCode(t, "P9.2, R2", "the key, a height, the root", Verify(sumOf(0), p), api.ErrKey)
	p.Key = []byte("key")
	wantCode(t, "P9.2, R2", "a height, the root", Verify(sumOf(0), p), api.ErrNode)
	p, _ = chain(64)
	wantCode(t, "P9.2, R2", "the root", Verify(root, p), api.ErrRoot)
}

// A Size is a number of the sum, and no more: neither 0 nor the greatest is wrong by itself.
func TestSizes(t *testing.T) {
	for _, size := range []uint64{0, 1, 2, 255, 256, 1 << 32, math.MaxUint64 - 1, math.MaxUint64} {
		p, _ := chain(3)
		p.Turns[1].Size = size
		root := refRoot(p)
		wantCode(t, "P9.2", fmt.Sprintf("a Size of %d", size), Verify(root, p), api.OK)
		p.Turns[1].Size++
		wantCode(t, "P9.2", fmt.Sprintf("a Size of %d and one", size), Verify(root, p), api.ErrRoot)
	}
}

// Where it leads: by the side, by each part of each turn.
func TestWhereItLeads(t *testing.T) {
	for turns := range 9 {
		for sides := range 1 << turns {
			p, _ := chain(turns)
			for i := range p.Turns {
				p.Turns[i].Right = sides>>i&1 == 1
			}
			root := refRoot(p)
			wantCode(t, "P9.2", fmt.Sprintf("%d turns, %b", turns, sides), Verify(root, p), api.OK)
			for i := range p.Turns {
				p.Turns[i].Right = !p.Turns[i].Right
				wantCode(t, "P9.2", fmt.Sprintf("%d turns, %b, turn %d to the other side", turns, sides, i), Verify(root, p), api.ErrRoot)
				p.Turns[i].Right = !p.Turns[i].Right
			}
		}
	}
}

// bent: a proof, each time with a bit of one of its parts turned, a turn more, a turn less, or two changed for each other.
func bent(p api.Proof, see func(what string, q api.Proof)) {
	for i := range 8 * len(p.Key) {
		q := copied(p)
		q.Key[i/8] ^= 1 << (i % 8)
		see(fmt.Sprintf("bit %d of the key", i), q)
	}
	for i := range 8 * len(p.Value) {
		q := copied(p)
		q.Value[i/8] ^= 1 << (i % 8)
		see(fmt.Sprintf("bit %d of the value", i), q)
	}
	bentTurns(p, see)
	for _, key := range [][]byte{p.Key[1:], p.Key[:len(p.Key)-1], append(bytes.Clone(p.Key), 0)} {
		q := copied(p)
		q.Key = key
		see("a key of another length", q)
	}
	for _, value := range [][]byte{nil, append(bytes.Clone(p.Value), 0), append([]byte{0}, p.Value...)} {
		q := copied(p)
		q.Value = value
		see("a value of another length", q)
	}
	for i := range len(p.Turns) {
		q := copied(p)
		q.Turns = slices.Delete(q.Turns, i, i+1)
		see(fmt.Sprintf("turn %d less", i), q)
		for j := range i {
			q := copied(p)
			q.Turns[i], q.Turns[j] = q.Turns[j], q.Turns[i]
			see(fmt.Sprintf("turns %d and %d changed for each other", i, j), q)
		}
	}
	for i := range len(p.Turns) + 1 {
		for _, more := range []api.Turn{{}, {Height: 1, Size: 2}, {Height: 64, Size: 9, Right: true, Other: sumOf(2)}} {
			q := copied(p)
			q.Turns = slices.Insert(q.Turns, i, more)
			see(fmt.Sprintf("a turn more, at %d", i), q)
		}
	}
}

func bentTurns(p api.Proof, see func(what string, q api.Proof)) {
	for i := range p.Turns {
		for bit := range 64 {
			q := copied(p)
			q.Turns[i].Height ^= 1 << bit
			see(fmt.Sprintf("turn %d, bit %d of Height", i, bit), q)
			q = copied(p)
			q.Turns[i].Size ^= 1 << bit
			see(fmt.Sprintf("turn %d, bit %d of Size", i, bit), q)
		}
		for bit := range 256 {
			q := copied(p)
			q.Turns[i].Other[bit/8] ^= 1 << (bit % 8)
			see(fmt.Sprintf("turn %d, bit %d of Other", i, bit), q)
		}
		q := copied(p)
		q.Turns[i].Right = !q.Turns[i].Right
		see(fmt.Sprintf("turn %d to the other side", i), q)
	}
}

// Of a right proof anything changed is a proof of nothing.
func TestBentProofs(t *testing.T) {
	x := grown(t, "gcaebdfhijk")
	other := put(t, x, "k", "of l")
	for _, key := range []string{"a", "d", "f", "k"} {
		p, _ := Make(x, []byte(key))
		bent(p, func(what string, q api.Proof) {
			err := Verify(x.Root(), q)
			if err == nil {
				t.Errorf("P9.4: of %s, %s: taken", key, what)
			}
			wantCode(t, "P9.2", "of "+key+", "+what, err, refVerify(x.Root(), q))
		})
		wantCode(t, "P9.2", "of "+key+", another tree's root", Verify(other.Root(), p), api.ErrRoot)
	}
	for bit := range 256 {
		p, _ := Make(x, []byte("e"))
		root := x.Root()
		root[bit/8] ^= 1 << (bit % 8)
		wantCode(t, "P9.2", fmt.Sprintf("bit %d of the root", bit), Verify(root, p), api.ErrRoot)
	}
}

// What is taken of a tree's root is so: no proof of one tree is taken of another in which the key hasn't that value.
func TestOnlyWhatIsSo(t *testing.T) {
	trees := []*tree.Tree{tree.New()}
	for _, c := range "mcxaeqzb" {
		last := trees[len(trees)-1]
		trees = append(trees, put(t, last, string(c), "1"), put(t, last, string(c), "2"))
	}
	for i, x := range trees {
		for j, y := range trees {
			for _, pair := range x.All() {
				p, _ := Make(x, pair.Key)
				v, is := y.Get(pair.Key)
				if Verify(y.Root(), p) == nil && !(is && bytes.Equal(v, pair.Value)) {
					t.Errorf("P9.4: tree %d's proof of %s is taken of tree %d", i, pair.Key, j)
				}
			}
		}
	}
}

// A leaf can't be taken for an inner node, nor an inner node for a leaf: an inner node's bytes as a value, and cut off turns.
func TestNoInnerNodeIsALeaf(t *testing.T) {
	x := grown(t, "abcd")
	top, _ := x.Node(nil)
	for _, value := range [][]byte{slices.Concat(top.Left[:], top.Right[:]), top.Left[:], nil} {
		for _, key := range []string{"c", "\x02", "\x02\x00\x00\x00\x00\x00\x00\x00\x04"} {
			wantCode(t, "P9.4", fmt.Sprintf("a leaf %q", key), Verify(x.Root(), api.Proof{Key: []byte(key), Value: value}), api.ErrRoot)
		}
	}
}
