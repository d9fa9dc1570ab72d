package epoch

import (
	"fmt"
	"math"
	"reflect"
	"runtime"
	"slices"
	"testing"
	"weak"

	"ferryman/api"
	"ferryman/tree"
)

func started(t *testing.T, keep int) *Log {
	t.Helper()
	l, e := New(keep)
	if e != api.OK || l == nil {
		t.Fatalf("P6.1: New(%d): %v, %d", keep, l, e)
	}
	return l
}

// with: a tree with a key more.
func with(t *testing.T, x *tree.Tree, key string) *tree.Tree {
	t.Helper()
	y, e := x.Put([]byte(key), []byte("of "+key))
	if e != api.OK {
		t.Fatalf("Put of %q: %d", key, e)
	}
	return y
}

// grown: so many trees, each with a key more than the one ahead of it.
func grown(t *testing.T, many int) []*tree.Tree {
	t.Helper()
	trees := make([]*tree.Tree, many)
	x := tree.New()
	for i := range trees {
		x = with(t, x, fmt.Sprintf("key %d", i))
		trees[i] = x
	}
	return trees
}

func commit(t *testing.T, l *Log, x *tree.Tree, want uint64) {
	t.Helper()
	if n, e := l.Commit(x); n != want || e != api.OK {
		t.Fatalf("P6.1: Commit: %d, %d; want %d", n, e, want)
	}
}

func commitAll(t *testing.T, l *Log, trees []*tree.Tree) {
	t.Helper()
	for i, x := range trees {
		commit(t, l, x, uint64(i+1))
	}
}

func wantNone(t *testing.T, l *Log, n uint64) {
	t.Helper()
	if x, e := l.At(n); x != nil || e != api.ErrNone {
		t.Errorf("P6.1: At(%d): %v, %d; want ErrNone", n, x, e)
	}
}

func wantAt(t *testing.T, l *Log, n uint64, want []api.Pair) {
	t.Helper()
	x, e := l.At(n)
	if e != api.OK || x == nil {
		t.Errorf("P6.1: At(%d): %v, %d", n, x, e)
		return
	}
	if len(want) != x.Len() || len(want) > 0 && !reflect.DeepEqual(x.All(), want) {
		t.Errorf("P6.1: At(%d): %d pairs, not those that were committed", n, x.Len())
	}
}

// wantAs: the log tells what it must where all that was committed is in all, and keep are kept.
func wantAs(t *testing.T, l *Log, keep int, all []*tree.Tree) {
	t.Helper()
	last := uint64(len(all))
	if l.Last() != last {
		t.Errorf("P6.1: Last: %d, not %d", l.Last(), last)
	}
	gone := max(0, len(all)-keep)
	var roots []api.Hash
	for i, x := range all {
		n := uint64(i + 1)
		if i < gone {
			wantNone(t, l, n)
			continue
		}
		roots = append(roots, x.Root())
		if got, e := l.At(n); e != api.OK || got == nil || got.Root() != x.Root() || got.Len() != x.Len() {
			t.Errorf("P6.1: keep %d, %d committed: At(%d): %d", keep, last, n, e)
		}
	}
	if got := l.Roots(); !slices.Equal(got, roots) {
		t.Errorf("P6.1: keep %d, %d committed: %d roots, not those of the %d that are kept, the oldest first", keep, last, len(got), len(roots))
	}
	for _, n := range []uint64{0, last + 1, last + 2, last + 64, math.MaxInt64, math.MaxUint64 - 1, math.MaxUint64} {
		wantNone(t, l, n)
	}
}

func TestExample(t *testing.T) {
	l := started(t, 2)
	trees := grown(t, 3)
	commitAll(t, l, trees)
	wantNone(t, l, 1)
	wantAt(t, l, 2, trees[1].All())
	wantAt(t, l, 3, trees[2].All())
	wantAs(t, l, 2, trees)
}

func TestKeepAllowed(t *testing.T) {
	for _, keep := range []int{1, 2, 63, 64, api.MaxKeep} {
		wantAs(t, started(t, keep), keep, nil)
	}
}

func TestKeepRefused(t *testing.T) {
	for _, keep := range []int{0, 65, 66, 128, -1, -2, -64, math.MinInt, math.MinInt + 1, math.MaxInt, math.MaxInt32, 1 << 32, 1<<32 + 1, 1<<63 - 64, 256 + 1} {
		if l, e := New(keep); l != nil || e != api.ErrRange {
			t.Errorf("P6.1: New(%d): %v, %d; want ErrRange", keep, l, e)
		}
	}
}

func TestNoVersion(t *testing.T) {
	l := started(t, 3)
	if l.Last() != 0 {
		t.Errorf("P6.1: Last: %d where there was none", l.Last())
	}
	if r := l.Roots(); len(r) != 0 {
		t.Errorf("P6.1: Roots: %d where there was no version", len(r))
	}
	for _, n := range []uint64{0, 1, 2, 3, 64, math.MaxUint64} {
		wantNone(t, l, n)
	}
}

func TestAtTheEdges(t *testing.T) {
	l := started(t, 5)
	trees := grown(t, 12)
	commitAll(t, l, trees)
	for _, n := range []uint64{0, 1, 7, 13, 1 << 32, 1<<32 + 12, math.MaxInt64, 1 << 63, math.MaxUint64} {
		wantNone(t, l, n)
	}
	for n := uint64(8); n <= 12; n++ {
		wantAt(t, l, n, trees[n-1].All())
	}
}

func TestEveryKeep(t *testing.T) {
	const many = 140
	trees := grown(t, many)
	for keep := 1; keep <= api.MaxKeep; keep++ {
		l := started(t, keep)
		for i, x := range trees {
			commit(t, l, x, uint64(i+1))
			if near := i + 1 - keep; near >= -1 && near <= 2 || i == 0 || i == many-1 {
				wantAs(t, l, keep, trees[:i+1])
			}
		}
	}
}

func TestManyMore(t *testing.T) {
	const many = 10000
	x, y := tree.New(), with(t, tree.New(), "a")
	for _, keep := range []int{1, 64} {
		l := started(t, keep)
		for i := range many {
			at := x
			if i%3 == 0 {
				at = y
			}
			commit(t, l, at, uint64(i+1))
		}
		wantNone(t, l, uint64(many-keep))
		var roots []api.Hash
		for i := many - keep; i < many; i++ {
			at := x
			if i%3 == 0 {
				at = y
			}
			wantAt(t, l, uint64(i+1), at.All())
			roots = append(roots, at.Root())
		}
		wantNone(t, l, many+1)
		if l.Last() != many || !slices.Equal(l.Roots(), roots) {
			t.Errorf("P6.1: keep %d, many more: Last %d", keep, l.Last())
		}
	}
}

func TestTheSameTreeTwice(t *testing.T) {
	x := with(t, tree.New(), "a")
	l := started(t, 3)
	var all []*tree.Tree
	for i := range 5 {
		commit(t, l, x, uint64(i+1))
		all = append(all, x)
		wantAs(t, l, 3, all)
	}
	r := l.Roots()
	if len(r) != 3 || r[0] != x.Root() || r[1] != x.Root() || r[2] != x.Root() {
		t.Errorf("P6.1: Roots of one tree thrice: %x", r)
	}
}

func TestOldTreeAgain(t *testing.T) {
	trees := grown(t, 3)
	all := []*tree.Tree{trees[2], trees[0], trees[1], trees[0], trees[2]}
	l := started(t, 4)
	for i, x := range all {
		commit(t, l, x, uint64(i+1))
		wantAs(t, l, 4, all[:i+1])
	}
}

func TestEmptyTrees(t *testing.T) {
	l := started(t, 3)
	full := with(t, tree.New(), "a")
	bare, _ := full.Cut([]byte("a"))
	all := []*tree.Tree{tree.New(), {}, full, bare}
	for i, x := range all {
		commit(t, l, x, uint64(i+1))
		wantAs(t, l, 3, all[:i+1])
	}
	wantAt(t, l, 2, nil)
	if r := l.Roots(); len(r) != 3 || r[0] != tree.Empty() || r[1] == tree.Empty() || r[2] != tree.Empty() {
		t.Errorf("P6.1: Roots with empty trees: %x", r)
	}
}

func TestNilTree(t *testing.T) {
	trees := grown(t, 9)
	for many := range len(trees) {
		l := started(t, 4)
		commitAll(t, l, trees[:many])
		for range 6 {
			if n, e := l.Commit(nil); n != 0 || e != api.ErrNil {
				t.Errorf("P6.1: Commit(nil) behind %d: %d, %d; want ErrNil", many, n, e)
			}
			wantAs(t, l, 4, trees[:many])
		}
		commit(t, l, trees[many], uint64(many+1))
		wantAs(t, l, 4, trees[:many+1])
	}
}

func TestNilLog(t *testing.T) {
	var l *Log
	for name, x := range map[string]*tree.Tree{"nil": nil, "empty": tree.New(), "full": with(t, tree.New(), "a")} {
		if n, e := l.Commit(x); n != 0 || e != api.ErrNil {
			t.Errorf("R7: Commit of a tree that is %s: %d, %d; want ErrNil", name, n, e)
		}
	}
	for _, n := range []uint64{0, 1, 64, math.MaxUint64} {
		if x, e := l.At(n); x != nil || e != api.ErrNil {
			t.Errorf("R7: At(%d): %v, %d; want ErrNil", n, x, e)
		}
	}
	if n := l.Last(); n != 0 {
		t.Errorf("R7: Last: %d", n)
	}
	if r := l.Roots(); len(r) != 0 {
		t.Errorf("R7: Roots: %d", len(r))
	}
}

// A log that New didn't make keeps nothing, and must not panic (P1).
func TestZeroLog(t *testing.T) {
	var l Log
	trees := grown(t, 3)
	wantAs(t, &l, 0, nil)
	for i, x := range trees {
		commit(t, &l, x, uint64(i+1))
		wantAs(t, &l, 0, trees[:i+1])
	}
}

func TestVersionsStayAsTheyAre(t *testing.T) {
	l := started(t, 8)
	x := with(t, with(t, tree.New(), "a"), "b")
	commit(t, l, x, 1)
	want := x.All()
	cut, _ := x.Cut([]byte("a"))
	more, e := x.Put([]byte("a"), []byte("another"))
	if e != api.OK {
		t.Fatal(e)
	}
	for i, y := range []*tree.Tree{cut, more, tree.New(), with(t, more, "c"), cut, x, with(t, x, "d")} {
		commit(t, l, y, uint64(i+2))
		wantAt(t, l, 1, want)
	}
	commit(t, l, x, 9)
	wantNone(t, l, 1)
	wantAt(t, l, 7, want)
}

func TestAnsweredTreesStay(t *testing.T) {
	l := started(t, 2)
	trees := grown(t, 6)
	commitAll(t, l, trees[:2])
	first, e := l.At(1)
	second, f := l.At(2)
	if e != api.OK || f != api.OK {
		t.Fatalf("P6.1: At: %d, %d", e, f)
	}
	for i, x := range trees[2:] {
		commit(t, l, x, uint64(i+3))
	}
	wantNone(t, l, 1)
	if first.Root() != trees[0].Root() || second.Root() != trees[1].Root() {
		t.Error("R6: a tree that was answered is another one once its version is gone")
	}
}

func TestChangedRootsChangeNothing(t *testing.T) {
	trees := grown(t, 5)
	l := started(t, 3)
	commitAll(t, l, trees[:4])
	early := l.Roots()
	kept := slices.Clone(early)
	late := l.Roots()
	for i := range late {
		late[i] = api.Hash{1, 2, 3}
	}
	slices.Reverse(late)
	late = append(late[:1], api.Hash{4}, api.Hash{5}, api.Hash{6})
	_ = append(late, api.Hash{7})
	wantAs(t, l, 3, trees[:4])
	commit(t, l, trees[4], 5)
	wantAs(t, l, 3, trees)
	if !slices.Equal(early, kept) {
		t.Error("R6: roots that were answered changed")
	}
	if again := l.Roots(); len(again) != 3 || again[2] != trees[4].Root() {
		t.Error("P6.1: Roots behind changed ones")
	}
}

// What is handed in isn't kept, and an answer is new memory (R6): another tree may be laid where a pointer leads.
func TestOtherTreesLaidThere(t *testing.T) {
	trees := grown(t, 3)
	other := with(t, tree.New(), "other")
	l := started(t, 2)
	for i, x := range trees {
		mine := *x
		commit(t, l, &mine, uint64(i+1))
		if mine != *x {
			t.Error("R6: Commit changed the tree that was handed in")
		}
		mine = *other
	}
	wantAs(t, l, 2, trees)
	for n := uint64(2); n <= 3; n++ {
		x, e := l.At(n)
		if e != api.OK {
			t.Fatalf("P6.1: At(%d): %d", n, e)
		}
		*x = *other
	}
	wantAs(t, l, 2, trees)
}

func TestLogsAreApart(t *testing.T) {
	trees := grown(t, 9)
	one, two := started(t, 2), started(t, 3)
	for i := range trees {
		if i%2 == 0 {
			commit(t, one, trees[i], uint64(i/2+1))
		} else {
			commit(t, two, trees[i], uint64(i/2+1))
		}
	}
	wantAs(t, one, 2, []*tree.Tree{trees[0], trees[2], trees[4], trees[6], trees[8]})
	wantAs(t, two, 3, []*tree.Tree{trees[1], trees[3], trees[5], trees[7]})
}

func TestCopiesOfALogAreApart(t *testing.T) {
	trees := grown(t, 12)
	for many := range 8 {
		l := started(t, 4)
		commitAll(t, l, trees[:many])
		twin := *l
		ofTwin := slices.Clone(trees[:many])
		for i := range 3 {
			x := trees[11-i]
			ofTwin = append(ofTwin, x)
			commit(t, &twin, x, uint64(many+i+1))
			wantAs(t, l, 4, trees[:many])
		}
		commit(t, l, trees[many], uint64(many+1))
		wantAs(t, l, 4, trees[:many+1])
		wantAs(t, &twin, 4, ofTwin)
	}
}

// mark: a mark at the upmost node of a tree that is committed and then held by nobody but the log; it is empty once nothing holds on to that node.
func mark(t *testing.T, l *Log, n int) weak.Pointer[byte] {
	t.Helper()
	x := with(t, tree.New(), fmt.Sprintf("key %d", n))
	top := reflect.ValueOf(x).Elem().Field(0).UnsafePointer()
	commit(t, l, x, uint64(n))
	return weak.Make((*byte)(top))
}

func held(marks []weak.Pointer[byte]) int {
	n := 0
	for _, m := range marks {
		if m.Value() != nil {
			n++
		}
	}
	return n
}

// The log doesn't hold on to trees that are gone, in the row's spare room at either end.
func TestGoneIsGone(t *testing.T) {
	for _, keep := range []int{1, 2, 5, 64} {
		l := started(t, keep)
		var marks []weak.Pointer[byte]
		for n := 1; n <= 2*keep+3; n++ {
			marks = append(marks, mark(t, l, n))
		}
		gone, kept := marks[:keep+3], marks[keep+3:]
		for try := 0; try < 20 && held(gone) > 0; try++ {
			runtime.GC()
		}
		if n := held(gone); n > 0 {
			t.Errorf("P6.1: keep %d: %d trees that are gone are held", keep, n)
		}
		if n := held(kept); n != keep || len(l.Roots()) != keep {
			t.Errorf("P6.1: keep %d: %d trees are held", keep, n)
		}
	}
}

func TestAskedTwice(t *testing.T) {
	trees := grown(t, 7)
	l := started(t, 4)
	commitAll(t, l, trees)
	for range 3 {
		wantAs(t, l, 4, trees)
	}
	again := started(t, 4)
	commitAll(t, again, trees)
	if !slices.Equal(l.Roots(), again.Roots()) {
		t.Error("R8: two logs of the same trees tell other roots")
	}
}

// FuzzLog: a script of commits, some of them of nil, held against a list of all that was committed.
func FuzzLog(f *testing.F) {
	f.Add(2, []byte{1, 2, 3}, uint64(1))
	f.Add(1, []byte{0, 0, 7, 7, 255}, uint64(5))
	f.Add(64, []byte{9, 9, 255, 4}, uint64(math.MaxUint64))
	f.Add(0, []byte{1}, uint64(0))
	f.Add(math.MinInt, []byte{}, uint64(0))
	f.Fuzz(func(t *testing.T, keep int, script []byte, n uint64) {
		l, e := New(keep)
		if (e == api.OK) != (keep >= 1 && keep <= 64) || (l == nil) != (e != api.OK) {
			t.Fatalf("P6.1: New(%d): %v, %d", keep, l, e)
		}
		if e != api.OK {
			return
		}
		var all []*tree.Tree
		x := tree.New()
		for _, b := range script {
			if b == 255 {
				if n, e := l.Commit(nil); n != 0 || e != api.ErrNil {
					t.Fatalf("P6.1: Commit(nil): %d, %d", n, e)
				}
				continue
			}
			x = with(t, x, string([]byte{'k', b % 32}))
			if b >= 128 {
				x, _ = x.Cut([]byte{'k', b % 7})
			}
			all = append(all, x)
			commit(t, l, x, uint64(len(all)))
		}
		wantAs(t, l, keep, all)
		if n == 0 || n > uint64(len(all)) {
			wantNone(t, l, n)
		}
	})
}
