package sha

import (
	"bytes"
	"crypto/sha256"
	"encoding/hex"
	"math/big"
	"slices"
	"testing"

	"ferryman/api"
)

// sample: n bytes of which no two neighbours are alike, so that an exchange shows.
func sample(n int) []byte {
	b := make([]byte, n)
	for i := range b {
		b[i] = byte(i*167 + i>>8*13 + 41)
	}
	return b
}

func wantHex(t *testing.T, name string, got api.Hash, want string) {
	t.Helper()
	if hex.EncodeToString(got[:]) != want {
		t.Errorf("P1.1: Sum of %s is %x, not %s", name, got, want)
	}
}

func TestExamples(t *testing.T) {
	const ofNothing = "e3b0c44298fc1c149afbf4c8996fb92427ae41e4649b934ca495991b7852b855"
	wantHex(t, "no parts", Sum(), ofNothing)
	wantHex(t, "nil", Sum(nil), ofNothing)
	wantHex(t, "parts of nothing", Sum(nil, []byte{}, nil, sample(5)[:0]), ofNothing)
	wantHex(t, "abc", Sum([]byte("abc")), "ba7816bf8f01cfea414140de5dae2223b00361a396177a9cb410ff61f20015ad")
	wantHex(t, "56 letters", Sum([]byte("abcdbcdecdefdefgefghfghighijhijkijkljklmklmnlmnomnopnopq")),
		"248d6a61d20638b8e5c026930c3e6039a33ce45964ff2167f6ecedd419db06c1")
	wantHex(t, "a million times a", Sum(bytes.Repeat([]byte("a"), 1000000)),
		"cdc76e5c9914fb9281a1c7e284d73e67f1809a48a497200e046d39ccc7112cd0")
}

// Every length over five blocks: just below, at and above 56 and 64 bytes and their multiples are among them.
func TestLengths(t *testing.T) {
	for n := range 5*blockBytes + 1 {
		for _, b := range [][]byte{sample(n), make([]byte, n), bytes.Repeat([]byte{0xff}, n)} {
			if got := Sum(b); got != sha256.Sum256(b) {
				t.Fatalf("P1.1: Sum of %d bytes is %x", n, got)
			}
		}
	}
}

func TestLengthsAtMultiples(t *testing.T) {
	for k := 1; k <= 40; k++ {
		for _, n := range []int{56*k - 1, 56 * k, 56*k + 1, 64*k - 9, 64*k - 8, 64*k - 7, 64*k - 1, 64 * k, 64*k + 1} {
			b := sample(n)
			if got := Sum(b); got != sha256.Sum256(b) {
				t.Errorf("P1.1: Sum of %d bytes is %x", n, got)
			}
		}
	}
}

// The number of bits is one of eight bytes: more than four of them are needed here.
func TestLengthBeyond32Bits(t *testing.T) {
	part := sample(1 << 20)
	parts := slices.Repeat([][]byte{part}, 1<<9)
	parts = append(parts, []byte("end"))
	want := sha256.New()
	for _, p := range parts {
		want.Write(p)
	}
	if got := Sum(parts...); !bytes.Equal(got[:], want.Sum(nil)) {
		t.Errorf("P1.1: Sum of more than 2^32 bits is %x", got)
	}
}

func TestCutInTwoAndThree(t *testing.T) {
	b := sample(150)
	want := api.Hash(sha256.Sum256(b))
	for i := range len(b) + 1 {
		if Sum(b[:i], b[i:]) != want {
			t.Fatalf("P1.1: cut at %d the sum is another", i)
		}
		for j := i; j <= len(b); j++ {
			if Sum(b[:i], b[i:j], b[j:]) != want {
				t.Fatalf("P1.1: cut at %d and %d the sum is another", i, j)
			}
		}
	}
}

func TestCutInPiecesOfOneLength(t *testing.T) {
	b := sample(300)
	want := api.Hash(sha256.Sum256(b))
	for _, n := range []int{1, 2, 3, 7, 55, 56, 57, 63, 64, 65, 128, 299, 300, 301} {
		var parts, spread [][]byte
		for piece := range slices.Chunk(b, n) {
			parts = append(parts, piece)
			spread = append(spread, nil, piece, []byte{})
		}
		if Sum(parts...) != want || Sum(spread...) != want {
			t.Errorf("P1.1: in pieces of %d bytes the sum is another", n)
		}
	}
}

func TestUnlikeBytesUnlikeSums(t *testing.T) {
	seen := map[api.Hash]int{}
	for n := range 200 {
		h := Sum(make([]byte, n))
		if m, ok := seen[h]; ok {
			t.Fatalf("P1.1: %d and %d bytes 0 have one sum", m, n)
		}
		seen[h] = n
	}
	if Sum([]byte("ab"), []byte("c")) == Sum([]byte("c"), []byte("ab")) {
		t.Error("P1.1: the order of parts doesn't count")
	}
}

func TestHandedInStays(t *testing.T) {
	for _, n := range []int{0, 1, 55, 56, 63, 64, 65, 200} {
		whole := sample(n + 100)
		before := slices.Clone(whole)
		parts := make([][]byte, 3, 8)
		parts[0], parts[1] = whole[:n/2], whole[n/2:n]
		spare := parts[:cap(parts)]
		first := Sum(parts...)
		if !bytes.Equal(whole, before) {
			t.Errorf("R6: bytes or their spare room changed at %d", n)
		}
		if len(parts[0]) != n/2 || len(parts[1]) != n-n/2 || parts[2] != nil {
			t.Errorf("R6: the parts changed at %d", n)
		}
		for _, p := range spare[3:] {
			if p != nil {
				t.Errorf("R6: the parts' spare room changed at %d", n)
			}
		}
		if Sum(parts...) != first {
			t.Errorf("R8: asked twice, the sum is another at %d", n)
		}
		for i := range whole {
			whole[i] ^= 0xff
		}
		if first != sha256.Sum256(before[:n]) {
			t.Errorf("R6: the answer shares memory with what was handed in at %d", n)
		}
	}
}

// What one call was given must not reach the next.
func TestNothingIsKept(t *testing.T) {
	want := Sum([]byte("abc"))
	for n := range 130 {
		Sum(sample(n))
		if Sum([]byte("abc")) != want {
			t.Fatalf("R8: behind a sum of %d bytes that of abc is another", n)
		}
	}
}

func TestThirdsAreThirdRoots(t *testing.T) {
	i := 0
	for p := int64(2); i < len(thirds); p++ {
		if !big.NewInt(p).ProbablyPrime(0) {
			continue
		}
		if want := thirdRootBits(p); thirds[i] != want {
			t.Errorf("P1.1: k%d is %08x, not %08x", i, thirds[i], want)
		}
		i++
	}
}

// thirdRootBits: the greatest x whose cube is at most p * 2^96 is the root with 32 bits behind the point.
func thirdRootBits(p int64) uint32 {
	cube := new(big.Int).Lsh(big.NewInt(p), 96)
	x := new(big.Int)
	for bit := 40; bit >= 0; bit-- {
		y := new(big.Int).SetBit(x, bit, 1)
		if new(big.Int).Exp(y, big.NewInt(3), nil).Cmp(cube) <= 0 {
			x = y
		}
	}
	return uint32(x.Uint64())
}

func FuzzSum(f *testing.F) {
	f.Add([]byte("abc"), 1, 2)
	f.Add([]byte{}, 0, 0)
	f.Add(sample(130), 64, 120)
	f.Fuzz(func(t *testing.T, b []byte, i, j int) {
		i = min(max(i, 0), len(b))
		j = min(max(j, i), len(b))
		if Sum(b[:i], b[i:j], b[j:]) != sha256.Sum256(b) {
			t.Errorf("P1.1: %d bytes cut at %d and %d", len(b), i, j)
		}
	})
}
