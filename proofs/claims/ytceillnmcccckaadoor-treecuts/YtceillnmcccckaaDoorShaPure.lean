/-
  The sum of bytes (SHA-256) as plain functions on lists, and what they give at the chapter's two examples: no condition.
-/
import Derived.KernelRfl
namespace Go.Proofs.YtceillnmcccckaaDoor.Sh.Sha

/-- The table of the third roots' bits. -/
def kk : List UInt32 := [1116352408, 1899447441, 3049323471, 3921009573, 961987163, 1508970993, 2453635748, 2870763221, 3624381080, 310598401, 607225278, 1426881987, 1925078388, 2162078206, 2614888103, 3248222580, 3835390401, 4022224774, 264347078, 604807628, 770255983, 1249150122, 1555081692, 1996064986, 2554220882, 2821834349, 2952996808, 3210313671, 3336571891, 3584528711, 113926993, 338241895, 666307205, 773529912, 1294757372, 1396182291, 1695183700, 1986661051, 2177026350, 2456956037, 2730485921, 2820302411, 3259730800, 3345764771, 3516065817, 3600352804, 4094571909, 275423344, 430227734, 506948616, 659060556, 883997877, 958139571, 1322822218, 1537002063, 1747873779, 1955562222, 2024104815, 2227730452, 2361852424, 2428436474, 2756734187, 3204031479, 3329325298]

def rotr (x : UInt32) (n : Nat) : UInt32 := x <<< (UInt32.ofNat (32 - n)) ||| x >>> (UInt32.ofNat n)

def big1 (x : UInt32) : UInt32 := rotr x 6 ^^^ rotr x 11 ^^^ rotr x 25
def big0 (x : UInt32) : UInt32 := rotr x 2 ^^^ rotr x 13 ^^^ rotr x 22
def sml0 (x : UInt32) : UInt32 := rotr x 7 ^^^ rotr x 18 ^^^ x >>> 3
def sml1 (x : UInt32) : UInt32 := rotr x 17 ^^^ rotr x 19 ^^^ x >>> 10

structure St where
  a : UInt32
  b : UInt32
  c : UInt32
  d : UInt32
  e : UInt32
  f : UInt32
  g : UInt32
  h : UInt32
deriving DecidableEq

def tt (s : St) (k w : UInt32) : UInt32 := s.h + big1 s.e + (s.e &&& s.f ||| ~~~s.e &&& s.g) + k + w
def uu (s : St) : UInt32 := big0 s.a + (s.a &&& s.b ||| s.a &&& s.c ||| s.b &&& s.c)
def step (s : St) (k w : UInt32) : St := ⟨tt s k w + uu s, s.a, s.b, s.c, s.d + tt s k w, s.e, s.f, s.g⟩

def mkWord (b0 b1 b2 b3 : UInt8) : UInt32 := b0.toUInt32 <<< 24 ||| b1.toUInt32 <<< 16 ||| b2.toUInt32 <<< 8 ||| b3.toUInt32
def word (b : List UInt8) (i : Nat) : UInt32 := mkWord (b.getD (4 * i) 0) (b.getD (4 * i + 1) 0) (b.getD (4 * i + 2) 0) (b.getD (4 * i + 3) 0)

def nextW (l : List UInt32) (i : Nat) : UInt32 :=
  l.getD (i - 16) 0 + sml0 (l.getD (i - 15) 0) + l.getD (i - 7) 0 + sml1 (l.getD (i - 2) 0)

/-- The words of a block behind n rounds of filling. -/
def fill (b : List UInt8) : Nat → List UInt32
  | 0 => List.replicate 64 0
  | n + 1 => (fill b n).set n (if n < 16 then word b n else nextW (fill b n) n)

def sched (b : List UInt8) : List UInt32 := fill b 64

def rounds (w : List UInt32) (s : St) : Nat → St
  | 0 => s
  | n + 1 => step (rounds w s n) (kk.getD n 0) (w.getD n 0)

def addSt (s t : St) : St := ⟨s.a + t.a, s.b + t.b, s.c + t.c, s.d + t.d, s.e + t.e, s.f + t.f, s.g + t.g, s.h + t.h⟩

def mix (s : St) (b : List UInt8) : St := addSt s (rounds (sched b) s 64)

def init : St := ⟨1779033703, 3144134277, 1013904242, 2773480762, 1359893119, 2600822924, 528734635, 1541459225⟩

end Go.Proofs.YtceillnmcccckaaDoor.Sh.Sha
