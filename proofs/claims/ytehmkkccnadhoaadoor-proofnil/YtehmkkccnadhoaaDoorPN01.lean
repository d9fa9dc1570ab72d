/-
  The sum of bytes (SHA-256) as plain functions on lists, and what they give at the chapter's two examples: no condition.
  Words of 32 bits: what the walk spells with whole numbers is what Lean's own UInt32 does: no condition but a shift's range.
  What bits.RotateLeft32, sha.turned and sha.moved return: no condition; the world stands.
  A block of memory that is known cell by cell: small facts that the walks lean on; bytes and words as cells: no condition.
  What sha.schedule returns for a block of 64 bytes: the 64 words that the chapter says; no condition but the block's length; it only makes memory of its own.
  What sha.mix returns for eight words and a block of 64 bytes: the eight words behind the block, as the chapter says; conditions: the block's length, and that the package's table holds its 64 words. It only makes memory of its own.
  The running sum (eight words, a block that is being filled, its count, the length) as plain data, byte by byte; how it lies in memory; that filling a stretch at once is filling it byte by byte: no condition but the block's length.
  What the digest's method add does: the running sum takes in the bytes of a slice one by one, and nothing else of what was there has turned; conditions: the digest is in order, the bytes lie in another block than it, the table holds its words.
  What the digest's method pad does: the running sum takes in 0x80, noughts up to place 56, and eight times the length in eight bytes; conditions as for add.
  What the digest's method hash returns: the eight words as 32 bytes, the greater byte first; condition: the digest lies whole in its block. It only makes memory of its own.
  What sha.start returns: the running sum of nothing: no condition; it only makes memory of its own.
  What sha.Sum returns: the sum of the bytes of all parts, one behind the other; conditions: the parts are read, and the table holds its words. It only makes memory of its own.
-/
import Derived.KernelRfl
import Derived.Laws.BitsAllLaws
import Derived.Test.YtehmkkccnadhoaaDoorProg
import Derived.WalkKit
import Derived.WalkSpells
import Derived.Lib.Hide
import Derived.Deep.WholeRow
import Derived.Deep.MidRow
import Derived.Deep.Draws
import Derived.StillTailTactics
import Derived.IntWalk
import Derived.Deep.DeepCutAuto
namespace Go.Proofs.YtehmkkccnadhoaaDoor.Sh.Sha

/-- The table of the third roots' bits. -/
def kk : List UInt32 := [1116352408, 1899447441, 3049323471, 3921009573, 961987163, 1508970993, 2453635748, 2870763221, 3624381080, 310598401, 607225278, 1426881987, 1925078388, 2162078206, 2614888103, 3248222580, 3835390401, 4022224774, 264347078, 604807628, 770255983, 1249150122, 1555081692, 1996064986, 2554220882, 2821834349, 2952996808, 3210313671, 3336571891, 3584528711, 113926993, 338241895, 666307205, 773529912, 1294757372, 1396182291, 1695183700, 1986661051, 2177026350, 2456956037, 2730485921, 2820302411, 3259730800, 3345764771, 3516065817, 3600352804, 4094571909, 275423344, 430227734, 506948616, 659060556, 883997877, 958139571, 1322822218, 1537002063, 1747873779, 1955562222, 2024104815, 2227730452, 2361852424, 2428436474, 2756734187, 3204031479, 3329325298]

def rotr (x : UInt32) (n : Nat) : UInt32 := x <<< (UInt32.ofNat (32 - n)) ||| x >>> (UInt32.ofNat n)

def big1 (x : UInt32) : UInt32 := rotr x 6 ^^^ rotr x 11 ^^^ rotr x 25
def big0 (x : UInt32) : UInt32 := rotr x 2 ^^^ rotr x 13 ^^^ rotr x 22
def sml0 (x : UInt32) : UInt32 := rotr x 7 ^^^ rotr x 18 ^^^ x >>> 3
def sml1 (x : UInt32) : UInt32 := rotr x 17 ^^^ rotr x 19 ^^^ x >>> 10

structure St where
  a : UInt32
  b : UInt32
  c : UInt32
  d : UInt32
  e : UInt32
  f : UInt32
  g : UInt32
  h : UInt32
deriving DecidableEq

def tt (s : St) (k w : UInt32) : UInt32 := s.h + big1 s.e + (s.e &&& s.f ||| ~~~s.e &&& s.g) + k + w
def uu (s : St) : UInt32 := big0 s.a + (s.a &&& s.b ||| s.a &&& s.c ||| s.b &&& s.c)
def step (s : St) (k w : UInt32) : St := ⟨tt s k w + uu s, s.a, s.b, s.c, s.d + tt s k w, s.e, s.f, s.g⟩

def mkWord (b0 b1 b2 b3 : UInt8) : UInt32 := b0.toUInt32 <<< 24 ||| b1.toUInt32 <<< 16 ||| b2.toUInt32 <<< 8 ||| b3.toUInt32
def word (b : List UInt8) (i : Nat) : UInt32 := mkWord (b.getD (4 * i) 0) (b.getD (4 * i + 1) 0) (b.getD (4 * i + 2) 0) (b.getD (4 * i + 3) 0)

def nextW (l : List UInt32) (i : Nat) : UInt32 :=
  l.getD (i - 16) 0 + sml0 (l.getD (i - 15) 0) + l.getD (i - 7) 0 + sml1 (l.getD (i - 2) 0)

/-- The words of a block behind n rounds of filling. -/
def fill (b : List UInt8) : Nat → List UInt32
  | 0 => List.replicate 64 0
  | n + 1 => (fill b n).set n (if n < 16 then word b n else nextW (fill b n) n)

def sched (b : List UInt8) : List UInt32 := fill b 64

def rounds (w : List UInt32) (s : St) : Nat → St
  | 0 => s
  | n + 1 => step (rounds w s n) (kk.getD n 0) (w.getD n 0)

def addSt (s t : St) : St := ⟨s.a + t.a, s.b + t.b, s.c + t.c, s.d + t.d, s.e + t.e, s.f + t.f, s.g + t.g, s.h + t.h⟩

def mix (s : St) (b : List UInt8) : St := addSt s (rounds (sched b) s 64)

def init : St := ⟨1779033703, 3144134277, 1013904242, 2773480762, 1359893119, 2600822924, 528734635, 1541459225⟩

end Go.Proofs.YtehmkkccnadhoaaDoor.Sh.Sha
namespace Go.Proofs.YtehmkkccnadhoaaDoor.Sh.Sha

theorem lt32 (x : UInt32) : x.toNat < 4294967296 := x.toNat_lt
theorem or_u32 (x y : UInt32) : bits .or .u32 (x.toNat : Int) (y.toNat : Int) = ((x ||| y).toNat : Int) := by
  rw [u32_or_nat _ _ (lt32 x) (lt32 y), UInt32.toNat_or]
theorem and_u32 (x y : UInt32) : bits .and .u32 (x.toNat : Int) (y.toNat : Int) = ((x &&& y).toNat : Int) := by
  rw [u32_and_nat _ _ (lt32 x) (lt32 y), UInt32.toNat_and]
theorem xor_u32 (x y : UInt32) : bits .xor .u32 (x.toNat : Int) (y.toNat : Int) = ((x ^^^ y).toNat : Int) := by
  rw [u32_xor_nat _ _ (lt32 x) (lt32 y), UInt32.toNat_xor]
theorem not_u32 (x : UInt32) : bits .xor .u32 4294967295 (x.toNat : Int) = ((~~~x).toNat : Int) := by
  have h := u32_xor_nat 4294967295 x.toNat (by omega) (lt32 x)
  rw [show ((4294967295 : Nat) : Int) = (4294967295 : Int) from rfl] at h
  rw [h]
  have e : (~~~x) = 4294967295 ^^^ x := by
    apply UInt32.eq_of_toBitVec_eq
    simp only [UInt32.toBitVec_xor, UInt32.toBitVec_not]
    exact (BitVec.allOnes_xor (x := x.toBitVec)).symm
  rw [e, UInt32.toNat_xor]
  rfl
theorem notif_u32 (x : UInt32) : bits .xor .u32 (if IntKind.u32.signed = true then -1 else IntKind.u32.max) (x.toNat : Int) = ((~~~x).toNat : Int) := not_u32 x
theorem add_u32 (x y : UInt32) : ((x.toNat : Int) + (y.toNat : Int)) % 4294967296 = ((x + y).toNat : Int) := by
  rw [UInt32.toNat_add]; omega
theorem wadd_u32 (x y : UInt32) : IntKind.u32.wrap ((x.toNat : Int) + (y.toNat : Int)) = ((x + y).toNat : Int) := by
  rw [IntKind.wrap_u32', add_u32]
theorem shl_u32 (x : UInt32) (s : Nat) (h : s < 32) : ((x.toNat : Int) * 2 ^ s % 4294967296) = ((x <<< UInt32.ofNat s).toNat : Int) := by
  rw [UInt32.toNat_shiftLeft, UInt32.toNat_ofNat_of_lt' (show s < UInt32.size from Nat.lt_trans h (by decide)), Nat.mod_eq_of_lt h, Nat.shiftLeft_eq, show (2 ^ 32 : Nat) = 4294967296 from rfl, Int.natCast_emod, Int.natCast_mul, Int.natCast_pow]
  rfl
theorem shr_u32 (x : UInt32) (s : Nat) (h : s < 32) : ((x.toNat : Int) / 2 ^ s) = ((x >>> UInt32.ofNat s).toNat : Int) := by
  rw [UInt32.toNat_shiftRight, UInt32.toNat_ofNat_of_lt' (show s < UInt32.size from Nat.lt_trans h (by decide)), Nat.mod_eq_of_lt h, Nat.shiftRight_eq_div_pow, Int.natCast_ediv, Int.natCast_pow]
  rfl
theorem rot_s (i : Nat) (h1 : 1 ≤ i) (h2 : i ≤ 31) : bits .and .u64 (IntKind.u64.wrap (-(i : Int))) 31 = ((32 - i : Nat) : Int) := by
  have h : ∀ j : Fin 31, bits .and .u64 (IntKind.u64.wrap (-((j.val + 1 : Nat) : Int))) 31 = ((32 - (j.val + 1) : Nat) : Int) := by decide +kernel
  have := h ⟨i - 1, by omega⟩
  simpa [show i - 1 + 1 = i by omega] using this

theorem conv_u32 (b : UInt8) : IntKind.u32.wrap (b.toNat : Int) = (b.toUInt32.toNat : Int) := by
  have := b.toNat_lt
  rw [IntKind.wrap_u32', UInt8.toNat_toUInt32]; omega
theorem wshl_u32 (x : UInt32) (s : Nat) (h : s < 32) : IntKind.u32.wrap ((x.toNat : Int) * 2 ^ s) = ((x <<< UInt32.ofNat s).toNat : Int) := by
  rw [IntKind.wrap_u32', shl_u32 x s h]
theorem word_spell (b0 b1 b2 b3 : UInt8) : bits .or .u32 (bits .or .u32 (bits .or .u32 (IntKind.u32.wrap (IntKind.u32.wrap (b0.toNat : Int) * 16777216)) (IntKind.u32.wrap (IntKind.u32.wrap (b1.toNat : Int) * 65536))) (IntKind.u32.wrap (IntKind.u32.wrap (b2.toNat : Int) * 256))) (IntKind.u32.wrap (b3.toNat : Int)) = ((mkWord b0 b1 b2 b3).toNat : Int) := by
  have h1 := wshl_u32 b0.toUInt32 24 (by omega)
  have h2 := wshl_u32 b1.toUInt32 16 (by omega)
  have h3 := wshl_u32 b2.toUInt32 8 (by omega)
  rw [show (2 ^ 24 : Int) = 16777216 from rfl] at h1
  rw [show (2 ^ 16 : Int) = 65536 from rfl] at h2
  rw [show (2 ^ 8 : Int) = 256 from rfl] at h3
  rw [conv_u32, conv_u32, conv_u32, conv_u32, h1, h2, h3, or_u32, or_u32, or_u32]
  rfl
end Go.Proofs.YtehmkkccnadhoaaDoor.Sh.Sha
namespace Go.Proofs.YtehmkkccnadhoaaDoor.Sh
open Go.RowKit

theorem ret_int {k : IntKind} {a b : Int} (h : a = b) : Ending.returned (.int k a) = .returned (.int k b) := by rw [h]

set_option maxHeartbeats 400000 in
theorem rot_any (x : UInt32) (i : Nat) (m : Int) (hm : m = -(i : Int)) (h1 : 1 ≤ i) (h2 : i ≤ 31) (w : World) :
    Calls Tryd.prog 77 #[.int .u32 x.toNat, .int .i64 m] w fun e w' => e = .returned (.int .u32 (Sha.rotr x i).toNat) ∧ w = w' := by
  obtain ⟨s, hs⟩ : ∃ s, s = 32 - i := ⟨_, rfl⟩
  have hb : bits .and .u64 (IntKind.u64.wrap m) 31 = (s : Int) := by rw [hm, Sha.rot_s i h1 h2, hs]
  have s1 : 1 ≤ s := by omega
  have s2 : s ≤ 31 := by omega
  have HE : Hid (bits .or .u32 ((x.toNat : Int) * 2 ^ s % 4294967296) ((x.toNat : Int) / 2 ^ (32 - s)) = ((Sha.rotr x i).toNat : Int)) := Lib.hid (by
    rw [Sha.shl_u32 x s (by omega), Sha.shr_u32 x (32 - s) (by omega), Sha.or_u32, Sha.rotr, hs, show 32 - (32 - i) = i by omega])
  clear hs hm h1 h2
  go_enter Tryd.func77, Tryd.ntmps77
  go_wp2
  go_ret
  exact ⟨ret_int HE.out, rfl⟩

set_option maxHeartbeats 400000 in
theorem turned_any (x : UInt32) (i j k : Nat) (hi : 1 ≤ i ∧ i ≤ 31) (hj : 1 ≤ j ∧ j ≤ 31) (hk : 1 ≤ k ∧ k ≤ 31) (w : World) :
    Calls Tryd.prog 75 #[.int .u32 x.toNat, .int .i64 i, .int .i64 j, .int .i64 k] w fun e w' => e = .returned (.int .u32 (Sha.rotr x i ^^^ Sha.rotr x j ^^^ Sha.rotr x k).toNat) ∧ w = w' := by
  obtain ⟨i1, i2⟩ := hi
  obtain ⟨j1, j2⟩ := hj
  obtain ⟨k1, k2⟩ := hk
  go_enter Tryd.func75, Tryd.ntmps75
  go_wp2_with fail
  refine (rot_any x i _ rfl i1 i2 _).mono ?_
  rintro e w' ⟨rfl, rfl⟩
  go_wp2_with fail
  refine (rot_any x j _ rfl j1 j2 _).mono ?_
  rintro e w' ⟨rfl, rfl⟩
  go_wp2_with fail
  refine (rot_any x k _ rfl k1 k2 _).mono ?_
  rintro e w' ⟨rfl, rfl⟩
  go_wp2
  go_ret
  exact ⟨ret_int (by rw [Sha.xor_u32, Sha.xor_u32]), rfl⟩

set_option maxHeartbeats 400000 in
theorem moved_any (x : UInt32) (i j k : Nat) (hi : 1 ≤ i ∧ i ≤ 31) (hj : 1 ≤ j ∧ j ≤ 31) (hk : 1 ≤ k ∧ k ≤ 31) (w : World) :
    Calls Tryd.prog 76 #[.int .u32 x.toNat, .int .i64 i, .int .i64 j, .int .u64 k] w fun e w' => e = .returned (.int .u32 (Sha.rotr x i ^^^ Sha.rotr x j ^^^ x >>> UInt32.ofNat k).toNat) ∧ w = w' := by
  obtain ⟨i1, i2⟩ := hi
  obtain ⟨j1, j2⟩ := hj
  obtain ⟨k1, k2⟩ := hk
  go_enter Tryd.func76, Tryd.ntmps76
  go_wp2_with fail
  refine (rot_any x i _ rfl i1 i2 _).mono ?_
  rintro e w' ⟨rfl, rfl⟩
  go_wp2_with fail
  refine (rot_any x j _ rfl j1 j2 _).mono ?_
  rintro e w' ⟨rfl, rfl⟩
  go_wp2
  go_ret
  exact ⟨ret_int (by rw [Sha.xor_u32, Sha.shr_u32 x k (by omega), Sha.xor_u32]), rfl⟩

theorem turned_e (x : UInt32) (w : World) : Calls Tryd.prog 75 #[.int .u32 x.toNat, .int .i64 6, .int .i64 11, .int .i64 25] w fun e w' => e = .returned (.int .u32 (Sha.big1 x).toNat) ∧ w = w' :=
  turned_any x 6 11 25 (by decide) (by decide) (by decide) w
theorem turned_a (x : UInt32) (w : World) : Calls Tryd.prog 75 #[.int .u32 x.toNat, .int .i64 2, .int .i64 13, .int .i64 22] w fun e w' => e = .returned (.int .u32 (Sha.big0 x).toNat) ∧ w = w' :=
  turned_any x 2 13 22 (by decide) (by decide) (by decide) w
theorem moved_0 (x : UInt32) (w : World) : Calls Tryd.prog 76 #[.int .u32 x.toNat, .int .i64 7, .int .i64 18, .int .u64 3] w fun e w' => e = .returned (.int .u32 (Sha.sml0 x).toNat) ∧ w = w' :=
  moved_any x 7 18 3 (by decide) (by decide) (by decide) w
theorem moved_1 (x : UInt32) (w : World) : Calls Tryd.prog 76 #[.int .u32 x.toNat, .int .i64 17, .int .i64 19, .int .u64 10] w fun e w' => e = .returned (.int .u32 (Sha.sml1 x).toNat) ∧ w = w' :=
  moved_any x 17 19 10 (by decide) (by decide) (by decide) w

end Go.Proofs.YtehmkkccnadhoaaDoor.Sh
namespace Go.Proofs.YtehmkkccnadhoaaDoor.Sh
open Go.RowKit

/-- Block g is just the cells cs, of element type t, and none of them is frozen. -/
def Whole (w : World) (g : Nat) (t : TypeId) (cs : Array Value) : Prop := w.heap[g]? = some (.cells cs t (0, 0))

section
variable {w w' : World} {g : Nat} {t : TypeId} {cs : Array Value}
theorem Whole.lt (h : Whole w g t cs) : g < w.heap.size := (Array.getElem?_eq_some_iff.1 h).1
theorem Whole.at_ (h : Whole w g t cs) {i : Nat} {v : Value} (hv : cs[i]? = some v) : w.cell? ⟨g, i, none⟩ = some v :=
  (cell_of_row w g i cs t (0, 0) h).trans hv
theorem Whole.free (h : Whole w g t cs) (i : Nat) : w.frozen? ⟨g, i, none⟩ = false := by
  have h' : w.heap[g]? = some (.cells cs t (0, 0)) := h
  simp [World.frozen?, h']
theorem Whole.made (w : World) (t : TypeId) (cs : Array Value) : Whole (w.alloc (.cells cs t)) w.heap.size t cs := heap_alloc_last w _
theorem Whole.drew (h : Whole w g t cs) : Whole w.drew g t cs := h
theorem Whole.drewN (h : Whole w g t cs) (n : Nat) : Whole (w.drewN n) g t cs := h
theorem Whole.alloc (h : Whole w g t cs) (o : Obj) : Whole (w.alloc o) g t cs := (Below.heap_alloc w o g h.lt).trans h
theorem Whole.set (h : Whole w g t cs) (i : Nat) (u : Value) : Whole (w.setCell ⟨g, i, none⟩ u) g t (cs.setIfInBounds i u) :=
  heap_setCell_same w g i cs t u h
theorem Whole.other (h : Whole w g t cs) {p : Addr} (hp : g ≠ p.block) (u : Value) : Whole (w.setCell p u) g t cs := (Below.heap_setCell w p u g hp).trans h
theorem Whole.range (h : Whole w g t cs) : w.rangeAt g 0 cs.toList := by
  have := World.rangeAt_of_block (w := w) (b := g) (C := cs) h 0 cs.size
  rwa [Nat.zero_add, Array.extract_size] at this
theorem Whole.there_ (h : Whole w g t cs) : w.there g 0 cs.size := fun j hj => by
  rw [Nat.zero_add]
  exact ⟨by rw [h.at_ (Array.getElem?_eq_getElem hj)]; rfl, h.free j⟩
theorem Whole.below {B : Nat} (h : Whole w g t cs) (hb : Below B w w') (hg : g < B) : Whole w' g t cs := (hb.block g hg).trans h
end

theorem results_cell1 {fn : Func} {p : Tmp} {ty : TypeId} (h : fn.results = #[.cell p ty]) (tmps : Array Value) (P : Program) (w : World) :
    (results fn tmps).run P w = ((asAddr (tmps.getD p undef)).run P w).andThen fun a w₁ => (loadVar ty a).run P w₁ := by
  simp only [results, h]
  simp [Sem.run_bind, Result.andThen]
theorem below_setCells {B : Nat} (w : World) (b : Nat) (vs : List Value) : ∀ (o : Nat) {w' : World}, Below B w w' → B ≤ b → Below B w (w'.setCells b o vs) := by
  induction vs with
  | nil => intro o w' h _; exact h
  | cons v r ih => intro o w' h hb; exact ih (o + 1) (h.setCell (p := ⟨b, o, none⟩) hb v) hb

/-- A whole array stored into the block that was made last. -/
theorem wpList_store_made {P : Program} {ops : Array Oper} {rest : List Oper} {op : Oper} {a : Act} {w : World} {Q : Exit → Act → World → Prop} (hgd : op.guard = none) (ty : TypeId) (x y : Operand) (ho : op.op = .store ty x y)
    (c c' : Array Value) (hx : a.eval x = .pointer (some ⟨w.heap.size, 0, none⟩)) (hy : a.eval y = .agg c')
    (hi : (P.info? ty).map (·.size) = some c'.size) (hc : c.size = c'.size) (h1 : c'.all (·.oneCell') = true)
    (h : wpList P ops Q rest (a.put op.dst undef) (w.alloc (.cells c' ty))) : wpList P ops Q (op :: rest) a (w.alloc (.cells c ty)) :=
  wpList_plain hgd fun _ hK => by
    unfold Oper.wp execOp
    simp only [ho, hx, hy, Instr.storeAt, Instr.sureAddr, Sem.run_bind, Sem.run_pure, Result.andThen_ok, run_storeVar_new w ty c c' hi hc h1]
    exact hK _ _ h

def bcells (bs : List UInt8) : Array Value := (bs.map fun b => Value.int .u8 b.toNat).toArray
def wcells (ws : List UInt32) : Array Value := (ws.map fun x => Value.int .u32 x.toNat).toArray

theorem bcells_size (bs : List UInt8) : (bcells bs).size = bs.length := by simp [bcells]
theorem wcells_size (ws : List UInt32) : (wcells ws).size = ws.length := by simp [wcells]
theorem bcells_at (bs : List UInt8) (i : Nat) (h : i < bs.length) : (bcells bs)[i]? = some (.int .u8 (bs.getD i 0).toNat) := by
  simp [bcells, List.getD_eq_getElem?_getD, h]
theorem wcells_at (ws : List UInt32) (i : Nat) (h : i < ws.length) : (wcells ws)[i]? = some (.int .u32 (ws.getD i 0).toNat) := by
  simp [wcells, List.getD_eq_getElem?_getD, h]
theorem wcells_set (ws : List UInt32) (i : Nat) (x : UInt32) : (wcells ws).setIfInBounds i (.int .u32 x.toNat) = wcells (ws.set i x) := by
  simp [wcells, List.map_set]
theorem bcells_set (bs : List UInt8) (i : Nat) (x : UInt8) : (bcells bs).setIfInBounds i (.int .u8 x.toNat) = bcells (bs.set i x) := by
  simp [bcells, List.map_set]
theorem wcells_one (ws : List UInt32) : (wcells ws).all (·.oneCell') = true := by
  simp [wcells, Value.oneCell']
theorem bcells_one (bs : List UInt8) : (bcells bs).all (·.oneCell') = true := by
  simp [bcells, Value.oneCell']

theorem info35 : (Tryd.prog.info? 118).map (·.size) = some 8 := by kernel_rfl
theorem info36 : (Tryd.prog.info? 119).map (·.size) = some 64 := by kernel_rfl
theorem info46 : (Tryd.prog.info? 149).map (·.size) = some 64 := by kernel_rfl

namespace Sha
theorem fill_length (b : List UInt8) (n : Nat) : (fill b n).length = 64 := by
  induction n with
  | zero => simp [fill]
  | succ n ih => simp [fill, ih]
end Sha
end Go.Proofs.YtehmkkccnadhoaaDoor.Sh
namespace Go.Proofs.YtehmkkccnadhoaaDoor.Sh
open Go.RowKit
def SRel (bs : List UInt8) (w : World) (k : Nat) (wx : World) : Prop :=
  Whole wx w.heap.size 119 (bcells bs) ∧ Whole wx (w.heap.size + 1) 149 (wcells (Sha.fill bs 0)) ∧ Whole wx (w.heap.size + 1 + 1) 149 (wcells (Sha.fill bs k)) ∧ Below w.heap.size w wx
theorem srel_start (bs : List UInt8) (w : World) (Z : Array Value) (hz : Z = wcells (Sha.fill bs 0)) :
    SRel bs w 0 (((w.alloc (.cells (bcells bs) 119)).alloc (.cells Z 149)).alloc (.cells Z 149)) := by
  subst hz
  refine ⟨((Whole.made _ _ _).alloc _).alloc _, ?_, ?_, ?_⟩
  · have := (Whole.made (w.alloc (.cells (bcells bs) 119)) 149 (wcells (Sha.fill bs 0))).alloc (.cells (wcells (Sha.fill bs 0)) 149)
    simpa using this
  · have := Whole.made ((w.alloc (.cells (bcells bs) 119)).alloc (.cells (wcells (Sha.fill bs 0)) 149)) 149 (wcells (Sha.fill bs 0))
    simpa using this
  · exact (((Below.refl _ _).alloc (by simp) _).alloc (by simp) _).alloc (by simp; omega) _

theorem moved_0s (x : UInt32) (w : World) : Calls Tryd.prog 76 #[.int .u32 x.toNat, .int .i64 7, .int .i64 18, .int .u64 3] w fun e w' => e = .returned (.int .u32 (Sha.sml0 x).toNat) ∧ w' = w :=
  (moved_0 x w).mono fun _ _ ⟨h1, h2⟩ => ⟨h1, h2.symm⟩
theorem moved_1s (x : UInt32) (w : World) : Calls Tryd.prog 76 #[.int .u32 x.toNat, .int .i64 17, .int .i64 19, .int .u64 10] w fun e w' => e = .returned (.int .u32 (Sha.sml1 x).toNat) ∧ w' = w :=
  (moved_1 x w).mono fun _ _ ⟨h1, h2⟩ => ⟨h1, h2.symm⟩

theorem srel_step (bs : List UInt8) (w wx : World) (k : Nat) (x : UInt32) (h : SRel bs w k wx) (hx : x = if k < 16 then Sha.word bs k else Sha.nextW (Sha.fill bs k) k) :
    SRel bs w (k + 1) (wx.setCell ⟨w.heap.size + 1 + 1, k, none⟩ (.int .u32 x.toNat)) := by
  obtain ⟨h1, h2, h3, h4⟩ := h
  refine ⟨h1.other (by show _ ≠ w.heap.size + 1 + 1; omega) _, h2.other (by show _ ≠ w.heap.size + 1 + 1; omega) _, ?_, h4.setCell (by show _ ≤ w.heap.size + 1 + 1; omega) _⟩
  have := h3.set k (.int .u32 x.toNat)
  rw [wcells_set, hx] at this
  rw [hx]
  exact this
theorem srel_drew {bs : List UInt8} {w wx : World} {k : Nat} (h : SRel bs w k wx) : SRel bs w k wx.drew := ⟨h.1, h.2.1, h.2.2.1, h.2.2.2.drew⟩

set_option maxRecDepth 100000 in
set_option maxHeartbeats 2000000 in
theorem sched_any (bs : List UInt8) (hl : bs.length = 64) (w : World) :
    Calls Tryd.prog 74 #[.agg (bcells bs)] w fun e w' => e = .returned (.agg (wcells (Sha.sched bs))) ∧ Below w.heap.size w w' := by
  have Hl : Hid (bs.length = 64) := hl
  clear hl
  go_enter Tryd.func74, Tryd.ntmps74
  go_wp2_with fail
  go_loopw [6] (fun i6 wx => ∃ k : Nat, k ≤ 16 ∧ i6 = .int .i64 k ∧ SRel bs w k wx) (fun i6 _ => 16 - (intOf i6).toNat)
  case atStart => exact ⟨0, by omega, rfl, srel_start bs w _ rfl⟩
  case round =>
    obtain ⟨k, hk, rfl, hrel⟩ := hrel
    by_cases hlt : k < 16
    · have c0 := hrel.1.at_ (bcells_at bs (4 * k) (by rw [Hl.out]; omega))
      have c1 := hrel.1.at_ (bcells_at bs (4 * k + 1) (by rw [Hl.out]; omega))
      have c2 := hrel.1.at_ (bcells_at bs (4 * k + 2) (by rw [Hl.out]; omega))
      have c3 := hrel.1.at_ (bcells_at bs (4 * k + 3) (by rw [Hl.out]; omega))
      have f0 := hrel.2.2.1.free k
      have f1 := hrel.2.2.1.at_ (wcells_at _ k (by rw [Sha.fill_length]; omega))
      have hw : Sha.mkWord (bs.getD (4 * k) 0) (bs.getD (4 * k + 1) 0) (bs.getD (4 * k + 2) 0) (bs.getD (4 * k + 3) 0) = Sha.word bs k := rfl
      have H := Lib.hid (srel_step bs w wr.drew k (Sha.word bs k) (srel_drew hrel) (by rw [if_pos hlt]))
      clear hrel
      generalize bs.getD (4 * k) 0 = b0 at c0 hw
      generalize bs.getD (4 * k + 1) 0 = b1 at c1 hw
      generalize bs.getD (4 * k + 2) 0 = b2 at c2 hw
      generalize bs.getD (4 * k + 3) 0 = b3 at c3 hw
      have HW := Lib.hid hw
      clear hw
      have q0 : IntKind.i64.wrap (4 * (k : Int)) = 4 * (k : Int) := IntWalk.i64_in _ (by omega)
      have q1 : IntKind.i64.wrap (4 * (k : Int) + 1) = 4 * (k : Int) + 1 := IntWalk.i64_in _ (by omega)
      have q2 : IntKind.i64.wrap (4 * (k : Int) + 2) = 4 * (k : Int) + 2 := IntWalk.i64_in _ (by omega)
      have q3 : IntKind.i64.wrap (4 * (k : Int) + 3) = 4 * (k : Int) + 3 := IntWalk.i64_in _ (by omega)
      have z0 : 0 ≤ 4 * (k : Int) ∧ 4 * (k : Int) < 64 := by omega
      have z1 : 0 ≤ 4 * (k : Int) + 1 ∧ 4 * (k : Int) + 1 < 64 := by omega
      have z2 : 0 ≤ 4 * (k : Int) + 2 ∧ 4 * (k : Int) + 2 < 64 := by omega
      have z3 : 0 ≤ 4 * (k : Int) + 3 ∧ 4 * (k : Int) + 3 < 64 := by omega
      have t0 : (4 * (k : Int)).toNat = 4 * k := by omega
      have t1 : (4 * (k : Int) + 1).toNat = 4 * k + 1 := by omega
      have t2 : (4 * (k : Int) + 2).toNat = 4 * k + 2 := by omega
      have t3 : (4 * (k : Int) + 3).toNat = 4 * k + 3 := by omega
      have k64 : (k : Int) < 64 := by omega
      obtain ⟨z00, z01⟩ := z0
      obtain ⟨z10, z11⟩ := z1
      obtain ⟨z20, z21⟩ := z2
      obtain ⟨z30, z31⟩ := z3
      go_wp2_with fail
      go_still_tail 31, (by kernel_rfl)
      change wpList _ _ _ _ _ wr.drew
      rw [Sha.word_spell, HW.out]
      clear q0 q1 q2 q3 t0 t1 t2 t3 z00 z01 z10 z11 z20 z21 z30 z31 c0 c1 c2 c3
      go_wp2_with fail
      go_roundw
      case rel => exact ⟨k + 1, by omega, by go_num, H.out⟩
      case measure => simp [intOf]; omega
    · obtain rfl : k = 16 := by omega
      have H16 := Lib.hid hrel
      clear hrel hk hlt
      rw [show ((16 : Nat) : Int) = (16 : Int) from rfl]
      go_wp2_with fail
      go_loopw [5] (fun i5 wx => ∃ k : Nat, 16 ≤ k ∧ k ≤ 64 ∧ i5 = .int .i64 k ∧ SRel bs w k wx) (fun i5 _ => 64 - (intOf i5).toNat)
      case atStart => exact ⟨16, by omega, by omega, rfl, H16.out⟩
      case round =>
        obtain ⟨k, hk1, hk2, rfl, hrel⟩ := hrel
        by_cases hlt : k < 64
        · have c0 := hrel.2.2.1.at_ (wcells_at _ (k - 16) (by rw [Sha.fill_length]; omega))
          have c1 := hrel.2.2.1.at_ (wcells_at _ (k - 15) (by rw [Sha.fill_length]; omega))
          have c2 := hrel.2.2.1.at_ (wcells_at _ (k - 7) (by rw [Sha.fill_length]; omega))
          have c3 := hrel.2.2.1.at_ (wcells_at _ (k - 2) (by rw [Sha.fill_length]; omega))
          have f0 := hrel.2.2.1.free k
          have f1 := hrel.2.2.1.at_ (wcells_at _ k (by rw [Sha.fill_length]; omega))
          have hw : (Sha.fill bs k).getD (k - 16) 0 + Sha.sml0 ((Sha.fill bs k).getD (k - 15) 0) + (Sha.fill bs k).getD (k - 7) 0 + Sha.sml1 ((Sha.fill bs k).getD (k - 2) 0) = Sha.nextW (Sha.fill bs k) k := rfl
          have H := Lib.hid (srel_step bs w wr.drew k (Sha.nextW (Sha.fill bs k) k) (srel_drew hrel) (by rw [if_neg (by omega)]))
          clear hrel
          generalize (Sha.fill bs k).getD (k - 16) 0 = x0 at c0 hw
          generalize (Sha.fill bs k).getD (k - 15) 0 = x1 at c1 hw
          generalize (Sha.fill bs k).getD (k - 7) 0 = x2 at c2 hw
          generalize (Sha.fill bs k).getD (k - 2) 0 = x3 at c3 hw
          have HW := Lib.hid hw
          clear hw
          have q0 : IntKind.i64.wrap ((k : Int) - 16) = (k : Int) - 16 := IntWalk.i64_in _ (by omega)
          have q1 : IntKind.i64.wrap ((k : Int) - 15) = (k : Int) - 15 := IntWalk.i64_in _ (by omega)
          have q2 : IntKind.i64.wrap ((k : Int) - 7) = (k : Int) - 7 := IntWalk.i64_in _ (by omega)
          have q3 : IntKind.i64.wrap ((k : Int) - 2) = (k : Int) - 2 := IntWalk.i64_in _ (by omega)
          have z0 : 0 ≤ (k : Int) - 16 ∧ (k : Int) - 16 < 64 ∧ (16 : Int) ≤ k ∧ (k : Int) < 80 := by omega
          have z1 : 0 ≤ (k : Int) - 15 ∧ (k : Int) - 15 < 64 ∧ (15 : Int) ≤ k ∧ (k : Int) < 79 := by omega
          have z2 : 0 ≤ (k : Int) - 7 ∧ (k : Int) - 7 < 64 ∧ (7 : Int) ≤ k ∧ (k : Int) < 71 := by omega
          have z3 : 0 ≤ (k : Int) - 2 ∧ (k : Int) - 2 < 64 ∧ (2 : Int) ≤ k ∧ (k : Int) < 66 := by omega
          have t0 : ((k : Int) - 16).toNat = k - 16 := by omega
          have t1 : ((k : Int) - 15).toNat = k - 15 := by omega
          have t2 : ((k : Int) - 7).toNat = k - 7 := by omega
          have t3 : ((k : Int) - 2).toNat = k - 2 := by omega
          have k64 : (k : Int) < 64 := by omega
          obtain ⟨z00, z01, z02, z03⟩ := z0
          obtain ⟨z10, z11, z12, z13⟩ := z1
          obtain ⟨z20, z21, z22, z23⟩ := z2
          obtain ⟨z30, z31, z32, z33⟩ := z3
          go_wp2_with fail
          go_still_tail 23, (by kernel_rfl)
          still_call (moved_0s _ _)
          repeat still_step
          still_call (moved_1s _ _)
          repeat still_step
          refine wpStill_nil ?_
          change wpList _ _ _ _ _ wr.drew
          simp only [Sha.wadd_u32]
          rw [HW.out]
          clear q0 q1 q2 q3 t0 t1 t2 t3 z00 z01 z10 z11 z20 z21 z30 z31 z02 z03 z12 z13 z22 z23 z32 z33 c0 c1 c2 c3
          go_wp2_with fail
          go_roundw
          case rel => exact ⟨k + 1, by omega, by omega, by go_num, H.out⟩
          case measure => simp [intOf]; omega
        · obtain rfl : k = 64 := by omega
          have H64 := Lib.hid hrel
          clear hrel hk1 hk2 hlt H16
          have hlen : (wcells (Sha.fill bs 64)).size = 64 := by rw [wcells_size, Sha.fill_length]
          have hi : (Tryd.prog.info? 149).map (·.size) = some (wcells (Sha.fill bs 64)).toList.length := by rw [Array.length_toList, hlen]; kernel_rfl
          have hth : wr.there (w.heap.size + 1) 0 (wcells (Sha.fill bs 64)).size := by
            have := (H64.out).2.1.there_
            rwa [wcells_size, Sha.fill_length, ← hlen] at this
          have hone := wcells_one (Sha.fill bs 64)
          have hlo := (H64.out).2.2.1.range
          have hbel := (H64.out).2.2.2
          have hsch : wcells (Sha.sched bs) = wcells (Sha.fill bs 64) := rfl
          have HS := Lib.hid hsch
          clear H64 hsch
          generalize wcells (Sha.fill bs 64) = W at *
          have HI := Lib.hid hi
          have HLO := Lib.hid hlo
          have HTH := Lib.hid hth
          have HONE := Lib.hid hone
          have HLEN := Lib.hid hlen
          clear hi hlen hth hlo hone
          go_upto_region 11 with (fail)
          refine wp_region_lit ?_
          refine wpList_load_mid rfl 149 (.tmp 3) rfl (w.heap.size + 1 + 1) 0 ?_ W.toList (.array 64 117) HLO.out Tryd.underlying149 rfl HI.out ?_
          · rfl
          rw [Array.toArray_toList]
          refine wpList_store_mid rfl 149 (.tmp 2) (.tmp 68) rfl (w.heap.size + 1) 0 W ?_ ?_ HTH.out ?_ HONE.out ?_
          · rfl
          · rfl
          · rw [HI.out, Array.length_toList]
          go_wp2_with fail
          refine bodyPost_ret (v := .agg W) ?_ rfl ⟨by rw [HS.out], below_setCells _ _ _ _ hbel (by omega)⟩
          rw [results_cell1 (p := 2) (ty := 149) Tryd.results74]
          have hr : (loadVar 149 ⟨w.heap.size + 1, 0, none⟩).run Tryd.prog (wr.setCells (w.heap.size + 1) 0 W.toList) = .ok (.agg W.toList.toArray) _ :=
            run_loadVar_mid _ (w.heap.size + 1) 0 149 W.toList (.array 64 117) (World.rangeAt_setCells_same _ _ _ _ (by rw [Array.length_toList]; exact HTH.out)) Tryd.underlying149 rfl HI.out
          rw [Array.toArray_toList] at hr
          exact hr
end Go.Proofs.YtehmkkccnadhoaaDoor.Sh
namespace Go.Proofs.YtehmkkccnadhoaaDoor.Sh
open Go.RowKit
def Sha.St.list (s : Sha.St) : List UInt32 := [s.a, s.b, s.c, s.d, s.e, s.f, s.g, s.h]
def Tab (w : World) (g : Nat) : Prop := ∀ i, i < 64 → w.cell? ⟨g, i, none⟩ = some (.int .u32 (Sha.kk.getD i 0).toNat)
theorem turned_es (x : UInt32) (w : World) : Calls Tryd.prog 75 #[.int .u32 x.toNat, .int .i64 6, .int .i64 11, .int .i64 25] w fun e w' => e = .returned (.int .u32 (Sha.big1 x).toNat) ∧ w' = w :=
  (turned_e x w).mono fun _ _ ⟨h1, h2⟩ => ⟨h1, h2.symm⟩

/-- What the memory holds while sha.mix runs: the words so far (l), the result's place, the schedule, the table. -/
structure MRel (bs : List UInt8) (w : World) (M : Nat) (l : List UInt32) (wx : World) : Prop where
  words : Whole wx w.heap.size 118 (wcells l)
  out : Whole wx (w.heap.size + 1 + 1) 118 (wcells (List.replicate 8 0))
  sch : Whole wx M 149 (wcells (Sha.sched bs))
  low : w.heap.size + 3 ≤ M
  bel : Below w.heap.size w wx
  tab : Tab wx 2

theorem MRel.drew {bs : List UInt8} {w : World} {M : Nat} {l : List UInt32} {wx : World} (h : MRel bs w M l wx) : MRel bs w M l wx.drew :=
  ⟨h.words, h.out, h.sch, h.low, h.bel.drew, h.tab⟩
theorem mrel_start (bs : List UInt8) (w w1 : World) (l : List UInt32) (Z : Array Value) (hZ : Z = wcells (List.replicate 8 0)) (ht : Tab w 2) (hw : 2 < w.heap.size)
    (hb : Below (((w.alloc (.cells (wcells l) 118)).alloc (.cells (bcells bs) 119)).alloc (.cells Z 118)).heap.size (((w.alloc (.cells (wcells l) 118)).alloc (.cells (bcells bs) 119)).alloc (.cells Z 118)) w1) :
    MRel bs w w1.heap.size l (w1.alloc (.cells (wcells (Sha.sched bs)) 149)) := by
  have hsz : (((w.alloc (.cells (wcells l) 118)).alloc (.cells (bcells bs) 119)).alloc (.cells Z 118)).heap.size = w.heap.size + 3 := by simp
  have hlow : w.heap.size + 3 ≤ w1.heap.size := by have := hb.size; omega
  have hbel : Below w.heap.size w w1 := ((((Below.refl _ _).alloc (by simp) _).alloc (by simp) _).alloc (by simp; omega) _).trans (hb.mono (by omega))
  have hbel2 : Below w.heap.size w (w1.alloc (.cells (wcells (Sha.sched bs)) 149)) := hbel.alloc (by omega) _
  refine ⟨?_, ?_, Whole.made _ _ _, hlow, hbel2, ?_⟩
  · exact ((((Whole.made w 118 (wcells l)).alloc _).alloc _).below hb (by omega)).alloc _
  · have h0 := Whole.made ((w.alloc (.cells (wcells l) 118)).alloc (.cells (bcells bs) 119)) 118 Z
    have h1 : Whole (((w.alloc (.cells (wcells l) 118)).alloc (.cells (bcells bs) 119)).alloc (.cells Z 118)) (w.heap.size + 1 + 1) 118 Z := by simpa using h0
    rw [← hZ]
    exact (h1.below hb (by omega)).alloc _
  · intro i hi
    rw [hbel2.cell (p := ⟨2, i, none⟩) hw]
    exact ht i hi

def Sha.acc (l r : List UInt32) : Nat → List UInt32
  | 0 => l
  | k + 1 => (Sha.acc l r k).set k ((Sha.acc l r k).getD k 0 + r.getD k 0)
theorem Sha.acc_length (l r : List UInt32) (k : Nat) : (Sha.acc l r k).length = l.length := by
  induction k with
  | zero => rfl
  | succ k ih => simp [Sha.acc, ih]
theorem mrel_step (bs : List UInt8) (w wx : World) (M : Nat) (l r : List UInt32) (k : Nat) (hw : 2 < w.heap.size) (h : MRel bs w M (Sha.acc l r k) wx) :
    MRel bs w M (Sha.acc l r (k + 1)) (wx.setCell ⟨w.heap.size, k, none⟩ (.int .u32 ((Sha.acc l r k).getD k 0 + r.getD k 0).toNat)) := by
  have hne : w.heap.size + 1 + 1 ≠ w.heap.size := by omega
  have hM := h.low
  refine ⟨?_, h.out.other (by show _ ≠ w.heap.size; omega) _, h.sch.other (by show _ ≠ w.heap.size; omega) _, h.low, h.bel.setCell (by show _ ≤ w.heap.size; omega) _, ?_⟩
  · have := h.words.set k (.int .u32 ((Sha.acc l r k).getD k 0 + r.getD k 0).toNat)
    rw [wcells_set] at this
    exact this
  · intro i hi
    rw [World.cell?_setCell_other _ _ _ _ (fun e => by injection e with e; omega)]
    exact h.tab i hi

theorem run_index35 (R : Array Value) (k : Nat) (n : Int) (hk : k < 8) (hx : R[k]? = some (.int .u32 n)) (w : World) :
    (Instr.index 118 (.agg R) (.int .i64 k)).run Tryd.prog w = .ok (.int .u32 n) w := by
  have h1 : (k : Int) < 8 := by omega
  simp [Instr.index, run_underlying Tryd.underlying118, asIntOf, go_sem, part, hx]
  intro h
  omega
theorem range_second (w : World) (c1 c2 : Array Value) (t1 t2 : TypeId) (o : Obj) : (((w.alloc (.cells c1 t1)).alloc (.cells c2 t2)).alloc o).rangeAt (w.heap.size + 1) 0 c2.toList := by
  have h := ((Whole.made (w.alloc (.cells c1 t1)) t2 c2).alloc o).range
  simpa using h
theorem whole8 {w : World} {g : Nat} {s : Sha.St} (h : Whole w g 118 (wcells s.list)) :
    w.cell? ⟨g, 0, none⟩ = some (.int .u32 s.a.toNat) ∧ w.cell? ⟨g, 1, none⟩ = some (.int .u32 s.b.toNat) ∧ w.cell? ⟨g, 2, none⟩ = some (.int .u32 s.c.toNat) ∧ w.cell? ⟨g, 3, none⟩ = some (.int .u32 s.d.toNat) ∧
    w.cell? ⟨g, 4, none⟩ = some (.int .u32 s.e.toNat) ∧ w.cell? ⟨g, 5, none⟩ = some (.int .u32 s.f.toNat) ∧ w.cell? ⟨g, 6, none⟩ = some (.int .u32 s.g.toNat) ∧ w.cell? ⟨g, 7, none⟩ = some (.int .u32 s.h.toNat) :=
  ⟨h.at_ rfl, h.at_ rfl, h.at_ rfl, h.at_ rfl, h.at_ rfl, h.at_ rfl, h.at_ rfl, h.at_ rfl⟩

set_option maxRecDepth 100000 in
set_option maxHeartbeats 1000000 in
theorem mix_any (s : Sha.St) (bs : List UInt8) (hl : bs.length = 64) (w : World) (ht : Tab w 2) (hw : 2 < w.heap.size) :
    Calls Tryd.prog 71 #[.agg (wcells s.list), .agg (bcells bs)] w fun e w' => e = .returned (.agg (wcells (Sha.mix s bs).list)) ∧ Below w.heap.size w w' := by
  have Hl : Hid (bs.length = 64) := hl
  have Ht := Lib.hid ht
  clear hl ht
  go_enter Tryd.func71, Tryd.ntmps71
  go_upto_region 1 with (fail)
  refine wp_region_lit ?_
  refine wpList_load_mid rfl 119 (.tmp 3) rfl (w.heap.size + 1) 0 ?_ (bcells bs).toList (.array 64 5) ?_ Tryd.underlying119 rfl ?_ ?_
  · rfl
  · exact range_second _ _ _ _ _ _
  · rw [Array.length_toList, bcells_size, Hl.out]; exact info36
  rw [Array.toArray_toList]
  go_wp2_with fail
  refine (sched_any bs Hl.out _).mono ?_
  rintro e w1 ⟨rfl, hb1⟩
  have hrel := mrel_start bs w w1 s.list _ rfl Ht.out hw hb1
  clear hb1
  simp only []
  go_step
  go_step
  go_step
  go_step
  refine wpList_store_made rfl 149 (.tmp 5) (.tmp 20) rfl _ (wcells (Sha.sched bs)) ?_ ?_ ?_ ?_ (wcells_one _) ?_
  · rfl
  · rfl
  · rw [wcells_size, Sha.sched, Sha.fill_length]; exact info46
  · rw [wcells_size, Sha.sched, Sha.fill_length]; rfl
  generalize w1.alloc (.cells (wcells (Sha.sched bs)) 149) = w2 at *
  generalize w1.heap.size = M at *
  obtain ⟨c0, c1, c2, c3, c4, c5, c6, c7⟩ := whole8 hrel.words
  have H := Lib.hid hrel
  clear hrel
  go_upto_region 2 with (fail)
  go_still (by kernel_rfl)
  change Exit.then _ _ _ _ w2.drew
  have H3 := Lib.hid H.out.drew
  clear H c0 c1 c2 c3 c4 c5 c6 c7
  generalize w2.drew = w3 at *
  obtain ⟨c0, c1, c2, c3, c4, c5, c6, c7⟩ := whole8 H3.out.words
  go_upto_region 3 with (fail)
  go_still (by kernel_rfl)
  change Exit.then _ _ _ _ w3.drew
  have H := Lib.hid H3.out.drew
  clear H3 c0 c1 c2 c3 c4 c5 c6 c7
  generalize w3.drew = w4 at *
  go_wp2_with fail
  go_loopw [6, 7, 8, 9, 10, 11, 12, 13, 37] (fun a b c d e f g h i wx => ∃ k : Nat, k ≤ 64 ∧ i = .int .i64 k ∧ MRel bs w M s.list wx ∧
      a = .int .u32 (Sha.rounds (Sha.sched bs) s k).a.toNat ∧ b = .int .u32 (Sha.rounds (Sha.sched bs) s k).b.toNat ∧ c = .int .u32 (Sha.rounds (Sha.sched bs) s k).c.toNat ∧ d = .int .u32 (Sha.rounds (Sha.sched bs) s k).d.toNat ∧
      e = .int .u32 (Sha.rounds (Sha.sched bs) s k).e.toNat ∧ f = .int .u32 (Sha.rounds (Sha.sched bs) s k).f.toNat ∧ g = .int .u32 (Sha.rounds (Sha.sched bs) s k).g.toNat ∧ h = .int .u32 (Sha.rounds (Sha.sched bs) s k).h.toNat)
    (fun _ _ _ _ _ _ _ _ i _ => 64 - (intOf i).toNat)
  case atStart => exact ⟨0, by omega, rfl, H.out, rfl, rfl, rfl, rfl, rfl, rfl, rfl, rfl⟩
  case round =>
    obtain ⟨k, hk, rfl, hrel, rfl, rfl, rfl, rfl, rfl, rfl, rfl, rfl⟩ := hrel
    clear H
    by_cases hlt : k < 64
    · have ck := hrel.tab k hlt
      have cw := hrel.sch.at_ (wcells_at (Sha.sched bs) k (by rw [Sha.sched, Sha.fill_length]; omega))
      have hst : Sha.step (Sha.rounds (Sha.sched bs) s k) (Sha.kk.getD k 0) ((Sha.sched bs).getD k 0) = Sha.rounds (Sha.sched bs) s (k + 1) := rfl
      have H := Lib.hid hrel.drew
      clear hrel
      generalize Sha.rounds (Sha.sched bs) s k = r at *
      generalize Sha.kk.getD k 0 = kv at *
      generalize (Sha.sched bs).getD k 0 = wv at *
      have HST := Lib.hid hst
      clear hst
      have k64 : (k : Int) < 64 := by omega
      go_upto_region 7 with (fail)
      refine wp_region_still_lit (by kernel_rfl) (by kernel_rfl) ?_
      repeat still_step
      still_call (turned_es _ _)
      repeat still_step
      refine wpStill_nil ?_
      change Exit.then _ _ _ _ wr.drew
      simp only [Sha.notif_u32, Sha.and_u32, Sha.or_u32, Sha.wadd_u32]
      clear ck cw
      rw [show r.h + Sha.big1 r.e + (r.e &&& r.f ||| ~~~r.e &&& r.g) + kv + wv = Sha.tt r kv wv from rfl]
      obtain ⟨T, hT⟩ : ∃ T, Sha.tt r kv wv = T := ⟨_, rfl⟩
      rw [hT]
      have HT := Lib.hid hT
      clear hT
      go_wp2_with (go_at_call 75; refine (turned_a _ _).mono ?_; rintro e w' ⟨rfl, rfl⟩)
      go_roundw
      case rel =>
        refine ⟨k + 1, by omega, by go_num, H.out, ?_⟩
        rw [← HST.out]
        simp only [Sha.and_u32, Sha.or_u32, Sha.add_u32]
        rw [← HT.out]
        exact ⟨rfl, rfl, rfl, rfl, rfl, rfl, rfl, rfl⟩
      case measure => simp [intOf]; omega
    · obtain rfl : k = 64 := by omega
      obtain ⟨r, hr⟩ : ∃ r, Sha.rounds (Sha.sched bs) s 64 = r := ⟨_, rfl⟩
      rw [hr]
      have HR := Lib.hid hr
      have H := Lib.hid hrel
      clear hr hrel hlt hk
      rw [show ((64 : Nat) : Int) = (64 : Int) from rfl]
      go_wp2_with fail
      rw [show (#[Value.int .u32 (r.a.toNat : Int), .int .u32 (r.b.toNat : Int), .int .u32 (r.c.toNat : Int), .int .u32 (r.d.toNat : Int), .int .u32 (r.e.toNat : Int), .int .u32 (r.f.toNat : Int), .int .u32 (r.g.toNat : Int), .int .u32 (r.h.toNat : Int)] : Array Value) = wcells r.list from rfl]
      go_loopw [97] (fun i wx => ∃ k : Nat, k ≤ 8 ∧ i = .int .i64 k ∧ MRel bs w M (Sha.acc s.list r.list k) wx) (fun i _ => 8 - (intOf i).toNat)
      case atStart => exact ⟨0, by omega, rfl, H.out⟩
      case round =>
        obtain ⟨k, hk, rfl, hrel⟩ := hrel
        clear H
        by_cases hlt : k < 8
        · have c0 := hrel.words.at_ (wcells_at _ k (by rw [Sha.acc_length]; exact hlt))
          have f0 := hrel.words.free k
          have hix : (wcells r.list)[k]? = some (.int .u32 (r.list.getD k 0).toNat) := wcells_at _ k hlt
          have H := Lib.hid (mrel_step bs w wr M s.list r.list k hw hrel)
          clear hrel
          generalize r.list.getD k 0 = y at *
          generalize (Sha.acc s.list r.list k).getD k 0 = x at *
          generalize wcells r.list = R at *
          have hrun := run_index35 R k y.toNat hlt hix
          clear hix
          have k8 : (k : Int) < 8 := by omega
          go_wp2_with fail
          go_roundw
          case rel =>
            refine ⟨k + 1, by omega, by go_num, ?_⟩
            simp only [Sha.add_u32]
            exact H.out
          case measure => simp [intOf]; omega
        · obtain rfl : k = 8 := by omega
          have hfin : Sha.acc s.list r.list 8 = (Sha.mix s bs).list := by
            unfold Sha.mix
            rw [HR.out]
            rfl
          rw [hfin] at hrel
          have hlen : (wcells (Sha.mix s bs).list).size = 8 := by rw [wcells_size]; rfl
          have hi : (Tryd.prog.info? 118).map (·.size) = some (wcells (Sha.mix s bs).list).toList.length := by rw [Array.length_toList, hlen]; exact info35
          have hth : wr.there (w.heap.size + 1 + 1) 0 (wcells (Sha.mix s bs).list).size := by
            have := hrel.out.there_
            rwa [wcells_size, List.length_replicate, ← hlen] at this
          have hone := wcells_one (Sha.mix s bs).list
          have hlo := hrel.words.range
          have hbel := hrel.bel
          clear hrel hfin
          generalize hS : wcells (Sha.mix s bs).list = W at *
          have HS := Lib.hid hS
          clear hS
          have HI := Lib.hid hi
          have HLO := Lib.hid hlo
          have HTH := Lib.hid hth
          have HONE := Lib.hid hone
          clear hi hlen hth hlo hone
          go_upto_region 16 with (fail)
          refine wp_region_lit ?_
          refine wpList_load_mid rfl 118 (.tmp 2) rfl w.heap.size 0 ?_ W.toList (.array 8 117) HLO.out Tryd.underlying118 rfl HI.out ?_
          · rfl
          rw [Array.toArray_toList]
          refine wpList_store_mid rfl 118 (.tmp 4) (.tmp 108) rfl (w.heap.size + 1 + 1) 0 W ?_ ?_ HTH.out ?_ HONE.out ?_
          · rfl
          · rfl
          · rw [HI.out, Array.length_toList]
          go_wp2_with fail
          refine bodyPost_ret (v := .agg W) ?_ rfl ⟨by rw [HS.out], below_setCells _ _ _ _ hbel (by omega)⟩
          rw [results_cell1 (p := 4) (ty := 118) Tryd.results71]
          have hr : (loadVar 118 ⟨w.heap.size + 1 + 1, 0, none⟩).run Tryd.prog (wr.setCells (w.heap.size + 1 + 1) 0 W.toList) = .ok (.agg W.toList.toArray) _ :=
            run_loadVar_mid _ (w.heap.size + 1 + 1) 0 118 W.toList (.array 8 117) (World.rangeAt_setCells_same _ _ _ _ (by rw [Array.length_toList]; exact HTH.out)) Tryd.underlying118 rfl HI.out
          rw [Array.toArray_toList] at hr
          exact hr
end Go.Proofs.YtehmkkccnadhoaaDoor.Sh
namespace Go.Proofs.YtehmkkccnadhoaaDoor.Sh
open Go.RowKit

structure Sha.Dg where
  s : Sha.St
  blk : List UInt8
  n : Nat
  len : UInt64

namespace Sha
def Dg.ok (D : Dg) : Prop := D.blk.length = 64 ∧ D.n < 64
def Dg.push (D : Dg) (b : UInt8) : Dg :=
  if D.n + 1 = 64 then ⟨mix D.s (D.blk.set D.n b), D.blk.set D.n b, 0, D.len⟩ else ⟨D.s, D.blk.set D.n b, D.n + 1, D.len⟩
def Dg.pushAll (D : Dg) (l : List UInt8) : Dg := l.foldl Dg.push D
def Dg.add (D : Dg) (l : List UInt8) : Dg := Dg.pushAll ⟨D.s, D.blk, D.n, D.len + UInt64.ofNat l.length⟩ l

theorem Dg.ok_push {D : Dg} (h : D.ok) (b : UInt8) : (D.push b).ok := by
  obtain ⟨h1, h2⟩ := h
  unfold Dg.push Dg.ok
  split
  · exact ⟨by simpa using h1, by show 0 < 64; omega⟩
  · exact ⟨by simpa using h1, by show D.n + 1 < 64; omega⟩
theorem Dg.ok_pushAll {D : Dg} (h : D.ok) (l : List UInt8) : (D.pushAll l).ok := by
  induction l generalizing D with
  | nil => exact h
  | cons b r ih => exact ih (Dg.ok_push h b)
theorem Dg.pushAll_append (D : Dg) (a b : List UInt8) : D.pushAll (a ++ b) = (D.pushAll a).pushAll b := List.foldl_append ..
/-- The block with the bytes l at place n. -/
def lay (blk : List UInt8) (n : Nat) (l : List UInt8) : List UInt8 := blk.take n ++ l ++ blk.drop (n + l.length)
theorem lay_length (blk : List UInt8) (n : Nat) (l : List UInt8) (h : n + l.length ≤ blk.length) : (lay blk n l).length = blk.length := by
  simp [lay]; omega
theorem lay_cons (blk : List UInt8) (n : Nat) (b : UInt8) (r : List UInt8) (h : n < blk.length) : lay (blk.set n b) (n + 1) r = lay blk n (b :: r) := by
  unfold lay
  have e1 : (blk.set n b).take (n + 1) = blk.take n ++ [b] := by
    rw [List.take_add_one, List.take_set_of_le (Nat.le_refl n)]
    simp [h]
  have e2 : (blk.set n b).drop (n + 1 + r.length) = blk.drop (n + 1 + r.length) := by
    rw [List.drop_set_of_lt (by omega)]
  rw [e1, e2]
  simp [Nat.add_assoc, Nat.add_comm 1]
theorem pushAll_some (D : Dg) (l : List UInt8) (h : D.blk.length = 64) (hn : D.n + l.length < 64) :
    D.pushAll l = ⟨D.s, lay D.blk D.n l, D.n + l.length, D.len⟩ := by
  induction l generalizing D with
  | nil => simp [Dg.pushAll, lay]
  | cons b r ih =>
    have hn' : D.n + 1 + r.length < 64 := by simp at hn; omega
    show (D.push b).pushAll r = _
    have e : D.push b = ⟨D.s, D.blk.set D.n b, D.n + 1, D.len⟩ := by unfold Dg.push; rw [if_neg (by omega)]
    rw [e, ih _ (by simpa using h) hn', lay_cons _ _ _ _ (by omega)]
    simp [Nat.add_assoc, Nat.add_comm 1]
theorem pushAll_full (D : Dg) (l : List UInt8) (h : D.blk.length = 64) (hl : l ≠ []) (hn : D.n + l.length = 64) :
    D.pushAll l = ⟨mix D.s (lay D.blk D.n l), lay D.blk D.n l, 0, D.len⟩ := by
  induction l generalizing D with
  | nil => exact absurd rfl hl
  | cons b r ih =>
    have hn' : D.n + 1 + r.length = 64 := by simp at hn; omega
    show (D.push b).pushAll r = _
    by_cases hr : r = []
    · subst hr
      have e : D.push b = ⟨mix D.s (D.blk.set D.n b), D.blk.set D.n b, 0, D.len⟩ := by unfold Dg.push; rw [if_pos (by simpa using hn')]
      have e2 : lay D.blk D.n [b] = D.blk.set D.n b := by
        rw [← lay_cons _ _ _ _ (by omega)]; simp [lay]
      rw [e, e2]
      rfl
    · have hr0 : 0 < r.length := List.length_pos_iff.2 hr
      have e : D.push b = ⟨D.s, D.blk.set D.n b, D.n + 1, D.len⟩ := by unfold Dg.push; rw [if_neg (by omega)]
      rw [e, ih _ (by simpa using h) hr hn', lay_cons _ _ _ _ (by omega)]
end Sha

def V8 (b : UInt8) : Value := .int .u8 b.toNat
def V32 (x : UInt32) : Value := .int .u32 x.toNat
/-- The running sum's 74 cells. -/
def dvals (s : Sha.St) (blk : List UInt8) (n : Nat) (len : UInt64) : List Value := s.list.map V32 ++ (blk.map V8 ++ [.int .i64 n, .int .u64 len.toNat])
def dcells (D : Sha.Dg) : Array Value := (dvals D.s D.blk D.n D.len).toArray

theorem dvals_length (s : Sha.St) (blk : List UInt8) (n : Nat) (len : UInt64) (h : blk.length = 64) : (dvals s blk n len).length = 74 := by
  simp [dvals, Sha.St.list, h]
theorem dvals_72 (s : Sha.St) (blk : List UInt8) (n : Nat) (len : UInt64) (h : blk.length = 64) : (dvals s blk n len)[72]? = some (.int .i64 n) := by
  have e : (s.list.map V32).length = 8 := rfl
  have e2 : (blk.map V8).length = 64 := by simp [h]
  unfold dvals
  rw [List.getElem?_append_right (by omega), List.getElem?_append_right (by omega), e, e2]
  rfl
theorem dvals_73 (s : Sha.St) (blk : List UInt8) (n : Nat) (len : UInt64) (h : blk.length = 64) : (dvals s blk n len)[73]? = some (.int .u64 len.toNat) := by
  have e : (s.list.map V32).length = 8 := rfl
  have e2 : (blk.map V8).length = 64 := by simp [h]
  unfold dvals
  rw [List.getElem?_append_right (by omega), List.getElem?_append_right (by omega), e, e2]
  rfl
theorem dvals_set72 (s : Sha.St) (blk : List UInt8) (n m : Nat) (len : UInt64) (h : blk.length = 64) : (dvals s blk n len).set 72 (.int .i64 m) = dvals s blk m len := by
  have e : (s.list.map V32).length = 8 := rfl
  have e2 : (blk.map V8).length = 64 := by simp [h]
  unfold dvals
  rw [List.set_append_right _ _ (by omega), List.set_append_right _ _ (by omega), e, e2]
  rfl
theorem dvals_set73 (s : Sha.St) (blk : List UInt8) (n : Nat) (len len' : UInt64) (h : blk.length = 64) : (dvals s blk n len).set 73 (.int .u64 len'.toNat) = dvals s blk n len' := by
  have e : (s.list.map V32).length = 8 := rfl
  have e2 : (blk.map V8).length = 64 := by simp [h]
  unfold dvals
  rw [List.set_append_right _ _ (by omega), List.set_append_right _ _ (by omega), e, e2]
  rfl

/-- A stretch of a whole block, stored anew. -/
theorem Whole.setCells {g : Nat} {t : TypeId} : ∀ (vs : List Value) (pre old post : List Value) {w : World}, Whole w g t (pre ++ (old ++ post)).toArray → old.length = vs.length →
    Whole (w.setCells g pre.length vs) g t (pre ++ (vs ++ post)).toArray := by
  intro vs
  induction vs with
  | nil =>
    intro pre old post w h hl
    have : old = [] := List.eq_nil_of_length_eq_zero (by simpa using hl)
    subst this
    exact h
  | cons v r ih =>
    intro pre old post w h hl
    cases old with
    | nil => simp at hl
    | cons u old =>
      have h1 := h.set pre.length v
      have e : ((pre ++ (u :: old ++ post)).toArray).setIfInBounds pre.length v = ((pre ++ [v]) ++ (old ++ post)).toArray := by
        simp
      rw [e] at h1
      have h2 := ih (pre ++ [v]) old post h1 (by simpa using hl)
      simpa [World.setCells] using h2

/-- What the bytes of the block read as behind a copy. -/
theorem whole_lay {w : World} {g : Nat} (s : Sha.St) (blk : List UInt8) (n : Nat) (len : UInt64) (l : List UInt8) (hl : blk.length = 64) (hn : n + l.length ≤ 64) (c : Nat)
    (h : Whole w g 121 (dvals s blk c len).toArray) : Whole (w.setCells g (8 + n) (l.map V8)) g 121 (dvals s (Sha.lay blk n l) c len).toArray := by
  have e0 : dvals s blk c len = (s.list.map V32 ++ (blk.take n).map V8) ++ (((blk.drop n).take l.length).map V8 ++ ((blk.drop (n + l.length)).map V8 ++ [.int .i64 c, .int .u64 len.toNat])) := by
    unfold dvals
    have : blk = blk.take n ++ ((blk.drop n).take l.length ++ blk.drop (n + l.length)) := by
      rw [← List.drop_drop, List.take_append_drop, List.take_append_drop]
    conv => lhs; rw [this]
    simp only [List.map_append, List.append_assoc]
  have e1 : (s.list.map V32 ++ (blk.take n).map V8).length = 8 + n := by
    simp [Sha.St.list]; omega
  rw [e0] at h
  have h1 := Whole.setCells (l.map V8) _ _ _ h (by simp; omega)
  rw [e1] at h1
  have e2 : dvals s (Sha.lay blk n l) c len = (s.list.map V32 ++ (blk.take n).map V8) ++ (l.map V8 ++ ((blk.drop (n + l.length)).map V8 ++ [.int .i64 c, .int .u64 len.toNat])) := by
    unfold dvals Sha.lay
    simp only [List.map_append, List.append_assoc]
  rw [e2]
  exact h1
/-- The eight words, stored anew. -/
theorem whole_words {w : World} {g : Nat} (s s' : Sha.St) (blk : List UInt8) (n : Nat) (len : UInt64) (h : Whole w g 121 (dvals s blk n len).toArray) :
    Whole (w.setCells g 0 (s'.list.map V32)) g 121 (dvals s' blk n len).toArray :=
  Whole.setCells (s'.list.map V32) [] (s.list.map V32) _ h rfl
theorem range_words {w : World} {g : Nat} (s : Sha.St) (blk : List UInt8) (n : Nat) (len : UInt64) (h : Whole w g 121 (dvals s blk n len).toArray) : w.rangeAt g 0 (s.list.map V32) := fun j v hv => by
  refine h.at_ ?_
  rw [Nat.zero_add, List.getElem?_toArray]
  unfold dvals
  rw [List.getElem?_append_left (List.getElem?_eq_some_iff.1 hv).1]
  exact hv
theorem range_blk {w : World} {g : Nat} (s : Sha.St) (blk : List UInt8) (n : Nat) (len : UInt64) (h : Whole w g 121 (dvals s blk n len).toArray) : w.rangeAt g 8 (blk.map V8) := fun j v hv => by
  refine h.at_ ?_
  have e : (s.list.map V32).length = 8 := rfl
  rw [List.getElem?_toArray]
  unfold dvals
  rw [List.getElem?_append_right (by omega), e, Nat.add_sub_cancel_left, List.getElem?_append_left (List.getElem?_eq_some_iff.1 hv).1]
  exact hv

#print axioms whole_lay
end Go.Proofs.YtehmkkccnadhoaaDoor.Sh
namespace Go.Proofs.YtehmkkccnadhoaaDoor.Sh
open Go.RowKit
theorem wcells_V (l : List UInt32) : wcells l = (l.map V32).toArray := rfl
theorem bcells_V (l : List UInt8) : bcells l = (l.map V8).toArray := rfl

/-- The slice with address A and n elements reads as the bytes bs, and none of them lies in block g. -/
def Bytes (w : World) (g : Nat) (A : Option Addr) (n : Nat) (bs : List UInt8) : Prop :=
  bs.length = n ∧ (0 < n → ∃ b o, A = some ⟨b, o, none⟩ ∧ b ≠ g ∧ b < w.heap.size ∧ ∀ j v, bs[j]? = some v → w.cell? ⟨b, o + j, none⟩ = some (V8 v))

def slen : Value → Nat
  | .slice _ n _ => n
  | _ => 0

structure ARel (g : Nat) (w : World) (D : Sha.Dg) (wx : World) : Prop where
  dig : Whole wx g 121 (dcells D)
  ok : D.ok
  grown : w.grownBy wx (some g)
  tab : Tab wx 2

def ALoop (g : Nat) (w : World) (E : Sha.Dg) (p : Value) (wx : World) : Prop :=
  ∃ A n c rest D, p = .slice A n c ∧ n ≤ c ∧ n ≤ 140737488355328 ∧ Bytes wx g A n rest ∧ ARel g w D wx ∧ D.pushAll rest = E

theorem wadd_u64n (x : UInt64) (n : Nat) : IntKind.u64.wrap ((x.toNat : Int) + (n : Int)) = ((x + UInt64.ofNat n).toNat : Int) := by
  rw [IntKind.wrap_u64, UInt64.toNat_add, UInt64.toNat_ofNat']
  omega

theorem grown_setCell {w : World} {g i : Nat} (u : Value) : w.grownBy (w.setCell ⟨g, i, none⟩ u) (some g) :=
  ⟨rfl, rfl, rfl, by simp, fun k _ hne => Below.heap_setCell w ⟨g, i, none⟩ u k (fun e => hne (by rw [e]))⟩
theorem tab_setCell {w : World} {g i : Nat} (u : Value) (hg : 2 ≠ g) (h : Tab w 2) : Tab (w.setCell ⟨g, i, none⟩ u) 2 := fun j hj => by
  rw [World.cell?_setCell_other _ _ _ _ (fun e => by injection e with e; omega)]
  exact h j hj
theorem bytes_setCell {w : World} {g i : Nat} {A : Option Addr} {n : Nat} {bs : List UInt8} (u : Value) (h : Bytes w g A n bs) : Bytes (w.setCell ⟨g, i, none⟩ u) g A n bs :=
  ⟨h.1, fun hn => by
    obtain ⟨b, o, h1, h2, h3, h4⟩ := h.2 hn
    exact ⟨b, o, h1, h2, by simpa using h3, fun j v hv => by
      rw [World.cell?_setCell_other _ _ _ _ (fun e => by injection e with e; exact h2 e.symm)]
      exact h4 j v hv⟩⟩

theorem aloop_start (g : Nat) (D : Sha.Dg) (hok : D.ok) (A : Option Addr) (n c : Nat) (bs : List UInt8) (w : World) (hD : Whole w g 121 (dcells D)) (hB : Bytes w g A n bs)
    (hnc : n ≤ c) (hc : n ≤ 140737488355328) (ht : Tab w 2) (hg : 2 ≠ g) :
    ALoop g w (D.add bs) (.slice A n c) (w.setCell ⟨g, 73, none⟩ (.int .u64 (IntKind.u64.wrap ((D.len.toNat : Int) + (n : Int))))) := by
  refine ⟨A, n, c, bs, ⟨D.s, D.blk, D.n, D.len + UInt64.ofNat bs.length⟩, rfl, hnc, hc, bytes_setCell _ hB, ⟨?_, ⟨hok.1, hok.2⟩, grown_setCell _, tab_setCell _ hg ht⟩, rfl⟩
  rw [wadd_u64n, ← hB.1]
  have h := hD.set 73 (.int .u64 ((D.len + UInt64.ofNat bs.length).toNat : Int))
  rw [dcells, List.setIfInBounds_toArray, dvals_set73 _ _ _ _ _ hok.1] at h
  exact h

theorem grown_drew {w : World} {row : Option Nat} : w.grownBy w.drew row := ⟨rfl, rfl, rfl, Nat.le_refl _, fun _ _ _ => rfl⟩
theorem grown_setCells {g : Nat} : ∀ (vs : List Value) (o : Nat) (w : World), w.grownBy (w.setCells g o vs) (some g)
  | [], _, w => World.grownBy.refl w _
  | v :: r, o, _ => (grown_setCell v).trans (grown_setCells r (o + 1) _)
theorem tab_grown {w w' : World} {g : Nat} (h : Tab w 2) (hb : w.grownBy w' (some g)) (hw : 2 < w.heap.size) (hg : 2 ≠ g) : Tab w' 2 := fun j hj => by
  rw [World.cell?_of_block (w := w) (hb.block 2 hw (fun e => hg (by injection e)))]
  exact h j hj
theorem bytes_grown {w w' : World} {g : Nat} {A : Option Addr} {n : Nat} {bs : List UInt8} (h : Bytes w g A n bs) (hb : w.grownBy w' (some g)) : Bytes w' g A n bs :=
  ⟨h.1, fun hn => by
    obtain ⟨b, o, h1, h2, h3, h4⟩ := h.2 hn
    exact ⟨b, o, h1, h2, Nat.lt_of_lt_of_le h3 hb.size, fun j v hv => by
      rw [World.cell?_of_block (w := w) (hb.block b h3 (fun e => h2 (by injection e)))]
      exact h4 j v hv⟩⟩
theorem bytes_cut {w : World} {g b o n c m : Nat} {bs : List UInt8} (h : Bytes w g (some ⟨b, o, none⟩) n bs) (hm : m ≤ n) (hc : n ≤ c) :
    Bytes w g (if c = m then some ⟨b, o, none⟩ else some ⟨b, o + m, none⟩) (n - m) (bs.drop m) :=
  ⟨by rw [List.length_drop, h.1], fun hn => by
    obtain ⟨b', o', h1, h2, h3, h4⟩ := h.2 (by omega)
    injection h1 with h1
    injection h1 with e1 e2
    subst e1 e2
    rw [if_neg (by omega)]
    exact ⟨b, o + m, rfl, h2, h3, fun j v hv => by
      rw [Nat.add_assoc]
      exact h4 (m + j) v (by rw [← hv, List.getElem?_drop])⟩⟩

theorem whole_count {w : World} {g : Nat} (s : Sha.St) (blk : List UInt8) (n m : Nat) (len : UInt64) (hl : blk.length = 64) (h : Whole w g 121 (dvals s blk n len).toArray) :
    Whole (w.setCell ⟨g, 72, none⟩ (.int .i64 m)) g 121 (dvals s blk m len).toArray := by
  have := h.set 72 (.int .i64 m)
  rw [List.setIfInBounds_toArray, dvals_set72 _ _ _ _ _ hl] at this
  exact this
theorem wpOp_of_wp {P : Program} {ops : Array Oper} {Q : Exit → Act → World → Prop} {i : Nat} {o : Oper} {K : Act → World → Prop} {a : Act} {w : World} (hi : ops[i]? = some o) (hw : Region.wanted o (yielded ops a.tmps) = true)
    (h : o.wp P a w K Q) : wpOp P ops Q i K a w := by
  unfold wpOp
  simp only [hi, hw, if_true]
  exact .inl h

theorem run_copy_into {w : World} {g b o n c m : Nat} {D : Sha.Dg} {bs : List UInt8} (hD : Whole w g 121 (dcells D)) (hok : D.ok) (hm : m = Nat.min n (64 - D.n)) (hn : bs.length = n)
    (hbc : ∀ j v, bs[j]? = some v → w.cell? ⟨b, o + j, none⟩ = some (V8 v)) :
    (Builtin.copy_ #[22, 22] 3 #[.slice (some ⟨g, 8 + D.n, none⟩) (64 - D.n) (64 - D.n), .slice (some ⟨b, o, none⟩) n c]).run Tryd.prog w = .ok (.int .i64 m) (w.setCells g (8 + D.n) ((bs.take m).map V8)) := by
  have hm1 : m ≤ n ∧ m ≤ 64 - D.n := by rw [hm]; simp only [Nat.min_def]; split <;> omega
  have hl : ((bs.take m).map V8).length = m := by simp; omega
  have := run_copy_cells (P := Tryd.prog) w 22 22 3 5 g (8 + D.n) (64 - D.n) (64 - D.n) ⟨b, o, none⟩ n c ((bs.take m).map V8) Tryd.underlying22 (by kernel_rfl) (by rw [hl, hm])
    (fun j v hv => by
      rw [Addr.add_mid]
      rw [List.getElem?_map, Option.map_eq_some_iff] at hv
      obtain ⟨x, hx, rfl⟩ := hv
      have hx' : bs[j]? = some x := by
        rw [List.getElem?_take] at hx
        split at hx
        · exact hx
        · cases hx
      exact hbc j x hx')
    (fun j hj => by
      rw [hl] at hj
      rw [hD.at_ (v := (dvals D.s D.blk D.n D.len)[8 + D.n + j]'(by rw [dvals_length _ _ _ _ hok.1]; have := hok.2; omega)) (by rw [dcells, List.getElem?_toArray, List.getElem?_eq_getElem])]
      rfl)
    (fun j _ => hD.free _)
    (fun v hv => by
      simp only [List.mem_map] at hv
      obtain ⟨x, _, rfl⟩ := hv
      rfl)
  rw [hl] at this
  exact this

set_option maxRecDepth 100000 in
set_option maxHeartbeats 4000000 in
theorem add_any (g : Nat) (D : Sha.Dg) (hok : D.ok) (A : Option Addr) (n c : Nat) (bs : List UInt8) (w : World) (hD : Whole w g 121 (dcells D)) (hB : Bytes w g A n bs)
    (hnc : n ≤ c) (hc : n ≤ 140737488355328) (ht : Tab w 2) (hw : 2 < w.heap.size) (hg : 2 ≠ g) :
    Calls Tryd.prog 54 #[.pointer (some ⟨g, 0, none⟩), .slice A n c] w fun e w' => e = .returned (.tuple #[]) ∧ Whole w' g 121 (dcells (D.add bs)) ∧ w.grownBy w' (some g) := by
  have c73 := hD.at_ (by rw [dcells, List.getElem?_toArray]; exact dvals_73 _ _ _ _ hok.1)
  have f73 := hD.free 73
  have HS := Lib.hid (aloop_start g D hok A n c bs w hD hB hnc hc ht hg)
  clear hD hB hok ht
  go_enter Tryd.func54, Tryd.ntmps54
  go_wp2_with fail
  go_loopw [1] (fun p wx => ALoop g w (D.add bs) p wx) (fun p _ => slen p)
  case atStart => exact HS.out
  case round =>
    clear HS c73 f73
    obtain ⟨A', n', c', rest, D', rfl, hnc', hc', hB, hrel, hall⟩ := hrel
    by_cases hpos : 0 < n'
    · obtain ⟨b, o, rfl, hbg, hbs, hbc⟩ := hB.2 hpos
      have hf := hrel.ok.2
      obtain ⟨m, hm⟩ : ∃ m, m = Nat.min n' (64 - D'.n) := ⟨_, rfl⟩
      have hm1 : 1 ≤ m ∧ m ≤ n' ∧ m ≤ 64 - D'.n := by rw [hm]; simp only [Nat.min_def]; split <;> omega
      have c72 := hrel.dig.at_ (by rw [dcells, List.getElem?_toArray]; exact dvals_72 _ _ _ _ hrel.ok.1)
      have f0 : (D'.n : Int) ≤ 64 := by omega
      have f1 : ¬ 64 = D'.n := by omega
      have f2 : (0 : Int) < (n' : Int) := by omega
      have HREL := Lib.hid hrel
      have HB := Lib.hid hB
      have HBC := Lib.hid hbc
      have HALL := Lib.hid hall
      have HM := Lib.hid hm
      clear hrel hB hbc hall hm
      go_upto_region 2 with (fail)
      go_still_tail 9, (by kernel_rfl)
      change wpList _ _ _ _ _ wr.drew
      have hcopy := run_copy_into (c := c') (HREL.out.dig.drew) HREL.out.ok HM.out HB.out.1 (b := b) (o := o) HBC.out
      obtain ⟨w2, hw2⟩ : ∃ w2, w2 = wr.drew.setCells g (8 + D'.n) ((rest.take m).map V8) := ⟨_, rfl⟩
      rw [← hw2] at hcopy
      have hg2 : wr.grownBy w2 (some g) := by rw [hw2]; exact grown_drew.trans (grown_setCells _ _ _)
      have hd2 : Whole w2 g 121 (dvals D'.s (Sha.lay D'.blk D'.n (rest.take m)) D'.n D'.len).toArray := by
        rw [hw2]
        exact whole_lay _ _ _ _ _ HREL.out.ok.1 (by rw [List.length_take]; omega) _ HREL.out.dig.drew
      have HW2 := Lib.hid hw2
      have HG2 := Lib.hid hg2
      have HD2 := Lib.hid hd2
      clear hw2 hg2 hd2
      go_upto_region 3 with (fail)
      clear hcopy c72
      have m1 : (m : Int) ≤ (n' : Int) := by omega
      go_upto_region 4 with (fail)
      have hB2 := bytes_cut (bytes_grown HB.out HG2.out) hm1.2.1 hnc' (c := c')
      generalize (if c' = m then (some ⟨b, o, none⟩ : Option Addr) else some ⟨b, o + m, none⟩) = A2 at *
      have HB2 := Lib.hid hB2
      clear hB2
      have hbl : (Sha.lay D'.blk D'.n (rest.take m)).length = 64 := by
        rw [Sha.lay_length _ _ _ (by rw [HREL.out.ok.1, List.length_take]; omega), HREL.out.ok.1]
      have hl : (rest.take m).length = m := by rw [List.length_take, HB.out.1]; omega
      have c72 := HD2.out.at_ (by rw [List.getElem?_toArray]; exact dvals_72 _ _ _ _ hbl)
      have f72 := HD2.out.free 72
      have HBL := Lib.hid hbl
      have HL := Lib.hid hl
      clear hbl hl
      have hcast : ((D'.n : Int) + (m : Int)) = ((D'.n + m : Nat) : Int) := by omega
      have HCAST := Lib.hid hcast
      clear hcast
      have HG := Lib.hid (HREL.out.grown.trans HG2.out)
      have HTB := Lib.hid (tab_grown HREL.out.tab HG2.out (by have := HREL.out.grown.size; omega) hg)
      by_cases hfull : D'.n + m = 64
      · have q64 : (((D'.n : Int) + (m : Int)) == 64) = true := by rw [beq_iff_eq]; omega
        have hw3 : ARel g w ⟨D'.s, Sha.lay D'.blk D'.n (rest.take m), D'.n + m, D'.len⟩ (w2.setCell ⟨g, 72, none⟩ (.int .i64 ((D'.n : Int) + (m : Int)))) ∨ True := .inr trivial
        have hd3 : Whole (w2.setCell ⟨g, 72, none⟩ (.int .i64 ((D'.n : Int) + (m : Int)))) g 121 (dvals D'.s (Sha.lay D'.blk D'.n (rest.take m)) (D'.n + m) D'.len).toArray := by
          rw [HCAST.out]; exact whole_count _ _ _ _ _ HBL.out HD2.out
        have ht3 : Tab (w2.setCell ⟨g, 72, none⟩ (.int .i64 ((D'.n : Int) + (m : Int)))) 2 := tab_setCell _ hg HTB.out
        have hg3 : w.grownBy (w2.setCell ⟨g, 72, none⟩ (.int .i64 ((D'.n : Int) + (m : Int)))) (some g) := HG.out.trans (grown_setCell _)
        have hb3 := bytes_setCell (i := 72) (.int .i64 ((D'.n : Int) + (m : Int))) HB2.out
        have HD3 := Lib.hid hd3
        have HT3 := Lib.hid ht3
        have HG3 := Lib.hid hg3
        have HB3 := Lib.hid hb3
        clear hd3 ht3 hg3 hb3 hw3
        go_upto_region 6 with (fail)
        clear c72 f72 HB2 HD2 HG2 HW2 HTB HG q64
        generalize w2.setCell ⟨g, 72, none⟩ (.int .i64 ((D'.n : Int) + (m : Int))) = w3 at *
        obtain ⟨bl, hbl2⟩ : ∃ bl, Sha.lay D'.blk D'.n (rest.take m) = bl := ⟨_, rfl⟩
        have HBL2 := Lib.hid hbl2
        rw [hbl2] at HD3 HBL
        clear hbl2
        refine wp_region_any (by kernel_rfl) ?_
        change wpAny _ _ _ _ _ _ _ w3.drew
        refine wpAny_take (i := 0) (v := .pointer (some ⟨g, 0, none⟩)) rfl (by kernel_rfl) (by kernel_rfl) (by kernel_rfl) (fun _ _ _ h => h) (Or.inl ⟨by rfl, fun _ => by go_simp⟩) ?_
        go_simp
        refine wpAny_take (i := 1) (v := .pointer (some ⟨g, 0, none⟩)) rfl (by kernel_rfl) (by kernel_rfl) (by kernel_rfl) (fun _ _ _ h => h) (Or.inl ⟨by rfl, fun _ => by go_simp⟩) ?_
        go_simp
        refine wpAny_take (i := 2) (v := .pointer (some ⟨g, 0, none⟩)) rfl (by kernel_rfl) (by kernel_rfl) (by kernel_rfl) (fun _ _ _ h => h) (Or.inl ⟨by rfl, fun _ => by go_simp⟩) ?_
        go_simp
        refine wpAny_take (i := 3) (v := .pointer (some ⟨g, 0, none⟩)) rfl (by kernel_rfl) (by kernel_rfl) (by kernel_rfl) (fun _ _ _ h => h) (Or.inl ⟨by rfl, fun _ => by go_simp⟩) ?_
        go_simp
        refine wpAny_take (i := 5) (v := .pointer (some ⟨g, 0, none⟩)) rfl (by kernel_rfl) (by kernel_rfl) (by kernel_rfl) (fun _ _ _ h => h) (Or.inl ⟨by rfl, fun _ => by go_simp⟩) ?_
        go_simp
        refine wpAny_take (i := 6) (v := .pointer (some ⟨g, 0, none⟩)) rfl (by kernel_rfl) (by kernel_rfl) (by kernel_rfl) (fun _ _ _ h => h) (Or.inl ⟨by rfl, fun _ => by go_simp⟩) ?_
        go_simp
        refine wpAny_take (i := 7) (v := .pointer (some ⟨g, 8, none⟩)) rfl (by kernel_rfl) (by kernel_rfl) (by kernel_rfl) (fun _ _ _ h => h) (Or.inl ⟨by rfl, fun _ => by go_simp⟩) ?_
        go_simp
        have r35 := range_words _ _ _ _ HD3.out.drew
        have r36 := range_blk _ _ _ _ HD3.out.drew
        have i35 : (Tryd.prog.info? 118).map (·.size) = some (D'.s.list.map V32).length := info35
        have i36 : (Tryd.prog.info? 119).map (·.size) = some (bl.map V8).length := by rw [List.length_map, HBL.out]; exact info36
        have R35 := Lib.hid r35
        have R36 := Lib.hid r36
        have I35 := Lib.hid i35
        have I36 := Lib.hid i36
        clear r35 r36 i35 i36
        refine wpAny_all (rs := [4, 8]) (by kernel_rfl) (by simp) ?_
        intro i hi
        simp only [List.mem_cons, List.not_mem_nil, or_false] at hi
        rcases hi with rfl | rfl
        · refine wpOp_of_wp rfl (by rfl) ?_
          refine wp_load_mid 118 (.tmp 47) rfl g 0 (by rfl) (D'.s.list.map V32) (.array 8 117) R35.out Tryd.underlying118 rfl I35.out ?_
          go_simp
          refine wpAny_all (rs := [8]) (by kernel_rfl) (by simp) ?_
          intro i hi
          simp only [List.mem_cons, List.not_mem_nil, or_false] at hi
          subst hi
          refine wpOp_of_wp rfl (by rfl) ?_
          refine wp_load_mid 119 (.tmp 51) rfl g 8 (by rfl) (bl.map V8) (.array 64 5) R36.out Tryd.underlying119 rfl I36.out ?_
          go_simp
          refine wpAny_all (rs := [9]) (by kernel_rfl) (by simp) ?_
          intro i hi
          simp only [List.mem_cons, List.not_mem_nil, or_false] at hi
          subst hi
          refine wpOp_of_wp rfl (by rfl) ?_
          go_simp
          rw [← wcells_V, ← bcells_V]
          refine (mix_any D'.s bl HBL.out w3.drew HT3.out (by have := HG3.out.size; show 2 < w3.heap.size; omega)).mono ?_
          rintro e w4 ⟨rfl, hb4⟩
          simp only []
          have hd4 := HD3.out.drew.below hb4 HD3.out.lt
          have hd5 := whole_words _ (Sha.mix D'.s bl) _ _ _ hd4
          have ht4 : w4.there g 0 (wcells (Sha.mix D'.s bl).list).size := fun j hj => by
            rw [wcells_size] at hj
            have hj8 : j < 8 := hj
            have hlen := dvals_length D'.s bl (D'.n + m) D'.len HBL.out
            rw [Nat.zero_add]
            exact ⟨by rw [hd4.at_ (v := (dvals D'.s bl (D'.n + m) D'.len)[j]'(by omega)) (by rw [List.getElem?_toArray, List.getElem?_eq_getElem])]; rfl, hd4.free j⟩
          have hg4 : w3.grownBy w4 (some g) := ⟨hb4.os, hb4.tape, hb4.output, hb4.size, fun k hk _ => hb4.block k hk⟩
          have hg5 := HG3.out.trans (hg4.trans (grown_setCells ((Sha.mix D'.s bl).list.map V32) 0 w4))
          have hb5 := bytes_grown HB3.out (hg4.trans (grown_setCells ((Sha.mix D'.s bl).list.map V32) 0 w4))
          have ht5 := tab_grown HT3.out (hg4.trans (grown_setCells ((Sha.mix D'.s bl).list.map V32) 0 w4)) (by have := HG3.out.size; omega) hg
          have HT4 := Lib.hid ht4
          have HD5 := Lib.hid hd5
          have HG5 := Lib.hid hg5
          have HB5 := Lib.hid hb5
          have HT5 := Lib.hid ht5
          clear hd4 hd5 ht4 hg4 hg5 hb5 ht5 hb4 HT3 HG3 HB3 HD3 R35 R36 I35 I36
          refine wpAny_take (i := 10) (v := .pointer (some ⟨g, 0, none⟩)) rfl (by kernel_rfl) (by kernel_rfl) (by kernel_rfl) (fun _ _ _ h => h) (Or.inl ⟨by rfl, fun _ => by go_simp⟩) ?_
          go_simp
          refine wpAny_take (i := 11) (v := .pointer (some ⟨g, 0, none⟩)) rfl (by kernel_rfl) (by kernel_rfl) (by kernel_rfl) (fun _ _ _ h => h) (Or.inl ⟨by rfl, fun _ => by go_simp⟩) ?_
          go_simp
          refine wpAny_all (rs := [12]) (by kernel_rfl) (by simp) ?_
          intro i hi
          simp only [List.mem_cons, List.not_mem_nil, or_false] at hi
          subst hi
          refine wpOp_of_wp rfl (by rfl) ?_
          refine wp_store_mid 118 (.tmp 55) (.tmp 53) rfl g 0 (wcells (Sha.mix D'.s bl).list) (by rfl) (by rfl) HT4.out (by rw [wcells_size]; exact info35) (wcells_one _) ?_
          refine wpAny_done (by kernel_rfl) ?_ _
          rw [show (wcells (Sha.mix D'.s bl).list).toList = (Sha.mix D'.s bl).list.map V32 from rfl]
          clear HT4
          generalize w4.setCells g 0 ((Sha.mix D'.s bl).list.map V32) = w5 at *
          have c72 := HD5.out.at_ (by rw [List.getElem?_toArray]; exact dvals_72 _ _ _ _ HBL.out)
          have f72 := HD5.out.free 72
          go_wp2_with fail
          go_roundw
          case rel =>
            refine ⟨A2, n' - m, c' - m, rest.drop m, ⟨Sha.mix D'.s bl, bl, 0, D'.len⟩, rfl, by omega, by omega, bytes_setCell _ HB5.out, ⟨?_, ⟨HBL.out, by show 0 < 64; omega⟩, HG5.out.trans (grown_setCell _), tab_setCell _ hg HT5.out⟩, ?_⟩
            · exact whole_count _ _ _ 0 _ HBL.out HD5.out
            · have h1 := Sha.pushAll_full D' (rest.take m) HREL.out.ok.1 (by intro h0; have := HL.out; rw [h0] at this; simp at this; omega) (by rw [HL.out]; omega)
              rw [HBL2.out] at h1
              rw [← h1, ← Sha.Dg.pushAll_append, List.take_append_drop]
              exact HALL.out
          case measure =>
            simp [slen]
            omega
        · refine wpOp_of_wp rfl (by rfl) ?_
          refine wp_load_mid 119 (.tmp 51) rfl g 8 (by rfl) (bl.map V8) (.array 64 5) R36.out Tryd.underlying119 rfl I36.out ?_
          go_simp
          refine wpAny_all (rs := [4]) (by kernel_rfl) (by simp) ?_
          intro i hi
          simp only [List.mem_cons, List.not_mem_nil, or_false] at hi
          subst hi
          refine wpOp_of_wp rfl (by rfl) ?_
          refine wp_load_mid 118 (.tmp 47) rfl g 0 (by rfl) (D'.s.list.map V32) (.array 8 117) R35.out Tryd.underlying118 rfl I35.out ?_
          go_simp
          refine wpAny_all (rs := [9]) (by kernel_rfl) (by simp) ?_
          intro i hi
          simp only [List.mem_cons, List.not_mem_nil, or_false] at hi
          subst hi
          refine wpOp_of_wp rfl (by rfl) ?_
          go_simp
          rw [← wcells_V, ← bcells_V]
          refine (mix_any D'.s bl HBL.out w3.drew HT3.out (by have := HG3.out.size; show 2 < w3.heap.size; omega)).mono ?_
          rintro e w4 ⟨rfl, hb4⟩
          simp only []
          have hd4 := HD3.out.drew.below hb4 HD3.out.lt
          have hd5 := whole_words _ (Sha.mix D'.s bl) _ _ _ hd4
          have ht4 : w4.there g 0 (wcells (Sha.mix D'.s bl).list).size := fun j hj => by
            rw [wcells_size] at hj
            have hj8 : j < 8 := hj
            have hlen := dvals_length D'.s bl (D'.n + m) D'.len HBL.out
            rw [Nat.zero_add]
            exact ⟨by rw [hd4.at_ (v := (dvals D'.s bl (D'.n + m) D'.len)[j]'(by omega)) (by rw [List.getElem?_toArray, List.getElem?_eq_getElem])]; rfl, hd4.free j⟩
          have hg4 : w3.grownBy w4 (some g) := ⟨hb4.os, hb4.tape, hb4.output, hb4.size, fun k hk _ => hb4.block k hk⟩
          have hg5 := HG3.out.trans (hg4.trans (grown_setCells ((Sha.mix D'.s bl).list.map V32) 0 w4))
          have hb5 := bytes_grown HB3.out (hg4.trans (grown_setCells ((Sha.mix D'.s bl).list.map V32) 0 w4))
          have ht5 := tab_grown HT3.out (hg4.trans (grown_setCells ((Sha.mix D'.s bl).list.map V32) 0 w4)) (by have := HG3.out.size; omega) hg
          have HT4 := Lib.hid ht4
          have HD5 := Lib.hid hd5
          have HG5 := Lib.hid hg5
          have HB5 := Lib.hid hb5
          have HT5 := Lib.hid ht5
          clear hd4 hd5 ht4 hg4 hg5 hb5 ht5 hb4 HT3 HG3 HB3 HD3 R35 R36 I35 I36
          refine wpAny_take (i := 10) (v := .pointer (some ⟨g, 0, none⟩)) rfl (by kernel_rfl) (by kernel_rfl) (by kernel_rfl) (fun _ _ _ h => h) (Or.inl ⟨by rfl, fun _ => by go_simp⟩) ?_
          go_simp
          refine wpAny_take (i := 11) (v := .pointer (some ⟨g, 0, none⟩)) rfl (by kernel_rfl) (by kernel_rfl) (by kernel_rfl) (fun _ _ _ h => h) (Or.inl ⟨by rfl, fun _ => by go_simp⟩) ?_
          go_simp
          refine wpAny_all (rs := [12]) (by kernel_rfl) (by simp) ?_
          intro i hi
          simp only [List.mem_cons, List.not_mem_nil, or_false] at hi
          subst hi
          refine wpOp_of_wp rfl (by rfl) ?_
          refine wp_store_mid 118 (.tmp 55) (.tmp 53) rfl g 0 (wcells (Sha.mix D'.s bl).list) (by rfl) (by rfl) HT4.out (by rw [wcells_size]; exact info35) (wcells_one _) ?_
          refine wpAny_done (by kernel_rfl) ?_ _
          rw [show (wcells (Sha.mix D'.s bl).list).toList = (Sha.mix D'.s bl).list.map V32 from rfl]
          clear HT4
          generalize w4.setCells g 0 ((Sha.mix D'.s bl).list.map V32) = w5 at *
          have c72 := HD5.out.at_ (by rw [List.getElem?_toArray]; exact dvals_72 _ _ _ _ HBL.out)
          have f72 := HD5.out.free 72
          go_wp2_with fail
          go_roundw
          case rel =>
            refine ⟨A2, n' - m, c' - m, rest.drop m, ⟨Sha.mix D'.s bl, bl, 0, D'.len⟩, rfl, by omega, by omega, bytes_setCell _ HB5.out, ⟨?_, ⟨HBL.out, by show 0 < 64; omega⟩, HG5.out.trans (grown_setCell _), tab_setCell _ hg HT5.out⟩, ?_⟩
            · exact whole_count _ _ _ 0 _ HBL.out HD5.out
            · have h1 := Sha.pushAll_full D' (rest.take m) HREL.out.ok.1 (by intro h0; have := HL.out; rw [h0] at this; simp at this; omega) (by rw [HL.out]; omega)
              rw [HBL2.out] at h1
              rw [← h1, ← Sha.Dg.pushAll_append, List.take_append_drop]
              exact HALL.out
          case measure =>
            simp [slen]
            omega
      · have q64 : (((D'.n : Int) + (m : Int)) == 64) = false := by rw [beq_eq_false_iff_ne]; omega
        go_wp2_with fail
        go_roundw
        case rel =>
          refine ⟨A2, n' - m, c' - m, rest.drop m, ⟨D'.s, Sha.lay D'.blk D'.n (rest.take m), D'.n + m, D'.len⟩, rfl, by omega, by omega, bytes_setCell _ HB2.out, ⟨?_, ⟨HBL.out, by show D'.n + m < 64; omega⟩, HG.out.trans (grown_setCell _), tab_setCell _ hg HTB.out⟩, ?_⟩
          · rw [HCAST.out]; exact whole_count _ _ _ _ _ HBL.out HD2.out
          · have h1 := Sha.pushAll_some D' (rest.take m) HREL.out.ok.1 (by rw [HL.out]; omega)
            rw [HL.out] at h1
            rw [← h1, ← Sha.Dg.pushAll_append, List.take_append_drop]
            exact HALL.out
        case measure =>
          simp [slen]
          omega
    · obtain rfl : n' = 0 := by omega
      have hr0 : rest = [] := List.eq_nil_of_length_eq_zero hB.1
      subst hr0
      have HE : Hid (D' = D.add bs) := hall
      have HREL := Lib.hid hrel
      clear hrel hall hB
      go_wp2_with fail
      go_end0
      exact ⟨rfl, HE.out ▸ HREL.out.dig, HREL.out.grown⟩
end Go.Proofs.YtehmkkccnadhoaaDoor.Sh
namespace Go.Proofs.YtehmkkccnadhoaaDoor.Sh
open Go.RowKit

namespace Sha
def Dg.relen (D : Dg) (x : UInt64) : Dg := ⟨D.s, D.blk, D.n, x⟩
theorem Dg.push_relen (D : Dg) (b : UInt8) (x : UInt64) : (D.relen x).push b = (D.push b).relen x := by
  unfold Dg.push Dg.relen
  simp only []
  split <;> rfl
theorem Dg.pushAll_relen (D : Dg) (l : List UInt8) (x : UInt64) : (D.relen x).pushAll l = (D.pushAll l).relen x := by
  induction l generalizing D with
  | nil => rfl
  | cons b r ih =>
    show ((D.relen x).push b).pushAll r = _
    rw [Dg.push_relen, ih]
    rfl
theorem Dg.add_eq (D : Dg) (l : List UInt8) : D.add l = (D.pushAll l).relen (D.len + UInt64.ofNat l.length) := Dg.pushAll_relen D l _
theorem Dg.ok_relen {D : Dg} (h : D.ok) (x : UInt64) : (D.relen x).ok := ⟨h.1, h.2⟩
theorem Dg.push_n (D : Dg) (b : UInt8) (h : D.n < 64) : (D.push b).n = (D.n + 1) % 64 := by
  unfold Dg.push
  split
  · rename_i h1; rw [h1]
  · rename_i h1; show D.n + 1 = _; rw [Nat.mod_eq_of_lt (by omega)]
theorem Dg.pushAll_n (D : Dg) (l : List UInt8) (h : D.ok) : (D.pushAll l).n = (D.n + l.length) % 64 := by
  induction l generalizing D with
  | nil => exact (Nat.mod_eq_of_lt h.2).symm
  | cons b r ih =>
    show ((D.push b).pushAll r).n = _
    rw [ih _ (Dg.ok_push h b), Dg.push_n D b h.2, List.length_cons]
    omega
theorem Dg.pushAll_snoc (D : Dg) (l : List UInt8) (b : UInt8) : D.pushAll (l ++ [b]) = (D.pushAll l).push b := by rw [Dg.pushAll_append]; rfl

def be8 (L : UInt64) : List UInt8 := (List.range 8).map fun i => (L >>> UInt64.ofNat (56 - 8 * i)).toUInt8
def zeros (n : Nat) : Nat := (119 - n % 64) % 64
def padding (n : Nat) (L : UInt64) : List UInt8 := (128 :: List.replicate (zeros n) 0) ++ be8 L
theorem be8_take (L : UInt64) (i : Nat) (h : i < 8) : (be8 L).take (i + 1) = (be8 L).take i ++ [(L >>> UInt64.ofNat (56 - 8 * i)).toUInt8] := by
  have hl : (be8 L).length = 8 := by simp [be8]
  rw [List.take_succ_eq_append_getElem (by omega)]
  simp [be8]
theorem be8_byte (L : UInt64) (i : Nat) (h : i < 8) : IntKind.u8.wrap ((L.toNat : Int) / 2 ^ (56 - 8 * i)) = ((L >>> UInt64.ofNat (56 - 8 * i)).toUInt8.toNat : Int) := by
  rw [IntKind.wrap_u8', UInt64.toNat_toUInt8, UInt64.toNat_shiftRight, UInt64.toNat_ofNat_of_lt' (show 56 - 8 * i < UInt64.size from Nat.lt_of_le_of_lt (Nat.sub_le _ _) (by decide)),
    Nat.mod_eq_of_lt (show 56 - 8 * i < 64 by omega), Nat.shiftRight_eq_div_pow, Int.natCast_emod, Int.natCast_ediv, Int.natCast_pow]
  rfl
end Sha

theorem add_one (g : Nat) (D : Sha.Dg) (hok : D.ok) (v : UInt8) (c : Int) (hc : c = (v.toNat : Int)) (w : World) (t : TypeId) (hD : Whole w g 121 (dcells D)) (ht : Tab w 2) (hw : 2 < w.heap.size) (hg : 2 ≠ g) :
    Calls Tryd.prog 54 #[.pointer (some ⟨g, 0, none⟩), .slice (some ⟨w.heap.size, 0, none⟩) 1 1] (w.alloc (.cells #[.int .u8 c] t)) fun e w' =>
      e = .returned (.tuple #[]) ∧ Whole w' g 121 (dcells ((D.push v).relen (D.len + 1))) ∧ w.grownBy w' (some g) := by
  subst hc
  have hga : w.grownBy (w.alloc (.cells #[.int .u8 (v.toNat : Int)] t)) (some g) := ⟨rfl, rfl, rfl, by simp, fun k hk _ => Below.heap_alloc w _ k hk⟩
  have hB : Bytes (w.alloc (.cells #[.int .u8 (v.toNat : Int)] t)) g (some ⟨w.heap.size, 0, none⟩) 1 [v] :=
    ⟨rfl, fun _ => ⟨w.heap.size, 0, rfl, fun e => by have := hD.lt; omega, by simp, fun j u hu => by
      have hj : j < 1 := (List.getElem?_eq_some_iff.1 hu).1
      obtain rfl : j = 0 := by omega
      simp at hu
      subst hu
      exact (Whole.made w t _).at_ rfl⟩⟩
  refine (add_any g D hok _ 1 1 [v] _ (hD.alloc _) hB (Nat.le_refl _) (by omega) (tab_grown ht hga hw hg) (by simp; omega) hg).mono ?_
  rintro e w' ⟨rfl, h1, h2⟩
  refine ⟨rfl, ?_, hga.trans h2⟩
  rw [Sha.Dg.add_eq] at h1
  exact h1

def PadPost (g : Nat) (D : Sha.Dg) (w w' : World) : Prop := ∃ x, Whole w' g 121 (dcells ((D.pushAll (Sha.padding D.n (D.len * 8))).relen x)) ∧ w.grownBy w' (some g)

/-- How it stands while the padding goes on: the bytes l have been taken in. -/
def PRel (g : Nat) (D : Sha.Dg) (w : World) (l : List UInt8) (wx : World) : Prop := ∃ x, Whole wx g 121 (dcells ((D.pushAll l).relen x)) ∧ w.grownBy wx (some g)

theorem wmul8_u64 (x : UInt64) : IntKind.u64.wrap ((x.toNat : Int) * 8) = ((x * 8).toNat : Int) := by
  rw [IntKind.wrap_u64, UInt64.toNat_mul]
  show _ = (((x.toNat * 8) % 18446744073709551616 : Nat) : Int)
  omega
theorem prel_step {g : Nat} {D : Sha.Dg} {w wx w' : World} {l : List UInt8} {x : UInt64} (v : UInt8) (hg : w.grownBy wx (some g))
    (h : Whole w' g 121 (dcells ((((D.pushAll l).relen x).push v).relen (x + 1))) ∧ wx.grownBy w' (some g)) : PRel g D w (l ++ [v]) w' := by
  refine ⟨x + 1, ?_, hg.trans h.2⟩
  rw [Sha.Dg.pushAll_snoc]
  rw [Sha.Dg.push_relen] at h
  exact h.1

set_option maxRecDepth 100000 in
set_option maxHeartbeats 1000000 in
theorem pad_any (g : Nat) (D : Sha.Dg) (hok : D.ok) (w : World) (hD : Whole w g 121 (dcells D)) (ht : Tab w 2) (hw : 2 < w.heap.size) (hg : 2 ≠ g) :
    Calls Tryd.prog 55 #[.pointer (some ⟨g, 0, none⟩)] w fun e w' => e = .returned (.tuple #[]) ∧ PadPost g D w w' := by
  have c73 := hD.at_ (by rw [dcells, List.getElem?_toArray]; exact dvals_73 _ _ _ _ hok.1)
  have HD := Lib.hid hD
  have Hok := Lib.hid hok
  have HT := Lib.hid ht
  clear hD hok ht
  have hL := wmul8_u64 D.len
  obtain ⟨L, hL2⟩ : ∃ L, D.len * 8 = L := ⟨_, rfl⟩
  rw [hL2] at hL
  have HL := Lib.hid hL2
  clear hL2
  go_enter Tryd.func55, Tryd.ntmps55
  go_wp2_with fail
  refine (add_one g D Hok.out 128 128 rfl w 5 HD.out HT.out hw hg).mono ?_
  rintro e w1 ⟨rfl, h1⟩
  have hs : PRel g D w (128 :: List.replicate 0 0) w1 := ⟨D.len + 1, h1.1, h1.2⟩
  have HS := Lib.hid hs
  clear hs h1 c73
  go_wp2_with fail
  go_loopg [12] (Sha.zeros D.n) (fun gk _ wx => ∃ j, j + gk = Sha.zeros D.n ∧ PRel g D w (128 :: List.replicate j 0) wx)
  case atStart => exact ⟨0, by omega, HS.out⟩
  case round =>
    clear HS
    obtain ⟨j, hj, x, hW, hG⟩ := hrel
    have hokp : ((D.pushAll (128 :: List.replicate j 0)).relen x).ok := Sha.Dg.ok_relen (Sha.Dg.ok_pushAll Hok.out _) _
    have hn : ((D.pushAll (128 :: List.replicate j 0)).relen x).n = (D.n + (j + 1)) % 64 := by
      show (D.pushAll (128 :: List.replicate j 0)).n = _
      rw [Sha.Dg.pushAll_n _ _ Hok.out]
      simp
    have c72 := hW.at_ (by rw [dcells, List.getElem?_toArray]; exact dvals_72 _ _ _ _ hokp.1)
    rw [hn] at c72
    have hz : Sha.zeros D.n = (119 - D.n % 64) % 64 := rfl
    have hD64 := Hok.out.2
    cases gk with
    | zero =>
      have q56 : ((((D.n + (j + 1)) % 64 : Nat) : Int) != 56) = false := by
        rw [bne_eq_false_iff_eq]; omega
      obtain rfl : j = Sha.zeros D.n := by omega
      have hs : PRel g D w ((128 :: List.replicate (Sha.zeros D.n) 0) ++ (Sha.be8 L).take 0) wr := by
        rw [List.take_zero, List.append_nil]; exact ⟨x, hW, hG⟩
      have HS := Lib.hid hs
      clear hs hW hG hokp hn hz hj
      generalize (D.n + (Sha.zeros D.n + 1)) % 64 = N at *
      go_wp2_with fail
      clear c72 q56
      go_loopg [3] 8 (fun gk s3 wx => ∃ i, i + gk = 8 ∧ s3 = .int .i64 (56 - 8 * (i : Int)) ∧ PRel g D w ((128 :: List.replicate (Sha.zeros D.n) 0) ++ (Sha.be8 L).take i) wx)
      case atStart => exact ⟨0, by omega, rfl, HS.out⟩
      case round =>
        clear HS
        obtain ⟨i, hi, rfl, x, hW, hG⟩ := hrel
        cases gk with
        | zero =>
          obtain rfl : i = 8 := by omega
          have hfin : PadPost g D w wr := ⟨x, by rw [HL.out]; exact hW, hG⟩
          have HF := Lib.hid hfin
          clear hfin hW hG
          go_wp2_with fail
          go_end0
          exact ⟨rfl, HF.out⟩
        | succ gn =>
          have hi8 : i < 8 := by omega
          have hok2 := Sha.Dg.ok_relen (Sha.Dg.ok_pushAll Hok.out ((128 :: List.replicate (Sha.zeros D.n) 0) ++ (Sha.be8 L).take i)) x
          obtain ⟨v, hv⟩ : ∃ v, (L >>> UInt64.ofNat (56 - 8 * i)).toUInt8 = v := ⟨_, rfl⟩
          have hbyte := Sha.be8_byte L i hi8
          rw [hv] at hbyte
          have HV := Lib.hid hv
          clear hv
          have hsh : (56 - 8 * (i : Int)).toNat = 56 - 8 * i := by omega
          have z0 : 0 ≤ 56 - 8 * (i : Int) := by omega
          have z1 : 56 - 8 * (i : Int) ≤ 64 := by omega
          have HW := Lib.hid hW
          have HG := Lib.hid hG
          have HOK := Lib.hid hok2
          have HT2 := Lib.hid (tab_grown HT.out hG hw hg)
          have hw2 : 2 < wr.heap.size := by have := hG.size; omega
          clear hW hG hok2
          go_wp2_with fail
          refine (add_one g _ HOK.out v _ rfl _ 5 HW.out HT2.out hw2 hg).mono ?_
          rintro e w2 ⟨rfl, h2⟩
          clear hbyte
          go_wp2_with fail
          go_roundg gn
          case measure => omega
          case rel =>
            refine ⟨i + 1, by omega, congrArg (Value.int .i64) (by omega), ?_⟩
            rw [Sha.be8_take L i hi8, HV.out, ← List.append_assoc]
            exact prel_step v HG.out h2
    | succ gn =>
      have q56 : ((((D.n + (j + 1)) % 64 : Nat) : Int) != 56) = true := by
        rw [bne_iff_ne]; omega
      have HW := Lib.hid hW
      have HG := Lib.hid hG
      have HOK := Lib.hid hokp
      have HZ := Lib.hid hz
      have HJ := Lib.hid hj
      have HT2 := Lib.hid (tab_grown HT.out hG hw hg)
      have hw2 : 2 < wr.heap.size := by have := hG.size; omega
      clear hW hG hokp hn hz hj
      generalize (D.n + (j + 1)) % 64 = N at *
      go_wp2_with fail
      refine (add_one g _ HOK.out 0 0 rfl _ 5 HW.out HT2.out hw2 hg).mono ?_
      rintro e w2 ⟨rfl, h2⟩
      go_wp2_with fail
      go_roundg gn
      case measure => omega
      case rel =>
        refine ⟨j + 1, by have := HJ.out; omega, ?_⟩
        rw [List.replicate_succ', ← List.cons_append]
        exact prel_step 0 HG.out h2
end Go.Proofs.YtehmkkccnadhoaaDoor.Sh
namespace Go.Proofs.YtehmkkccnadhoaaDoor.Sh
open Go.RowKit
namespace Sha
def b24 (x : UInt32) : UInt8 := (x >>> 24).toUInt8
def b16 (x : UInt32) : UInt8 := (x >>> 16).toUInt8
def b8 (x : UInt32) : UInt8 := (x >>> 8).toUInt8
def b0 (x : UInt32) : UInt8 := x.toUInt8
def outTo (l : List UInt32) : Nat → List UInt8
  | 0 => List.replicate 32 0
  | k + 1 => ((((outTo l k).set (4 * k) (b24 (l.getD k 0))).set (4 * k + 1) (b16 (l.getD k 0))).set (4 * k + 2) (b8 (l.getD k 0))).set (4 * k + 3) (b0 (l.getD k 0))
theorem outTo_length (l : List UInt32) (k : Nat) : (outTo l k).length = 32 := by
  induction k with
  | zero => rfl
  | succ k ih => simp [outTo, ih]
def out (s : St) : List UInt8 := outTo s.list 8
theorem byte_shr (x : UInt32) (n : Nat) (h : n < 32) : IntKind.u8.wrap ((x.toNat : Int) / 2 ^ n) = ((x >>> UInt32.ofNat n).toUInt8.toNat : Int) := by
  rw [IntKind.wrap_u8', shr_u32 x n h, UInt32.toNat_toUInt8]
  omega
theorem byte24 (x : UInt32) : IntKind.u8.wrap ((x.toNat : Int) / 16777216) = ((b24 x).toNat : Int) := byte_shr x 24 (by omega)
theorem byte16 (x : UInt32) : IntKind.u8.wrap ((x.toNat : Int) / 65536) = ((b16 x).toNat : Int) := byte_shr x 16 (by omega)
theorem byte8 (x : UInt32) : IntKind.u8.wrap ((x.toNat : Int) / 256) = ((b8 x).toNat : Int) := byte_shr x 8 (by omega)
theorem byte0 (x : UInt32) : IntKind.u8.wrap (x.toNat : Int) = ((b0 x).toNat : Int) := by
  rw [IntKind.wrap_u8', b0, UInt32.toNat_toUInt8]; omega
end Sha
theorem info25 : (Tryd.prog.info? 44).map (·.size) = some 32 := by kernel_rfl

structure HRel (w : World) (l : List UInt32) (k : Nat) (wx : World) : Prop where
  res : Whole wx w.heap.size 44 (bcells (List.replicate 32 0))
  out : Whole wx (w.heap.size + 1) 44 (bcells (Sha.outTo l k))
  bel : Below w.heap.size w wx

theorem hrel_start (w : World) (l : List UInt32) (Z : Array Value) (hZ : Z = bcells (List.replicate 32 0)) : HRel w l 0 ((w.alloc (.cells Z 44)).alloc (.cells Z 44)) := by
  subst hZ
  refine ⟨(Whole.made _ _ _).alloc _, ?_, ((Below.refl _ _).alloc (by simp) _).alloc (by simp) _⟩
  have := Whole.made (w.alloc (.cells (bcells (List.replicate 32 0)) 44)) 44 (bcells (List.replicate 32 0))
  rw [show (w.alloc (.cells (bcells (List.replicate 32 0)) 44)).heap.size = w.heap.size + 1 by simp] at this
  exact this
theorem hrel_step (w wx : World) (l : List UInt32) (k : Nat) (h : HRel w l k wx) :
    HRel w l (k + 1) ((((wx.setCell ⟨w.heap.size + 1, 4 * k, none⟩ (.int .u8 (Sha.b24 (l.getD k 0)).toNat)).setCell ⟨w.heap.size + 1, 4 * k + 1, none⟩ (.int .u8 (Sha.b16 (l.getD k 0)).toNat)).setCell
      ⟨w.heap.size + 1, 4 * k + 2, none⟩ (.int .u8 (Sha.b8 (l.getD k 0)).toNat)).setCell ⟨w.heap.size + 1, 4 * k + 3, none⟩ (.int .u8 (Sha.b0 (l.getD k 0)).toNat)) := by
  have hne : w.heap.size ≠ w.heap.size + 1 := by omega
  refine ⟨(((h.res.other hne _).other hne _).other hne _).other hne _, ?_, (((h.bel.setCell (by show _ ≤ w.heap.size + 1; omega) _).setCell (by show _ ≤ w.heap.size + 1; omega) _).setCell (by show _ ≤ w.heap.size + 1; omega) _).setCell (by show _ ≤ w.heap.size + 1; omega) _⟩
  have := (((h.out.set (4 * k) (.int .u8 (Sha.b24 (l.getD k 0)).toNat)).set (4 * k + 1) (.int .u8 (Sha.b16 (l.getD k 0)).toNat)).set (4 * k + 2) (.int .u8 (Sha.b8 (l.getD k 0)).toNat)).set (4 * k + 3) (.int .u8 (Sha.b0 (l.getD k 0)).toNat)
  rw [bcells_set, bcells_set, bcells_set, bcells_set] at this
  exact this

set_option maxRecDepth 100000 in
set_option maxHeartbeats 1000000 in
theorem hash_any (g : Nat) (D : Sha.Dg) (w : World) (hD : Whole w g 121 (dcells D)) :
    Calls Tryd.prog 56 #[.pointer (some ⟨g, 0, none⟩)] w fun e w' => e = .returned (.agg (bcells (Sha.out D.s))) ∧ Below w.heap.size w w' := by
  have HD := Lib.hid hD
  clear hD
  go_enter Tryd.func56, Tryd.ntmps56
  go_upto_region 2 with (fail)
  have hs := hrel_start w D.s.list _ rfl
  have hd2 : Whole ((w.alloc (.cells (bcells (List.replicate 32 0)) 44)).alloc (.cells (bcells (List.replicate 32 0)) 44)) g 121 (dcells D) := (HD.out.alloc _).alloc _
  rw [show bcells (List.replicate 32 0) = #[Value.int .u8 0, .int .u8 0, .int .u8 0, .int .u8 0, .int .u8 0, .int .u8 0, .int .u8 0, .int .u8 0, .int .u8 0, .int .u8 0, .int .u8 0, .int .u8 0, .int .u8 0, .int .u8 0, .int .u8 0, .int .u8 0, .int .u8 0, .int .u8 0, .int .u8 0, .int .u8 0, .int .u8 0, .int .u8 0, .int .u8 0, .int .u8 0, .int .u8 0, .int .u8 0, .int .u8 0, .int .u8 0, .int .u8 0, .int .u8 0, .int .u8 0, .int .u8 0] from rfl] at hd2 hs
  generalize (w.alloc (.cells _ 44)).alloc (.cells _ 44) = w2 at hs hd2 ⊢
  have HS := Lib.hid hs
  have HR := Lib.hid (range_words _ _ _ _ hd2)
  clear hs hd2
  refine wp_region_lit ?_
  iterate 9 go_step
  refine wpList_load_mid rfl 118 (.tmp 8) rfl g 0 ?_ (D.s.list.map V32) (.array 8 117) HR.out Tryd.underlying118 rfl info35 ?_
  · rfl
  rw [← wcells_V]
  go_wp2_with fail
  go_loopw [10] (fun i wx => ∃ k : Nat, k ≤ 8 ∧ i = .int .i64 k ∧ HRel w D.s.list k wx) (fun i _ => 8 - (intOf i).toNat)
  case atStart => exact ⟨0, by omega, rfl, HS.out⟩
  case round =>
    clear HS HR
    obtain ⟨k, hk, rfl, hrel⟩ := hrel
    by_cases hlt : k < 8
    · have c0 := hrel.out.at_ (bcells_at _ (4 * k) (by rw [Sha.outTo_length]; omega))
      have c1 := hrel.out.at_ (bcells_at _ (4 * k + 1) (by rw [Sha.outTo_length]; omega))
      have c2 := hrel.out.at_ (bcells_at _ (4 * k + 2) (by rw [Sha.outTo_length]; omega))
      have c3 := hrel.out.at_ (bcells_at _ (4 * k + 3) (by rw [Sha.outTo_length]; omega))
      have f0 := hrel.out.free (4 * k)
      have f1 := hrel.out.free (4 * k + 1)
      have f2 := hrel.out.free (4 * k + 2)
      have f3 := hrel.out.free (4 * k + 3)
      have hix : (wcells D.s.list)[k]? = some (.int .u32 (D.s.list.getD k 0).toNat) := wcells_at _ k hlt
      have H := Lib.hid (hrel_step w wr D.s.list k hrel)
      clear hrel
      generalize D.s.list.getD k 0 = y at *
      generalize wcells D.s.list = R at *
      have hrun := run_index35 R k y.toNat hlt hix
      clear hix
      have e24 := Sha.byte24 y
      have e16 := Sha.byte16 y
      have e8 := Sha.byte8 y
      have e0 := Sha.byte0 y
      generalize Sha.b24 y = v24 at *
      generalize Sha.b16 y = v16 at *
      generalize Sha.b8 y = v8 at *
      generalize Sha.b0 y = v0 at *
      have k8 : (k : Int) < 8 := by omega
      go_wp2_with fail
      go_roundw
      case rel => exact ⟨k + 1, by omega, by go_num, H.out⟩
      case measure => simp [intOf]; omega
    · obtain rfl : k = 8 := by omega
      have hlen : (bcells (Sha.outTo D.s.list 8)).size = 32 := by rw [bcells_size, Sha.outTo_length]
      have hi : (Tryd.prog.info? 44).map (·.size) = some (bcells (Sha.outTo D.s.list 8)).toList.length := by rw [Array.length_toList, hlen]; exact info25
      have hth : wr.there w.heap.size 0 (bcells (Sha.outTo D.s.list 8)).size := by
        have := hrel.res.there_
        rwa [bcells_size, List.length_replicate, ← hlen] at this
      have hone := bcells_one (Sha.outTo D.s.list 8)
      have hlo := hrel.out.range
      have hbel := hrel.bel
      have hS : bcells (Sha.out D.s) = bcells (Sha.outTo D.s.list 8) := rfl
      have HS := Lib.hid hS
      clear hrel hS
      generalize bcells (Sha.outTo D.s.list 8) = W at *
      have HI := Lib.hid hi
      have HLO := Lib.hid hlo
      have HTH := Lib.hid hth
      have HONE := Lib.hid hone
      clear hi hlen hth hlo hone
      go_upto_region 10 with (fail)
      refine wp_region_lit ?_
      refine wpList_load_mid rfl 44 (.tmp 3) rfl (w.heap.size + 1) 0 ?_ W.toList (.array 32 5) HLO.out Tryd.underlying44 rfl HI.out ?_
      · rfl
      rw [Array.toArray_toList]
      refine wpList_store_mid rfl 44 (.tmp 2) (.tmp 41) rfl w.heap.size 0 W ?_ ?_ HTH.out ?_ HONE.out ?_
      · rfl
      · rfl
      · rw [HI.out, Array.length_toList]
      go_wp2_with fail
      refine bodyPost_ret (v := .agg W) ?_ rfl ⟨by rw [HS.out], below_setCells _ _ _ _ hbel (Nat.le_refl _)⟩
      rw [results_cell1 (p := 2) (ty := 44) Tryd.results56]
      have hr : (loadVar 44 ⟨w.heap.size, 0, none⟩).run Tryd.prog (wr.setCells w.heap.size 0 W.toList) = .ok (.agg W.toList.toArray) _ :=
        run_loadVar_mid _ w.heap.size 0 44 W.toList (.array 32 5) (World.rangeAt_setCells_same _ _ _ _ (by rw [Array.length_toList]; exact HTH.out)) Tryd.underlying44 rfl HI.out
      rw [Array.toArray_toList] at hr
      exact hr
end Go.Proofs.YtehmkkccnadhoaaDoor.Sh
namespace Go.Proofs.YtehmkkccnadhoaaDoor.Sh
open Go.RowKit
def Sha.dg0 : Sha.Dg := ⟨Sha.init, List.replicate 64 0, 0, 0⟩
theorem info39 : (Tryd.prog.info? 121).map (·.size) = some 74 := by kernel_rfl

def zd : Array Value := dcells ⟨⟨0, 0, 0, 0, 0, 0, 0, 0⟩, List.replicate 64 0, 0, 0⟩
theorem zero39 : ∀ w, (zeroValue 121).run Tryd.prog w = .ok (.agg zd) w := (zero_of_info (P := Tryd.prog) (t := 121) (v := .agg zd) (n := 74) (by kernel_rfl)).1

set_option maxRecDepth 100000 in
set_option maxHeartbeats 1000000 in
theorem start_any (w : World) : Calls Tryd.prog 53 #[] w fun e w' => e = .returned (.agg (dcells Sha.dg0)) ∧ Below w.heap.size w w' := by
  have hz := zero39
  have hq : ¬ zd.size < 8 := by
    rw [show zd.size = 74 from by kernel_rfl]; omega
  have hset : (((((((zd.setIfInBounds 0 (Value.int IntKind.u32 1779033703)).setIfInBounds 1 (Value.int IntKind.u32 3144134277)).setIfInBounds 2 (Value.int IntKind.u32 1013904242)).setIfInBounds 3 (Value.int IntKind.u32 2773480762)).setIfInBounds
      4 (Value.int IntKind.u32 1359893119)).setIfInBounds 5 (Value.int IntKind.u32 2600822924)).setIfInBounds 6 (Value.int IntKind.u32 528734635)).setIfInBounds 7 (Value.int IntKind.u32 1541459225) = dcells Sha.dg0 := by kernel_rfl
  go_enter Tryd.func53, Tryd.ntmps53
  go_upto_region 1 with (fail)
  refine wp_region_lit ?_
  iterate 6 go_step
  have hone : (dcells Sha.dg0).all (·.oneCell') = true := by kernel_rfl
  have hsz : (dcells Sha.dg0).size = 74 := by kernel_rfl
  have hzz : zd.size = 74 := by kernel_rfl
  refine wpList_store_made rfl 121 (.tmp 0) (.tmp 2) rfl zd (dcells Sha.dg0) ?_ ?_ ?_ ?_ hone ?_
  · rfl
  · rfl
  · rw [hsz]; exact info39
  · rw [hsz, hzz]
  clear hz hq hset hone hzz
  go_wp2_with fail
  refine bodyPost_ret (v := .agg (dcells Sha.dg0)) ?_ rfl ⟨rfl, (Below.refl _ _).alloc (Nat.le_refl _) _⟩
  rw [results_cell1 (p := 0) (ty := 121) Tryd.results53]
  have hr : (loadVar 121 ⟨w.heap.size, 0, none⟩).run Tryd.prog (w.alloc (.cells (dcells Sha.dg0) 121)) = .ok (.agg (dcells Sha.dg0).toList.toArray) _ :=
    run_loadVar_mid _ w.heap.size 0 121 (dcells Sha.dg0).toList _ (Whole.made _ _ _).range Tryd.underlying121 rfl (by rw [Array.length_toList, hsz]; exact info39)
  rw [Array.toArray_toList] at hr
  exact hr
end Go.Proofs.YtehmkkccnadhoaaDoor.Sh
namespace Go.Proofs.YtehmkkccnadhoaaDoor.Sh
open Go.RowKit

/-- The sum of bytes. -/
def Sha.sum (bs : List UInt8) : List UInt8 := Sha.out (Sha.dg0.pushAll (bs ++ Sha.padding bs.length (UInt64.ofNat bs.length * 8))).s

/-- The slice with address A and n elements reads as the bytes bs. -/
def Reads (w : World) (A : Option Addr) (n : Nat) (bs : List UInt8) : Prop :=
  bs.length = n ∧ (0 < n → ∃ b o, A = some ⟨b, o, none⟩ ∧ b < w.heap.size ∧ ∀ j v, bs[j]? = some v → w.cell? ⟨b, o + j, none⟩ = some (V8 v))
/-- The slice with address A and n elements holds slices that read as the lists ls. -/
def Parts (w : World) (A : Option Addr) (n : Nat) (ls : List (List UInt8)) : Prop :=
  ls.length = n ∧ (0 < n → ∃ b o, A = some ⟨b, o, none⟩ ∧ b < w.heap.size ∧
    ∀ j l, ls[j]? = some l → ∃ A' n' c', w.cell? ⟨b, o + j, none⟩ = some (.slice A' n' c') ∧ n' ≤ c' ∧ n' ≤ 140737488355328 ∧ Reads w A' n' l)

theorem Reads.below {w w' : World} {A : Option Addr} {n : Nat} {bs : List UInt8} (h : Reads w A n bs) (hb : Below w.heap.size w w') : Reads w' A n bs :=
  ⟨h.1, fun hn => by
    obtain ⟨b, o, h1, h2, h3⟩ := h.2 hn
    exact ⟨b, o, h1, Nat.lt_of_lt_of_le h2 hb.size, fun j v hv => by rw [hb.cell (p := ⟨b, o + j, none⟩) h2]; exact h3 j v hv⟩⟩
theorem Reads.bytes {w w' : World} {A : Option Addr} {n g : Nat} {bs : List UInt8} (h : Reads w A n bs) (hb : Below w.heap.size w w') (hg : w.heap.size ≤ g) : Bytes w' g A n bs :=
  ⟨h.1, fun hn => by
    obtain ⟨b, o, h1, h2, h3⟩ := h.2 hn
    exact ⟨b, o, h1, by omega, Nat.lt_of_lt_of_le h2 hb.size, fun j v hv => by rw [hb.cell (p := ⟨b, o + j, none⟩) h2]; exact h3 j v hv⟩⟩
theorem Parts.below {w w' : World} {A : Option Addr} {n : Nat} {ls : List (List UInt8)} (h : Parts w A n ls) (hb : Below w.heap.size w w') : Parts w' A n ls :=
  ⟨h.1, fun hn => by
    obtain ⟨b, o, h1, h2, h3⟩ := h.2 hn
    exact ⟨b, o, h1, Nat.lt_of_lt_of_le h2 hb.size, fun j l hl => by
      obtain ⟨A', n', c', k1, k2, k3, k4⟩ := h3 j l hl
      exact ⟨A', n', c', by rw [hb.cell (p := ⟨b, o + j, none⟩) h2]; exact k1, k2, k3, k4.below hb⟩⟩⟩
theorem tab_below {w w' : World} (h : Tab w 2) (hb : Below w.heap.size w w') (hw : 2 < w.heap.size) : Tab w' 2 := fun j hj => by
  rw [hb.cell (p := ⟨2, j, none⟩) hw]; exact h j hj

theorem dg0_ok : Sha.dg0.ok := ⟨rfl, by show 0 < 64; omega⟩
theorem ofNat_add64 (a b : Nat) : UInt64.ofNat a + UInt64.ofNat b = UInt64.ofNat (a + b) := by
  rw [UInt64.ofNat_add]

/-- How it stands behind k parts. -/
structure SumRel (w : World) (M : Nat) (ls : List (List UInt8)) (k : Nat) (wx : World) : Prop where
  dig : Whole wx M 121 (dcells ((Sha.dg0.pushAll (ls.take k).flatten).relen (UInt64.ofNat (ls.take k).flatten.length)))
  res : Whole wx w.heap.size 44 (bcells (List.replicate 32 0))
  low : w.heap.size < M
  bel : Below w.heap.size w wx

theorem sumrel_start (w w1 : World) (ls : List (List UInt8)) (Z : Array Value) (hZ : Z = bcells (List.replicate 32 0)) (hb : Below (w.alloc (.cells Z 44)).heap.size (w.alloc (.cells Z 44)) w1) :
    SumRel w w1.heap.size ls 0 (w1.alloc (.cells (dcells Sha.dg0) 121)) := by
  subst hZ
  have hs : (w.alloc (.cells (bcells (List.replicate 32 0)) 44)).heap.size = w.heap.size + 1 := by simp
  have hs1 := hb.size
  have hbel : Below w.heap.size w w1 := ((Below.refl _ _).alloc (Nat.le_refl _) _).trans (hb.mono (by omega))
  exact ⟨Whole.made _ _ _, ((Whole.made w 44 _).below hb (by omega)).alloc _, by omega, hbel.alloc (by omega) _⟩
theorem take_flatten (ls : List (List UInt8)) (k : Nat) (l : List UInt8) (h : ls[k]? = some l) : (ls.take (k + 1)).flatten = (ls.take k).flatten ++ l := by
  rw [List.take_add_one, h]
  simp
theorem sumrel_step {w wx w' : World} {M k : Nat} {ls : List (List UInt8)} {l : List UInt8} (h : SumRel w M ls k wx) (hl : ls[k]? = some l)
    (h1 : Whole w' M 121 (dcells (((Sha.dg0.pushAll (ls.take k).flatten).relen (UInt64.ofNat (ls.take k).flatten.length)).add l))) (h2 : wx.grownBy w' (some M)) : SumRel w M ls (k + 1) w' := by
  have hlow := h.low
  refine ⟨?_, (h2.block _ h.res.lt (fun e => by injection e with e; omega)).trans h.res, h.low, ?_⟩
  · rw [take_flatten ls k l hl, List.length_append, ← ofNat_add64, Sha.Dg.pushAll_append]
    rw [Sha.Dg.add_eq, Sha.Dg.pushAll_relen] at h1
    exact h1
  · exact ⟨h2.os.trans h.bel.os, h2.tape.trans h.bel.tape, h2.output.trans h.bel.output, Nat.le_trans h.bel.size h2.size, fun i hi => (h2.block i (Nat.lt_of_lt_of_le hi h.bel.size) (fun e => by injection e with e; omega)).trans (h.bel.block i hi)⟩
theorem padding_mod (n : Nat) (L : UInt64) : Sha.padding (n % 64) L = Sha.padding n L := by
  unfold Sha.padding Sha.zeros
  rw [Nat.mod_mod]

theorem sum_final (bs : List UInt8) (x : UInt64) :
    Sha.out ((((Sha.dg0.pushAll bs).relen (UInt64.ofNat bs.length)).pushAll (Sha.padding ((Sha.dg0.pushAll bs).relen (UInt64.ofNat bs.length)).n (((Sha.dg0.pushAll bs).relen (UInt64.ofNat bs.length)).len * 8))).relen x).s = Sha.sum bs := by
  have hn : ((Sha.dg0.pushAll bs).relen (UInt64.ofNat bs.length)).n = bs.length % 64 := by
    show (Sha.dg0.pushAll bs).n = _
    rw [Sha.Dg.pushAll_n _ _ dg0_ok]
    show (0 + bs.length) % 64 = _
    rw [Nat.zero_add]
  have hlen : ((Sha.dg0.pushAll bs).relen (UInt64.ofNat bs.length)).len = UInt64.ofNat bs.length := rfl
  rw [hn, hlen, padding_mod, Sha.Dg.pushAll_relen, ← Sha.Dg.pushAll_append]
  rfl
set_option maxRecDepth 100000 in
set_option maxHeartbeats 1000000 in
theorem sum_any (A : Option Addr) (n c : Nat) (ls : List (List UInt8)) (w : World) (hP : Parts w A n ls) (hn : n ≤ 140737488355328) (ht : Tab w 2) (hw : 2 < w.heap.size) :
    Calls Tryd.prog 31 #[.slice A n c] w fun e w' => e = .returned (.agg (bcells (Sha.sum ls.flatten))) ∧ Below w.heap.size w w' := by
  have HP := Lib.hid hP
  have HT := Lib.hid ht
  clear hP ht
  have hz := zero39
  go_enter Tryd.func31, Tryd.ntmps31
  go_wp2_with fail
  refine (start_any _).mono ?_
  rintro e w1 ⟨rfl, hb1⟩
  simp only []
  iterate 4 go_step
  have hs := sumrel_start w w1 ls _ rfl hb1
  have hM := hs.low
  clear hb1
  refine wpList_store_made rfl 121 (.tmp 3) (.tmp 6) rfl zd (dcells Sha.dg0) ?_ ?_ ?_ ?_ (by kernel_rfl) ?_
  · rfl
  · rfl
  · rw [show (dcells Sha.dg0).size = 74 by kernel_rfl]; exact info39
  · kernel_rfl
  generalize w1.alloc (.cells (dcells Sha.dg0) 121) = w2 at *
  generalize w1.heap.size = M at *
  have HS := Lib.hid hs
  clear hs hz
  go_wp2_with fail
  go_loopw [9] (fun i wx => ∃ k : Nat, k ≤ n ∧ i = .int .i64 k ∧ SumRel w M ls k wx) (fun i _ => n - (intOf i).toNat)
  case atStart => exact ⟨0, by omega, rfl, HS.out⟩
  case round =>
    clear HS
    obtain ⟨k, hk, rfl, hrel⟩ := hrel
    have hok := Sha.Dg.ok_relen (Sha.Dg.ok_pushAll dg0_ok (ls.take k).flatten) (UInt64.ofNat (ls.take k).flatten.length)
    have hM1 : 2 ≠ M := by omega
    have ht2 := tab_below HT.out hrel.bel hw
    have hw2 : 2 < wr.heap.size := by have := hrel.bel.size; omega
    have HOK := Lib.hid hok
    have HT2 := Lib.hid ht2
    clear hok ht2
    by_cases hlt : k < n
    · obtain ⟨b, o, rfl, hb, hall⟩ := HP.out.2 (by omega)
      obtain ⟨l, hl⟩ : ∃ l, ls[k]? = some l := ⟨ls[k]'(by rw [HP.out.1]; exact hlt), List.getElem?_eq_getElem _⟩
      obtain ⟨A', n', c', hc, hnc, hcc, hr⟩ := hall k l hl
      have hc2 := (hrel.bel.cell (p := ⟨b, o + k, none⟩) hb).trans hc
      have HB := Lib.hid (hr.bytes hrel.bel (g := M) (by omega))
      have HREL := Lib.hid hrel
      have HLL := Lib.hid hl
      clear hrel hl hc hr hall
      go_wp2_with fail
      refine (add_any M _ HOK.out A' n' c' l _ HREL.out.dig HB.out hnc hcc HT2.out hw2 hM1).mono ?_
      rintro e w3 ⟨rfl, h3⟩
      go_wp2_with fail
      go_roundw
      case rel => exact ⟨k + 1, by omega, by go_num, sumrel_step HREL.out HLL.out h3.1 h3.2⟩
      case measure => simp [intOf]; omega
    · obtain rfl : k = n := by omega
      have htk : ls.take k = ls := List.take_of_length_le (by rw [HP.out.1]; exact Nat.le_refl _)
      have hdig := hrel.dig
      rw [htk] at hdig HOK
      clear htk
      have HDIG := Lib.hid hdig
      have HREL := Lib.hid hrel
      clear hrel hdig
      go_wp2_with fail
      refine (pad_any M _ HOK.out _ HDIG.out HT2.out hw2 hM1).mono ?_
      rintro e w3 ⟨rfl, x, h3, hg3⟩
      have HG3 := Lib.hid hg3
      clear hg3
      go_wp2_with fail
      refine (hash_any M _ _ h3).mono ?_
      rintro e w4 ⟨rfl, hb4⟩
      rw [sum_final] 
      have hres : Whole w4 w.heap.size 44 (bcells (List.replicate 32 0)) := by
        have h5 : Whole w3 w.heap.size 44 (bcells (List.replicate 32 0)) := (HG3.out.block _ HREL.out.res.lt (fun e => by injection e with e; omega)).trans HREL.out.res
        exact h5.below hb4 h5.lt
      have hbel : Below w.heap.size w w4 := by
        have h6 : Below w.heap.size w w3 := ⟨HG3.out.os.trans HREL.out.bel.os, HG3.out.tape.trans HREL.out.bel.tape, HG3.out.output.trans HREL.out.bel.output, Nat.le_trans HREL.out.bel.size HG3.out.size,
          fun i hi => (HG3.out.block i (Nat.lt_of_lt_of_le hi HREL.out.bel.size) (fun e => by injection e with e; omega)).trans (HREL.out.bel.block i hi)⟩
        exact h6.trans (hb4.mono h6.size)
      have hlen : (bcells (Sha.sum ls.flatten)).size = 32 := by rw [bcells_size]; exact Sha.outTo_length _ _
      have hone := bcells_one (Sha.sum ls.flatten)
      have hth : w4.there w.heap.size 0 (bcells (Sha.sum ls.flatten)).size := by
        have := hres.there_
        rwa [bcells_size, List.length_replicate, ← hlen] at this
      clear h3 hb4 HG3 HREL HDIG HT2 HOK hres
      generalize hW : bcells (Sha.sum ls.flatten) = W at *
      have HW := Lib.hid hW
      have HTH := Lib.hid hth
      have HONE := Lib.hid hone
      have HLEN := Lib.hid hlen
      clear hW hth hone hlen
      simp only []
      go_step
      refine wpList_store_mid rfl 44 (.tmp 2) (.tmp 17) rfl w.heap.size 0 W ?_ ?_ HTH.out ?_ HONE.out ?_
      · rfl
      · rfl
      · rw [HLEN.out]; exact info25
      go_wp2_with fail
      refine bodyPost_ret (v := .agg W) ?_ rfl ⟨by rw [HW.out], below_setCells _ _ _ _ hbel (Nat.le_refl _)⟩
      rw [results_cell1 (p := 2) (ty := 44) Tryd.results31]
      have hr : (loadVar 44 ⟨w.heap.size, 0, none⟩).run Tryd.prog (w4.setCells w.heap.size 0 W.toList) = .ok (.agg W.toList.toArray) _ :=
        run_loadVar_mid _ w.heap.size 0 44 W.toList (.array 32 5) (World.rangeAt_setCells_same _ _ _ _ (by rw [Array.length_toList]; exact HTH.out)) Tryd.underlying44 rfl (by rw [Array.length_toList, HLEN.out]; exact info25)
      rw [Array.toArray_toList] at hr
      exact hr
end Go.Proofs.YtehmkkccnadhoaaDoor.Sh
