/-
  The sum of bytes (SHA-256) as plain functions on lists, and what they give at the chapter's two examples: no condition.
  Words of 32 bits: what the walk spells with whole numbers is what Lean's own UInt32 does: no condition but a shift's range.
  What bits.RotateLeft32, sha.turned and sha.moved return: no condition; the world stands.
  A block of memory that is known cell by cell: small facts that the walks lean on; bytes and words as cells: no condition.
  What sha.schedule returns for a block of 64 bytes: the 64 words that the chapter says; no condition but the block's length; it only makes memory of its own.
  What sha.mix returns for eight words and a block of 64 bytes: the eight words behind the block, as the chapter says; conditions: the block's length, and that the package's table holds its 64 words. It only makes memory of its own.
  The running sum (eight words, a block that is being filled, its count, the length) as plain data, byte by byte; how it lies in memory; that filling a stretch at once is filling it byte by byte: no condition but the block's length.
-/
import Derived.KernelRfl
import Derived.Laws.BitsAllLaws
import Derived.Test.YtolkpjbbfopmnaaDoorProg
import Derived.WalkKit
import Derived.WalkSpells
import Derived.Lib.Hide
import Derived.Deep.WholeRow
import Derived.Deep.MidRow
import Derived.Deep.Draws
import Derived.StillTailTactics
import Derived.IntWalk
import Derived.Deep.DeepCutAuto
namespace Go.Proofs.YtolkpjbbfopmnaaDoor.Sh.Sha

/-- The table of the third roots' bits. -/
def kk : List UInt32 := [1116352408, 1899447441, 3049323471, 3921009573, 961987163, 1508970993, 2453635748, 2870763221, 3624381080, 310598401, 607225278, 1426881987, 1925078388, 2162078206, 2614888103, 3248222580, 3835390401, 4022224774, 264347078, 604807628, 770255983, 1249150122, 1555081692, 1996064986, 2554220882, 2821834349, 2952996808, 3210313671, 3336571891, 3584528711, 113926993, 338241895, 666307205, 773529912, 1294757372, 1396182291, 1695183700, 1986661051, 2177026350, 2456956037, 2730485921, 2820302411, 3259730800, 3345764771, 3516065817, 3600352804, 4094571909, 275423344, 430227734, 506948616, 659060556, 883997877, 958139571, 1322822218, 1537002063, 1747873779, 1955562222, 2024104815, 2227730452, 2361852424, 2428436474, 2756734187, 3204031479, 3329325298]

def rotr (x : UInt32) (n : Nat) : UInt32 := x <<< (UInt32.ofNat (32 - n)) ||| x >>> (UInt32.ofNat n)

def big1 (x : UInt32) : UInt32 := rotr x 6 ^^^ rotr x 11 ^^^ rotr x 25
def big0 (x : UInt32) : UInt32 := rotr x 2 ^^^ rotr x 13 ^^^ rotr x 22
def sml0 (x : UInt32) : UInt32 := rotr x 7 ^^^ rotr x 18 ^^^ x >>> 3
def sml1 (x : UInt32) : UInt32 := rotr x 17 ^^^ rotr x 19 ^^^ x >>> 10

structure St where
  a : UInt32
  b : UInt32
  c : UInt32
  d : UInt32
  e : UInt32
  f : UInt32
  g : UInt32
  h : UInt32
deriving DecidableEq

def tt (s : St) (k w : UInt32) : UInt32 := s.h + big1 s.e + (s.e &&& s.f ||| ~~~s.e &&& s.g) + k + w
def uu (s : St) : UInt32 := big0 s.a + (s.a &&& s.b ||| s.a &&& s.c ||| s.b &&& s.c)
def step (s : St) (k w : UInt32) : St := ⟨tt s k w + uu s, s.a, s.b, s.c, s.d + tt s k w, s.e, s.f, s.g⟩

def mkWord (b0 b1 b2 b3 : UInt8) : UInt32 := b0.toUInt32 <<< 24 ||| b1.toUInt32 <<< 16 ||| b2.toUInt32 <<< 8 ||| b3.toUInt32
def word (b : List UInt8) (i : Nat) : UInt32 := mkWord (b.getD (4 * i) 0) (b.getD (4 * i + 1) 0) (b.getD (4 * i + 2) 0) (b.getD (4 * i + 3) 0)

def nextW (l : List UInt32) (i : Nat) : UInt32 :=
  l.getD (i - 16) 0 + sml0 (l.getD (i - 15) 0) + l.getD (i - 7) 0 + sml1 (l.getD (i - 2) 0)

/-- The words of a block behind n rounds of filling. -/
def fill (b : List UInt8) : Nat → List UInt32
  | 0 => List.replicate 64 0
  | n + 1 => (fill b n).set n (if n < 16 then word b n else nextW (fill b n) n)

def sched (b : List UInt8) : List UInt32 := fill b 64

def rounds (w : List UInt32) (s : St) : Nat → St
  | 0 => s
  | n + 1 => step (rounds w s n) (kk.getD n 0) (w.getD n 0)

def addSt (s t : St) : St := ⟨s.a + t.a, s.b + t.b, s.c + t.c, s.d + t.d, s.e + t.e, s.f + t.f, s.g + t.g, s.h + t.h⟩

def mix (s : St) (b : List UInt8) : St := addSt s (rounds (sched b) s 64)

def init : St := ⟨1779033703, 3144134277, 1013904242, 2773480762, 1359893119, 2600822924, 528734635, 1541459225⟩

end Go.Proofs.YtolkpjbbfopmnaaDoor.Sh.Sha
namespace Go.Proofs.YtolkpjbbfopmnaaDoor.Sh.Sha

theorem lt32 (x : UInt32) : x.toNat < 4294967296 := x.toNat_lt
theorem or_u32 (x y : UInt32) : bits .or .u32 (x.toNat : Int) (y.toNat : Int) = ((x ||| y).toNat : Int) := by
  rw [u32_or_nat _ _ (lt32 x) (lt32 y), UInt32.toNat_or]
theorem and_u32 (x y : UInt32) : bits .and .u32 (x.toNat : Int) (y.toNat : Int) = ((x &&& y).toNat : Int) := by
  rw [u32_and_nat _ _ (lt32 x) (lt32 y), UInt32.toNat_and]
theorem xor_u32 (x y : UInt32) : bits .xor .u32 (x.toNat : Int) (y.toNat : Int) = ((x ^^^ y).toNat : Int) := by
  rw [u32_xor_nat _ _ (lt32 x) (lt32 y), UInt32.toNat_xor]
theorem not_u32 (x : UInt32) : bits .xor .u32 4294967295 (x.toNat : Int) = ((~~~x).toNat : Int) := by
  have h := u32_xor_nat 4294967295 x.toNat (by omega) (lt32 x)
  rw [show ((4294967295 : Nat) : Int) = (4294967295 : Int) from rfl] at h
  rw [h]
  have e : (~~~x) = 4294967295 ^^^ x := by
    apply UInt32.eq_of_toBitVec_eq
    simp only [UInt32.toBitVec_xor, UInt32.toBitVec_not]
    exact (BitVec.allOnes_xor (x := x.toBitVec)).symm
  rw [e, UInt32.toNat_xor]
  rfl
theorem notif_u32 (x : UInt32) : bits .xor .u32 (if IntKind.u32.signed = true then -1 else IntKind.u32.max) (x.toNat : Int) = ((~~~x).toNat : Int) := not_u32 x
theorem add_u32 (x y : UInt32) : ((x.toNat : Int) + (y.toNat : Int)) % 4294967296 = ((x + y).toNat : Int) := by
  rw [UInt32.toNat_add]; omega
theorem wadd_u32 (x y : UInt32) : IntKind.u32.wrap ((x.toNat : Int) + (y.toNat : Int)) = ((x + y).toNat : Int) := by
  rw [IntKind.wrap_u32', add_u32]
theorem shl_u32 (x : UInt32) (s : Nat) (h : s < 32) : ((x.toNat : Int) * 2 ^ s % 4294967296) = ((x <<< UInt32.ofNat s).toNat : Int) := by
  rw [UInt32.toNat_shiftLeft, UInt32.toNat_ofNat_of_lt' (show s < UInt32.size from Nat.lt_trans h (by decide)), Nat.mod_eq_of_lt h, Nat.shiftLeft_eq, show (2 ^ 32 : Nat) = 4294967296 from rfl, Int.natCast_emod, Int.natCast_mul, Int.natCast_pow]
  rfl
theorem shr_u32 (x : UInt32) (s : Nat) (h : s < 32) : ((x.toNat : Int) / 2 ^ s) = ((x >>> UInt32.ofNat s).toNat : Int) := by
  rw [UInt32.toNat_shiftRight, UInt32.toNat_ofNat_of_lt' (show s < UInt32.size from Nat.lt_trans h (by decide)), Nat.mod_eq_of_lt h, Nat.shiftRight_eq_div_pow, Int.natCast_ediv, Int.natCast_pow]
  rfl
theorem rot_s (i : Nat) (h1 : 1 ≤ i) (h2 : i ≤ 31) : bits .and .u64 (IntKind.u64.wrap (-(i : Int))) 31 = ((32 - i : Nat) : Int) := by
  have h : ∀ j : Fin 31, bits .and .u64 (IntKind.u64.wrap (-((j.val + 1 : Nat) : Int))) 31 = ((32 - (j.val + 1) : Nat) : Int) := by decide +kernel
  have := h ⟨i - 1, by omega⟩
  simpa [show i - 1 + 1 = i by omega] using this

theorem conv_u32 (b : UInt8) : IntKind.u32.wrap (b.toNat : Int) = (b.toUInt32.toNat : Int) := by
  have := b.toNat_lt
  rw [IntKind.wrap_u32', UInt8.toNat_toUInt32]; omega
theorem wshl_u32 (x : UInt32) (s : Nat) (h : s < 32) : IntKind.u32.wrap ((x.toNat : Int) * 2 ^ s) = ((x <<< UInt32.ofNat s).toNat : Int) := by
  rw [IntKind.wrap_u32', shl_u32 x s h]
theorem word_spell (b0 b1 b2 b3 : UInt8) : bits .or .u32 (bits .or .u32 (bits .or .u32 (IntKind.u32.wrap (IntKind.u32.wrap (b0.toNat : Int) * 16777216)) (IntKind.u32.wrap (IntKind.u32.wrap (b1.toNat : Int) * 65536))) (IntKind.u32.wrap (IntKind.u32.wrap (b2.toNat : Int) * 256))) (IntKind.u32.wrap (b3.toNat : Int)) = ((mkWord b0 b1 b2 b3).toNat : Int) := by
  have h1 := wshl_u32 b0.toUInt32 24 (by omega)
  have h2 := wshl_u32 b1.toUInt32 16 (by omega)
  have h3 := wshl_u32 b2.toUInt32 8 (by omega)
  rw [show (2 ^ 24 : Int) = 16777216 from rfl] at h1
  rw [show (2 ^ 16 : Int) = 65536 from rfl] at h2
  rw [show (2 ^ 8 : Int) = 256 from rfl] at h3
  rw [conv_u32, conv_u32, conv_u32, conv_u32, h1, h2, h3, or_u32, or_u32, or_u32]
  rfl
end Go.Proofs.YtolkpjbbfopmnaaDoor.Sh.Sha
namespace Go.Proofs.YtolkpjbbfopmnaaDoor.Sh
open Go.RowKit

theorem ret_int {k : IntKind} {a b : Int} (h : a = b) : Ending.returned (.int k a) = .returned (.int k b) := by rw [h]

set_option maxHeartbeats 400000 in
theorem rot_any (x : UInt32) (i : Nat) (m : Int) (hm : m = -(i : Int)) (h1 : 1 ≤ i) (h2 : i ≤ 31) (w : World) :
    Calls Tryd.prog 97 #[.int .u32 x.toNat, .int .i64 m] w fun e w' => e = .returned (.int .u32 (Sha.rotr x i).toNat) ∧ w = w' := by
  obtain ⟨s, hs⟩ : ∃ s, s = 32 - i := ⟨_, rfl⟩
  have hb : bits .and .u64 (IntKind.u64.wrap m) 31 = (s : Int) := by rw [hm, Sha.rot_s i h1 h2, hs]
  have s1 : 1 ≤ s := by omega
  have s2 : s ≤ 31 := by omega
  have HE : Hid (bits .or .u32 ((x.toNat : Int) * 2 ^ s % 4294967296) ((x.toNat : Int) / 2 ^ (32 - s)) = ((Sha.rotr x i).toNat : Int)) := Lib.hid (by
    rw [Sha.shl_u32 x s (by omega), Sha.shr_u32 x (32 - s) (by omega), Sha.or_u32, Sha.rotr, hs, show 32 - (32 - i) = i by omega])
  clear hs hm h1 h2
  go_enter Tryd.func97, Tryd.ntmps97
  go_wp2
  go_ret
  exact ⟨ret_int HE.out, rfl⟩

set_option maxHeartbeats 400000 in
theorem turned_any (x : UInt32) (i j k : Nat) (hi : 1 ≤ i ∧ i ≤ 31) (hj : 1 ≤ j ∧ j ≤ 31) (hk : 1 ≤ k ∧ k ≤ 31) (w : World) :
    Calls Tryd.prog 95 #[.int .u32 x.toNat, .int .i64 i, .int .i64 j, .int .i64 k] w fun e w' => e = .returned (.int .u32 (Sha.rotr x i ^^^ Sha.rotr x j ^^^ Sha.rotr x k).toNat) ∧ w = w' := by
  obtain ⟨i1, i2⟩ := hi
  obtain ⟨j1, j2⟩ := hj
  obtain ⟨k1, k2⟩ := hk
  go_enter Tryd.func95, Tryd.ntmps95
  go_wp2_with fail
  refine (rot_any x i _ rfl i1 i2 _).mono ?_
  rintro e w' ⟨rfl, rfl⟩
  go_wp2_with fail
  refine (rot_any x j _ rfl j1 j2 _).mono ?_
  rintro e w' ⟨rfl, rfl⟩
  go_wp2_with fail
  refine (rot_any x k _ rfl k1 k2 _).mono ?_
  rintro e w' ⟨rfl, rfl⟩
  go_wp2
  go_ret
  exact ⟨ret_int (by rw [Sha.xor_u32, Sha.xor_u32]), rfl⟩

set_option maxHeartbeats 400000 in
theorem moved_any (x : UInt32) (i j k : Nat) (hi : 1 ≤ i ∧ i ≤ 31) (hj : 1 ≤ j ∧ j ≤ 31) (hk : 1 ≤ k ∧ k ≤ 31) (w : World) :
    Calls Tryd.prog 96 #[.int .u32 x.toNat, .int .i64 i, .int .i64 j, .int .u64 k] w fun e w' => e = .returned (.int .u32 (Sha.rotr x i ^^^ Sha.rotr x j ^^^ x >>> UInt32.ofNat k).toNat) ∧ w = w' := by
  obtain ⟨i1, i2⟩ := hi
  obtain ⟨j1, j2⟩ := hj
  obtain ⟨k1, k2⟩ := hk
  go_enter Tryd.func96, Tryd.ntmps96
  go_wp2_with fail
  refine (rot_any x i _ rfl i1 i2 _).mono ?_
  rintro e w' ⟨rfl, rfl⟩
  go_wp2_with fail
  refine (rot_any x j _ rfl j1 j2 _).mono ?_
  rintro e w' ⟨rfl, rfl⟩
  go_wp2
  go_ret
  exact ⟨ret_int (by rw [Sha.xor_u32, Sha.shr_u32 x k (by omega), Sha.xor_u32]), rfl⟩

theorem turned_e (x : UInt32) (w : World) : Calls Tryd.prog 95 #[.int .u32 x.toNat, .int .i64 6, .int .i64 11, .int .i64 25] w fun e w' => e = .returned (.int .u32 (Sha.big1 x).toNat) ∧ w = w' :=
  turned_any x 6 11 25 (by decide) (by decide) (by decide) w
theorem turned_a (x : UInt32) (w : World) : Calls Tryd.prog 95 #[.int .u32 x.toNat, .int .i64 2, .int .i64 13, .int .i64 22] w fun e w' => e = .returned (.int .u32 (Sha.big0 x).toNat) ∧ w = w' :=
  turned_any x 2 13 22 (by decide) (by decide) (by decide) w
theorem moved_0 (x : UInt32) (w : World) : Calls Tryd.prog 96 #[.int .u32 x.toNat, .int .i64 7, .int .i64 18, .int .u64 3] w fun e w' => e = .returned (.int .u32 (Sha.sml0 x).toNat) ∧ w = w' :=
  moved_any x 7 18 3 (by decide) (by decide) (by decide) w
theorem moved_1 (x : UInt32) (w : World) : Calls Tryd.prog 96 #[.int .u32 x.toNat, .int .i64 17, .int .i64 19, .int .u64 10] w fun e w' => e = .returned (.int .u32 (Sha.sml1 x).toNat) ∧ w = w' :=
  moved_any x 17 19 10 (by decide) (by decide) (by decide) w

end Go.Proofs.YtolkpjbbfopmnaaDoor.Sh
namespace Go.Proofs.YtolkpjbbfopmnaaDoor.Sh
open Go.RowKit

/-- Block g is just the cells cs, of element type t, and none of them is frozen. -/
def Whole (w : World) (g : Nat) (t : TypeId) (cs : Array Value) : Prop := w.heap[g]? = some (.cells cs t (0, 0))

section
variable {w w' : World} {g : Nat} {t : TypeId} {cs : Array Value}
theorem Whole.lt (h : Whole w g t cs) : g < w.heap.size := (Array.getElem?_eq_some_iff.1 h).1
theorem Whole.at_ (h : Whole w g t cs) {i : Nat} {v : Value} (hv : cs[i]? = some v) : w.cell? ⟨g, i, none⟩ = some v :=
  (cell_of_row w g i cs t (0, 0) h).trans hv
theorem Whole.free (h : Whole w g t cs) (i : Nat) : w.frozen? ⟨g, i, none⟩ = false := by
  have h' : w.heap[g]? = some (.cells cs t (0, 0)) := h
  simp [World.frozen?, h']
theorem Whole.made (w : World) (t : TypeId) (cs : Array Value) : Whole (w.alloc (.cells cs t)) w.heap.size t cs := heap_alloc_last w _
theorem Whole.drew (h : Whole w g t cs) : Whole w.drew g t cs := h
theorem Whole.drewN (h : Whole w g t cs) (n : Nat) : Whole (w.drewN n) g t cs := h
theorem Whole.alloc (h : Whole w g t cs) (o : Obj) : Whole (w.alloc o) g t cs := (Below.heap_alloc w o g h.lt).trans h
theorem Whole.set (h : Whole w g t cs) (i : Nat) (u : Value) : Whole (w.setCell ⟨g, i, none⟩ u) g t (cs.setIfInBounds i u) :=
  heap_setCell_same w g i cs t u h
theorem Whole.other (h : Whole w g t cs) {p : Addr} (hp : g ≠ p.block) (u : Value) : Whole (w.setCell p u) g t cs := (Below.heap_setCell w p u g hp).trans h
theorem Whole.range (h : Whole w g t cs) : w.rangeAt g 0 cs.toList := by
  have := World.rangeAt_of_block (w := w) (b := g) (C := cs) h 0 cs.size
  rwa [Nat.zero_add, Array.extract_size] at this
theorem Whole.there_ (h : Whole w g t cs) : w.there g 0 cs.size := fun j hj => by
  rw [Nat.zero_add]
  exact ⟨by rw [h.at_ (Array.getElem?_eq_getElem hj)]; rfl, h.free j⟩
theorem Whole.below {B : Nat} (h : Whole w g t cs) (hb : Below B w w') (hg : g < B) : Whole w' g t cs := (hb.block g hg).trans h
end

theorem results_cell1 {fn : Func} {p : Tmp} {ty : TypeId} (h : fn.results = #[.cell p ty]) (tmps : Array Value) (P : Program) (w : World) :
    (results fn tmps).run P w = ((asAddr (tmps.getD p undef)).run P w).andThen fun a w₁ => (loadVar ty a).run P w₁ := by
  simp only [results, h]
  simp [Sem.run_bind, Result.andThen]
theorem below_setCells {B : Nat} (w : World) (b : Nat) (vs : List Value) : ∀ (o : Nat) {w' : World}, Below B w w' → B ≤ b → Below B w (w'.setCells b o vs) := by
  induction vs with
  | nil => intro o w' h _; exact h
  | cons v r ih => intro o w' h hb; exact ih (o + 1) (h.setCell (p := ⟨b, o, none⟩) hb v) hb

/-- A whole array stored into the block that was made last. -/
theorem wpList_store_made {P : Program} {ops : Array Oper} {rest : List Oper} {op : Oper} {a : Act} {w : World} {Q : Exit → Act → World → Prop} (hgd : op.guard = none) (ty : TypeId) (x y : Operand) (ho : op.op = .store ty x y)
    (c c' : Array Value) (hx : a.eval x = .pointer (some ⟨w.heap.size, 0, none⟩)) (hy : a.eval y = .agg c')
    (hi : (P.info? ty).map (·.size) = some c'.size) (hc : c.size = c'.size) (h1 : c'.all (·.oneCell') = true)
    (h : wpList P ops Q rest (a.put op.dst undef) (w.alloc (.cells c' ty))) : wpList P ops Q (op :: rest) a (w.alloc (.cells c ty)) :=
  wpList_plain hgd fun _ hK => by
    unfold Oper.wp execOp
    simp only [ho, hx, hy, Instr.storeAt, Instr.sureAddr, Sem.run_bind, Sem.run_pure, Result.andThen_ok, run_storeVar_new w ty c c' hi hc h1]
    exact hK _ _ h

def bcells (bs : List UInt8) : Array Value := (bs.map fun b => Value.int .u8 b.toNat).toArray
def wcells (ws : List UInt32) : Array Value := (ws.map fun x => Value.int .u32 x.toNat).toArray

theorem bcells_size (bs : List UInt8) : (bcells bs).size = bs.length := by simp [bcells]
theorem wcells_size (ws : List UInt32) : (wcells ws).size = ws.length := by simp [wcells]
theorem bcells_at (bs : List UInt8) (i : Nat) (h : i < bs.length) : (bcells bs)[i]? = some (.int .u8 (bs.getD i 0).toNat) := by
  simp [bcells, List.getD_eq_getElem?_getD, h]
theorem wcells_at (ws : List UInt32) (i : Nat) (h : i < ws.length) : (wcells ws)[i]? = some (.int .u32 (ws.getD i 0).toNat) := by
  simp [wcells, List.getD_eq_getElem?_getD, h]
theorem wcells_set (ws : List UInt32) (i : Nat) (x : UInt32) : (wcells ws).setIfInBounds i (.int .u32 x.toNat) = wcells (ws.set i x) := by
  simp [wcells, List.map_set]
theorem bcells_set (bs : List UInt8) (i : Nat) (x : UInt8) : (bcells bs).setIfInBounds i (.int .u8 x.toNat) = bcells (bs.set i x) := by
  simp [bcells, List.map_set]
theorem wcells_one (ws : List UInt32) : (wcells ws).all (·.oneCell') = true := by
  simp [wcells, Value.oneCell']
theorem bcells_one (bs : List UInt8) : (bcells bs).all (·.oneCell') = true := by
  simp [bcells, Value.oneCell']

theorem info35 : (Tryd.prog.info? 141).map (·.size) = some 8 := by kernel_rfl
theorem info36 : (Tryd.prog.info? 142).map (·.size) = some 64 := by kernel_rfl
theorem info46 : (Tryd.prog.info? 155).map (·.size) = some 64 := by kernel_rfl

namespace Sha
theorem fill_length (b : List UInt8) (n : Nat) : (fill b n).length = 64 := by
  induction n with
  | zero => simp [fill]
  | succ n ih => simp [fill, ih]
end Sha
end Go.Proofs.YtolkpjbbfopmnaaDoor.Sh
namespace Go.Proofs.YtolkpjbbfopmnaaDoor.Sh
open Go.RowKit
def SRel (bs : List UInt8) (w : World) (k : Nat) (wx : World) : Prop :=
  Whole wx w.heap.size 142 (bcells bs) ∧ Whole wx (w.heap.size + 1) 155 (wcells (Sha.fill bs 0)) ∧ Whole wx (w.heap.size + 1 + 1) 155 (wcells (Sha.fill bs k)) ∧ Below w.heap.size w wx
theorem srel_start (bs : List UInt8) (w : World) (Z : Array Value) (hz : Z = wcells (Sha.fill bs 0)) :
    SRel bs w 0 (((w.alloc (.cells (bcells bs) 142)).alloc (.cells Z 155)).alloc (.cells Z 155)) := by
  subst hz
  refine ⟨((Whole.made _ _ _).alloc _).alloc _, ?_, ?_, ?_⟩
  · have := (Whole.made (w.alloc (.cells (bcells bs) 142)) 155 (wcells (Sha.fill bs 0))).alloc (.cells (wcells (Sha.fill bs 0)) 155)
    simpa using this
  · have := Whole.made ((w.alloc (.cells (bcells bs) 142)).alloc (.cells (wcells (Sha.fill bs 0)) 155)) 155 (wcells (Sha.fill bs 0))
    simpa using this
  · exact (((Below.refl _ _).alloc (by simp) _).alloc (by simp) _).alloc (by simp; omega) _

theorem moved_0s (x : UInt32) (w : World) : Calls Tryd.prog 96 #[.int .u32 x.toNat, .int .i64 7, .int .i64 18, .int .u64 3] w fun e w' => e = .returned (.int .u32 (Sha.sml0 x).toNat) ∧ w' = w :=
  (moved_0 x w).mono fun _ _ ⟨h1, h2⟩ => ⟨h1, h2.symm⟩
theorem moved_1s (x : UInt32) (w : World) : Calls Tryd.prog 96 #[.int .u32 x.toNat, .int .i64 17, .int .i64 19, .int .u64 10] w fun e w' => e = .returned (.int .u32 (Sha.sml1 x).toNat) ∧ w' = w :=
  (moved_1 x w).mono fun _ _ ⟨h1, h2⟩ => ⟨h1, h2.symm⟩

theorem srel_step (bs : List UInt8) (w wx : World) (k : Nat) (x : UInt32) (h : SRel bs w k wx) (hx : x = if k < 16 then Sha.word bs k else Sha.nextW (Sha.fill bs k) k) :
    SRel bs w (k + 1) (wx.setCell ⟨w.heap.size + 1 + 1, k, none⟩ (.int .u32 x.toNat)) := by
  obtain ⟨h1, h2, h3, h4⟩ := h
  refine ⟨h1.other (by show _ ≠ w.heap.size + 1 + 1; omega) _, h2.other (by show _ ≠ w.heap.size + 1 + 1; omega) _, ?_, h4.setCell (by show _ ≤ w.heap.size + 1 + 1; omega) _⟩
  have := h3.set k (.int .u32 x.toNat)
  rw [wcells_set, hx] at this
  rw [hx]
  exact this
theorem srel_drew {bs : List UInt8} {w wx : World} {k : Nat} (h : SRel bs w k wx) : SRel bs w k wx.drew := ⟨h.1, h.2.1, h.2.2.1, h.2.2.2.drew⟩

set_option maxRecDepth 100000 in
set_option maxHeartbeats 2000000 in
theorem sched_any (bs : List UInt8) (hl : bs.length = 64) (w : World) :
    Calls Tryd.prog 94 #[.agg (bcells bs)] w fun e w' => e = .returned (.agg (wcells (Sha.sched bs))) ∧ Below w.heap.size w w' := by
  have Hl : Hid (bs.length = 64) := hl
  clear hl
  go_enter Tryd.func94, Tryd.ntmps94
  go_wp2_with fail
  go_loopw [6] (fun i6 wx => ∃ k : Nat, k ≤ 16 ∧ i6 = .int .i64 k ∧ SRel bs w k wx) (fun i6 _ => 16 - (intOf i6).toNat)
  case atStart => exact ⟨0, by omega, rfl, srel_start bs w _ rfl⟩
  case round =>
    obtain ⟨k, hk, rfl, hrel⟩ := hrel
    by_cases hlt : k < 16
    · have c0 := hrel.1.at_ (bcells_at bs (4 * k) (by rw [Hl.out]; omega))
      have c1 := hrel.1.at_ (bcells_at bs (4 * k + 1) (by rw [Hl.out]; omega))
      have c2 := hrel.1.at_ (bcells_at bs (4 * k + 2) (by rw [Hl.out]; omega))
      have c3 := hrel.1.at_ (bcells_at bs (4 * k + 3) (by rw [Hl.out]; omega))
      have f0 := hrel.2.2.1.free k
      have f1 := hrel.2.2.1.at_ (wcells_at _ k (by rw [Sha.fill_length]; omega))
      have hw : Sha.mkWord (bs.getD (4 * k) 0) (bs.getD (4 * k + 1) 0) (bs.getD (4 * k + 2) 0) (bs.getD (4 * k + 3) 0) = Sha.word bs k := rfl
      have H := Lib.hid (srel_step bs w wr.drew k (Sha.word bs k) (srel_drew hrel) (by rw [if_pos hlt]))
      clear hrel
      generalize bs.getD (4 * k) 0 = b0 at c0 hw
      generalize bs.getD (4 * k + 1) 0 = b1 at c1 hw
      generalize bs.getD (4 * k + 2) 0 = b2 at c2 hw
      generalize bs.getD (4 * k + 3) 0 = b3 at c3 hw
      have HW := Lib.hid hw
      clear hw
      have q0 : IntKind.i64.wrap (4 * (k : Int)) = 4 * (k : Int) := IntWalk.i64_in _ (by omega)
      have q1 : IntKind.i64.wrap (4 * (k : Int) + 1) = 4 * (k : Int) + 1 := IntWalk.i64_in _ (by omega)
      have q2 : IntKind.i64.wrap (4 * (k : Int) + 2) = 4 * (k : Int) + 2 := IntWalk.i64_in _ (by omega)
      have q3 : IntKind.i64.wrap (4 * (k : Int) + 3) = 4 * (k : Int) + 3 := IntWalk.i64_in _ (by omega)
      have z0 : 0 ≤ 4 * (k : Int) ∧ 4 * (k : Int) < 64 := by omega
      have z1 : 0 ≤ 4 * (k : Int) + 1 ∧ 4 * (k : Int) + 1 < 64 := by omega
      have z2 : 0 ≤ 4 * (k : Int) + 2 ∧ 4 * (k : Int) + 2 < 64 := by omega
      have z3 : 0 ≤ 4 * (k : Int) + 3 ∧ 4 * (k : Int) + 3 < 64 := by omega
      have t0 : (4 * (k : Int)).toNat = 4 * k := by omega
      have t1 : (4 * (k : Int) + 1).toNat = 4 * k + 1 := by omega
      have t2 : (4 * (k : Int) + 2).toNat = 4 * k + 2 := by omega
      have t3 : (4 * (k : Int) + 3).toNat = 4 * k + 3 := by omega
      have k64 : (k : Int) < 64 := by omega
      obtain ⟨z00, z01⟩ := z0
      obtain ⟨z10, z11⟩ := z1
      obtain ⟨z20, z21⟩ := z2
      obtain ⟨z30, z31⟩ := z3
      go_wp2_with fail
      go_still_tail 31, (by kernel_rfl)
      change wpList _ _ _ _ _ wr.drew
      rw [Sha.word_spell, HW.out]
      clear q0 q1 q2 q3 t0 t1 t2 t3 z00 z01 z10 z11 z20 z21 z30 z31 c0 c1 c2 c3
      go_wp2_with fail
      go_roundw
      case rel => exact ⟨k + 1, by omega, by go_num, H.out⟩
      case measure => simp [intOf]; omega
    · obtain rfl : k = 16 := by omega
      have H16 := Lib.hid hrel
      clear hrel hk hlt
      rw [show ((16 : Nat) : Int) = (16 : Int) from rfl]
      go_wp2_with fail
      go_loopw [5] (fun i5 wx => ∃ k : Nat, 16 ≤ k ∧ k ≤ 64 ∧ i5 = .int .i64 k ∧ SRel bs w k wx) (fun i5 _ => 64 - (intOf i5).toNat)
      case atStart => exact ⟨16, by omega, by omega, rfl, H16.out⟩
      case round =>
        obtain ⟨k, hk1, hk2, rfl, hrel⟩ := hrel
        by_cases hlt : k < 64
        · have c0 := hrel.2.2.1.at_ (wcells_at _ (k - 16) (by rw [Sha.fill_length]; omega))
          have c1 := hrel.2.2.1.at_ (wcells_at _ (k - 15) (by rw [Sha.fill_length]; omega))
          have c2 := hrel.2.2.1.at_ (wcells_at _ (k - 7) (by rw [Sha.fill_length]; omega))
          have c3 := hrel.2.2.1.at_ (wcells_at _ (k - 2) (by rw [Sha.fill_length]; omega))
          have f0 := hrel.2.2.1.free k
          have f1 := hrel.2.2.1.at_ (wcells_at _ k (by rw [Sha.fill_length]; omega))
          have hw : (Sha.fill bs k).getD (k - 16) 0 + Sha.sml0 ((Sha.fill bs k).getD (k - 15) 0) + (Sha.fill bs k).getD (k - 7) 0 + Sha.sml1 ((Sha.fill bs k).getD (k - 2) 0) = Sha.nextW (Sha.fill bs k) k := rfl
          have H := Lib.hid (srel_step bs w wr.drew k (Sha.nextW (Sha.fill bs k) k) (srel_drew hrel) (by rw [if_neg (by omega)]))
          clear hrel
          generalize (Sha.fill bs k).getD (k - 16) 0 = x0 at c0 hw
          generalize (Sha.fill bs k).getD (k - 15) 0 = x1 at c1 hw
          generalize (Sha.fill bs k).getD (k - 7) 0 = x2 at c2 hw
          generalize (Sha.fill bs k).getD (k - 2) 0 = x3 at c3 hw
          have HW := Lib.hid hw
          clear hw
          have q0 : IntKind.i64.wrap ((k : Int) - 16) = (k : Int) - 16 := IntWalk.i64_in _ (by omega)
          have q1 : IntKind.i64.wrap ((k : Int) - 15) = (k : Int) - 15 := IntWalk.i64_in _ (by omega)
          have q2 : IntKind.i64.wrap ((k : Int) - 7) = (k : Int) - 7 := IntWalk.i64_in _ (by omega)
          have q3 : IntKind.i64.wrap ((k : Int) - 2) = (k : Int) - 2 := IntWalk.i64_in _ (by omega)
          have z0 : 0 ≤ (k : Int) - 16 ∧ (k : Int) - 16 < 64 ∧ (16 : Int) ≤ k ∧ (k : Int) < 80 := by omega
          have z1 : 0 ≤ (k : Int) - 15 ∧ (k : Int) - 15 < 64 ∧ (15 : Int) ≤ k ∧ (k : Int) < 79 := by omega
          have z2 : 0 ≤ (k : Int) - 7 ∧ (k : Int) - 7 < 64 ∧ (7 : Int) ≤ k ∧ (k : Int) < 71 := by omega
          have z3 : 0 ≤ (k : Int) - 2 ∧ (k : Int) - 2 < 64 ∧ (2 : Int) ≤ k ∧ (k : Int) < 66 := by omega
          have t0 : ((k : Int) - 16).toNat = k - 16 := by omega
          have t1 : ((k : Int) - 15).toNat = k - 15 := by omega
          have t2 : ((k : Int) - 7).toNat = k - 7 := by omega
          have t3 : ((k : Int) - 2).toNat = k - 2 := by omega
          have k64 : (k : Int) < 64 := by omega
          obtain ⟨z00, z01, z02, z03⟩ := z0
          obtain ⟨z10, z11, z12, z13⟩ := z1
          obtain ⟨z20, z21, z22, z23⟩ := z2
          obtain ⟨z30, z31, z32, z33⟩ := z3
          go_wp2_with fail
          go_still_tail 23, (by kernel_rfl)
          still_call (moved_0s _ _)
          repeat still_step
          still_call (moved_1s _ _)
          repeat still_step
          refine wpStill_nil ?_
          change wpList _ _ _ _ _ wr.drew
          simp only [Sha.wadd_u32]
          rw [HW.out]
          clear q0 q1 q2 q3 t0 t1 t2 t3 z00 z01 z10 z11 z20 z21 z30 z31 z02 z03 z12 z13 z22 z23 z32 z33 c0 c1 c2 c3
          go_wp2_with fail
          go_roundw
          case rel => exact ⟨k + 1, by omega, by omega, by go_num, H.out⟩
          case measure => simp [intOf]; omega
        · obtain rfl : k = 64 := by omega
          have H64 := Lib.hid hrel
          clear hrel hk1 hk2 hlt H16
          have hlen : (wcells (Sha.fill bs 64)).size = 64 := by rw [wcells_size, Sha.fill_length]
          have hi : (Tryd.prog.info? 155).map (·.size) = some (wcells (Sha.fill bs 64)).toList.length := by rw [Array.length_toList, hlen]; kernel_rfl
          have hth : wr.there (w.heap.size + 1) 0 (wcells (Sha.fill bs 64)).size := by
            have := (H64.out).2.1.there_
            rwa [wcells_size, Sha.fill_length, ← hlen] at this
          have hone := wcells_one (Sha.fill bs 64)
          have hlo := (H64.out).2.2.1.range
          have hbel := (H64.out).2.2.2
          have hsch : wcells (Sha.sched bs) = wcells (Sha.fill bs 64) := rfl
          have HS := Lib.hid hsch
          clear H64 hsch
          generalize wcells (Sha.fill bs 64) = W at *
          have HI := Lib.hid hi
          have HLO := Lib.hid hlo
          have HTH := Lib.hid hth
          have HONE := Lib.hid hone
          have HLEN := Lib.hid hlen
          clear hi hlen hth hlo hone
          go_upto_region 11 with (fail)
          refine wp_region_lit ?_
          refine wpList_load_mid rfl 155 (.tmp 3) rfl (w.heap.size + 1 + 1) 0 ?_ W.toList (.array 64 140) HLO.out Tryd.underlying155 rfl HI.out ?_
          · rfl
          rw [Array.toArray_toList]
          refine wpList_store_mid rfl 155 (.tmp 2) (.tmp 68) rfl (w.heap.size + 1) 0 W ?_ ?_ HTH.out ?_ HONE.out ?_
          · rfl
          · rfl
          · rw [HI.out, Array.length_toList]
          go_wp2_with fail
          refine bodyPost_ret (v := .agg W) ?_ rfl ⟨by rw [HS.out], below_setCells _ _ _ _ hbel (by omega)⟩
          rw [results_cell1 (p := 2) (ty := 155) Tryd.results94]
          have hr : (loadVar 155 ⟨w.heap.size + 1, 0, none⟩).run Tryd.prog (wr.setCells (w.heap.size + 1) 0 W.toList) = .ok (.agg W.toList.toArray) _ :=
            run_loadVar_mid _ (w.heap.size + 1) 0 155 W.toList (.array 64 140) (World.rangeAt_setCells_same _ _ _ _ (by rw [Array.length_toList]; exact HTH.out)) Tryd.underlying155 rfl HI.out
          rw [Array.toArray_toList] at hr
          exact hr
end Go.Proofs.YtolkpjbbfopmnaaDoor.Sh
namespace Go.Proofs.YtolkpjbbfopmnaaDoor.Sh
open Go.RowKit
def Sha.St.list (s : Sha.St) : List UInt32 := [s.a, s.b, s.c, s.d, s.e, s.f, s.g, s.h]
def Tab (w : World) (g : Nat) : Prop := ∀ i, i < 64 → w.cell? ⟨g, i, none⟩ = some (.int .u32 (Sha.kk.getD i 0).toNat)
theorem turned_es (x : UInt32) (w : World) : Calls Tryd.prog 95 #[.int .u32 x.toNat, .int .i64 6, .int .i64 11, .int .i64 25] w fun e w' => e = .returned (.int .u32 (Sha.big1 x).toNat) ∧ w' = w :=
  (turned_e x w).mono fun _ _ ⟨h1, h2⟩ => ⟨h1, h2.symm⟩

/-- What the memory holds while sha.mix runs: the words so far (l), the result's place, the schedule, the table. -/
structure MRel (bs : List UInt8) (w : World) (M : Nat) (l : List UInt32) (wx : World) : Prop where
  words : Whole wx w.heap.size 141 (wcells l)
  out : Whole wx (w.heap.size + 1 + 1) 141 (wcells (List.replicate 8 0))
  sch : Whole wx M 155 (wcells (Sha.sched bs))
  low : w.heap.size + 3 ≤ M
  bel : Below w.heap.size w wx
  tab : Tab wx 1

theorem MRel.drew {bs : List UInt8} {w : World} {M : Nat} {l : List UInt32} {wx : World} (h : MRel bs w M l wx) : MRel bs w M l wx.drew :=
  ⟨h.words, h.out, h.sch, h.low, h.bel.drew, h.tab⟩
theorem mrel_start (bs : List UInt8) (w w1 : World) (l : List UInt32) (Z : Array Value) (hZ : Z = wcells (List.replicate 8 0)) (ht : Tab w 1) (hw : 1 < w.heap.size)
    (hb : Below (((w.alloc (.cells (wcells l) 141)).alloc (.cells (bcells bs) 142)).alloc (.cells Z 141)).heap.size (((w.alloc (.cells (wcells l) 141)).alloc (.cells (bcells bs) 142)).alloc (.cells Z 141)) w1) :
    MRel bs w w1.heap.size l (w1.alloc (.cells (wcells (Sha.sched bs)) 155)) := by
  have hsz : (((w.alloc (.cells (wcells l) 141)).alloc (.cells (bcells bs) 142)).alloc (.cells Z 141)).heap.size = w.heap.size + 3 := by simp
  have hlow : w.heap.size + 3 ≤ w1.heap.size := by have := hb.size; omega
  have hbel : Below w.heap.size w w1 := ((((Below.refl _ _).alloc (by simp) _).alloc (by simp) _).alloc (by simp; omega) _).trans (hb.mono (by omega))
  have hbel2 : Below w.heap.size w (w1.alloc (.cells (wcells (Sha.sched bs)) 155)) := hbel.alloc (by omega) _
  refine ⟨?_, ?_, Whole.made _ _ _, hlow, hbel2, ?_⟩
  · exact ((((Whole.made w 141 (wcells l)).alloc _).alloc _).below hb (by omega)).alloc _
  · have h0 := Whole.made ((w.alloc (.cells (wcells l) 141)).alloc (.cells (bcells bs) 142)) 141 Z
    have h1 : Whole (((w.alloc (.cells (wcells l) 141)).alloc (.cells (bcells bs) 142)).alloc (.cells Z 141)) (w.heap.size + 1 + 1) 141 Z := by simpa using h0
    rw [← hZ]
    exact (h1.below hb (by omega)).alloc _
  · intro i hi
    rw [hbel2.cell (p := ⟨1, i, none⟩) hw]
    exact ht i hi

def Sha.acc (l r : List UInt32) : Nat → List UInt32
  | 0 => l
  | k + 1 => (Sha.acc l r k).set k ((Sha.acc l r k).getD k 0 + r.getD k 0)
theorem Sha.acc_length (l r : List UInt32) (k : Nat) : (Sha.acc l r k).length = l.length := by
  induction k with
  | zero => rfl
  | succ k ih => simp [Sha.acc, ih]
theorem mrel_step (bs : List UInt8) (w wx : World) (M : Nat) (l r : List UInt32) (k : Nat) (hw : 1 < w.heap.size) (h : MRel bs w M (Sha.acc l r k) wx) :
    MRel bs w M (Sha.acc l r (k + 1)) (wx.setCell ⟨w.heap.size, k, none⟩ (.int .u32 ((Sha.acc l r k).getD k 0 + r.getD k 0).toNat)) := by
  have hne : w.heap.size + 1 + 1 ≠ w.heap.size := by omega
  have hM := h.low
  refine ⟨?_, h.out.other (by show _ ≠ w.heap.size; omega) _, h.sch.other (by show _ ≠ w.heap.size; omega) _, h.low, h.bel.setCell (by show _ ≤ w.heap.size; omega) _, ?_⟩
  · have := h.words.set k (.int .u32 ((Sha.acc l r k).getD k 0 + r.getD k 0).toNat)
    rw [wcells_set] at this
    exact this
  · intro i hi
    rw [World.cell?_setCell_other _ _ _ _ (fun e => by injection e with e; omega)]
    exact h.tab i hi

theorem run_index35 (R : Array Value) (k : Nat) (n : Int) (hk : k < 8) (hx : R[k]? = some (.int .u32 n)) (w : World) :
    (Instr.index 141 (.agg R) (.int .i64 k)).run Tryd.prog w = .ok (.int .u32 n) w := by
  have h1 : (k : Int) < 8 := by omega
  simp [Instr.index, run_underlying Tryd.underlying141, asIntOf, go_sem, part, hx]
  intro h
  omega
theorem range_second (w : World) (c1 c2 : Array Value) (t1 t2 : TypeId) (o : Obj) : (((w.alloc (.cells c1 t1)).alloc (.cells c2 t2)).alloc o).rangeAt (w.heap.size + 1) 0 c2.toList := by
  have h := ((Whole.made (w.alloc (.cells c1 t1)) t2 c2).alloc o).range
  simpa using h
theorem whole8 {w : World} {g : Nat} {s : Sha.St} (h : Whole w g 141 (wcells s.list)) :
    w.cell? ⟨g, 0, none⟩ = some (.int .u32 s.a.toNat) ∧ w.cell? ⟨g, 1, none⟩ = some (.int .u32 s.b.toNat) ∧ w.cell? ⟨g, 2, none⟩ = some (.int .u32 s.c.toNat) ∧ w.cell? ⟨g, 3, none⟩ = some (.int .u32 s.d.toNat) ∧
    w.cell? ⟨g, 4, none⟩ = some (.int .u32 s.e.toNat) ∧ w.cell? ⟨g, 5, none⟩ = some (.int .u32 s.f.toNat) ∧ w.cell? ⟨g, 6, none⟩ = some (.int .u32 s.g.toNat) ∧ w.cell? ⟨g, 7, none⟩ = some (.int .u32 s.h.toNat) :=
  ⟨h.at_ rfl, h.at_ rfl, h.at_ rfl, h.at_ rfl, h.at_ rfl, h.at_ rfl, h.at_ rfl, h.at_ rfl⟩

set_option maxRecDepth 100000 in
set_option maxHeartbeats 1000000 in
theorem mix_any (s : Sha.St) (bs : List UInt8) (hl : bs.length = 64) (w : World) (ht : Tab w 1) (hw : 1 < w.heap.size) :
    Calls Tryd.prog 90 #[.agg (wcells s.list), .agg (bcells bs)] w fun e w' => e = .returned (.agg (wcells (Sha.mix s bs).list)) ∧ Below w.heap.size w w' := by
  have Hl : Hid (bs.length = 64) := hl
  have Ht := Lib.hid ht
  clear hl ht
  go_enter Tryd.func90, Tryd.ntmps90
  go_upto_region 1 with (fail)
  refine wp_region_lit ?_
  refine wpList_load_mid rfl 142 (.tmp 3) rfl (w.heap.size + 1) 0 ?_ (bcells bs).toList (.array 64 5) ?_ Tryd.underlying142 rfl ?_ ?_
  · rfl
  · exact range_second _ _ _ _ _ _
  · rw [Array.length_toList, bcells_size, Hl.out]; exact info36
  rw [Array.toArray_toList]
  go_wp2_with fail
  refine (sched_any bs Hl.out _).mono ?_
  rintro e w1 ⟨rfl, hb1⟩
  have hrel := mrel_start bs w w1 s.list _ rfl Ht.out hw hb1
  clear hb1
  simp only []
  go_step
  go_step
  go_step
  go_step
  refine wpList_store_made rfl 155 (.tmp 5) (.tmp 20) rfl _ (wcells (Sha.sched bs)) ?_ ?_ ?_ ?_ (wcells_one _) ?_
  · rfl
  · rfl
  · rw [wcells_size, Sha.sched, Sha.fill_length]; exact info46
  · rw [wcells_size, Sha.sched, Sha.fill_length]; rfl
  generalize w1.alloc (.cells (wcells (Sha.sched bs)) 155) = w2 at *
  generalize w1.heap.size = M at *
  obtain ⟨c0, c1, c2, c3, c4, c5, c6, c7⟩ := whole8 hrel.words
  have H := Lib.hid hrel
  clear hrel
  go_upto_region 2 with (fail)
  go_still (by kernel_rfl)
  change Exit.then _ _ _ _ w2.drew
  have H3 := Lib.hid H.out.drew
  clear H c0 c1 c2 c3 c4 c5 c6 c7
  generalize w2.drew = w3 at *
  obtain ⟨c0, c1, c2, c3, c4, c5, c6, c7⟩ := whole8 H3.out.words
  go_upto_region 3 with (fail)
  go_still (by kernel_rfl)
  change Exit.then _ _ _ _ w3.drew
  have H := Lib.hid H3.out.drew
  clear H3 c0 c1 c2 c3 c4 c5 c6 c7
  generalize w3.drew = w4 at *
  go_wp2_with fail
  go_loopw [6, 7, 8, 9, 10, 11, 12, 13, 37] (fun a b c d e f g h i wx => ∃ k : Nat, k ≤ 64 ∧ i = .int .i64 k ∧ MRel bs w M s.list wx ∧
      a = .int .u32 (Sha.rounds (Sha.sched bs) s k).a.toNat ∧ b = .int .u32 (Sha.rounds (Sha.sched bs) s k).b.toNat ∧ c = .int .u32 (Sha.rounds (Sha.sched bs) s k).c.toNat ∧ d = .int .u32 (Sha.rounds (Sha.sched bs) s k).d.toNat ∧
      e = .int .u32 (Sha.rounds (Sha.sched bs) s k).e.toNat ∧ f = .int .u32 (Sha.rounds (Sha.sched bs) s k).f.toNat ∧ g = .int .u32 (Sha.rounds (Sha.sched bs) s k).g.toNat ∧ h = .int .u32 (Sha.rounds (Sha.sched bs) s k).h.toNat)
    (fun _ _ _ _ _ _ _ _ i _ => 64 - (intOf i).toNat)
  case atStart => exact ⟨0, by omega, rfl, H.out, rfl, rfl, rfl, rfl, rfl, rfl, rfl, rfl⟩
  case round =>
    obtain ⟨k, hk, rfl, hrel, rfl, rfl, rfl, rfl, rfl, rfl, rfl, rfl⟩ := hrel
    clear H
    by_cases hlt : k < 64
    · have ck := hrel.tab k hlt
      have cw := hrel.sch.at_ (wcells_at (Sha.sched bs) k (by rw [Sha.sched, Sha.fill_length]; omega))
      have hst : Sha.step (Sha.rounds (Sha.sched bs) s k) (Sha.kk.getD k 0) ((Sha.sched bs).getD k 0) = Sha.rounds (Sha.sched bs) s (k + 1) := rfl
      have H := Lib.hid hrel.drew
      clear hrel
      generalize Sha.rounds (Sha.sched bs) s k = r at *
      generalize Sha.kk.getD k 0 = kv at *
      generalize (Sha.sched bs).getD k 0 = wv at *
      have HST := Lib.hid hst
      clear hst
      have k64 : (k : Int) < 64 := by omega
      go_upto_region 7 with (fail)
      refine wp_region_still_lit (by kernel_rfl) (by kernel_rfl) ?_
      repeat still_step
      still_call (turned_es _ _)
      repeat still_step
      refine wpStill_nil ?_
      change Exit.then _ _ _ _ wr.drew
      simp only [Sha.notif_u32, Sha.and_u32, Sha.or_u32, Sha.wadd_u32]
      clear ck cw
      rw [show r.h + Sha.big1 r.e + (r.e &&& r.f ||| ~~~r.e &&& r.g) + kv + wv = Sha.tt r kv wv from rfl]
      obtain ⟨T, hT⟩ : ∃ T, Sha.tt r kv wv = T := ⟨_, rfl⟩
      rw [hT]
      have HT := Lib.hid hT
      clear hT
      go_wp2_with (go_at_call 95; refine (turned_a _ _).mono ?_; rintro e w' ⟨rfl, rfl⟩)
      go_roundw
      case rel =>
        refine ⟨k + 1, by omega, by go_num, H.out, ?_⟩
        rw [← HST.out]
        simp only [Sha.and_u32, Sha.or_u32, Sha.add_u32]
        rw [← HT.out]
        exact ⟨rfl, rfl, rfl, rfl, rfl, rfl, rfl, rfl⟩
      case measure => simp [intOf]; omega
    · obtain rfl : k = 64 := by omega
      obtain ⟨r, hr⟩ : ∃ r, Sha.rounds (Sha.sched bs) s 64 = r := ⟨_, rfl⟩
      rw [hr]
      have HR := Lib.hid hr
      have H := Lib.hid hrel
      clear hr hrel hlt hk
      rw [show ((64 : Nat) : Int) = (64 : Int) from rfl]
      go_wp2_with fail
      rw [show (#[Value.int .u32 (r.a.toNat : Int), .int .u32 (r.b.toNat : Int), .int .u32 (r.c.toNat : Int), .int .u32 (r.d.toNat : Int), .int .u32 (r.e.toNat : Int), .int .u32 (r.f.toNat : Int), .int .u32 (r.g.toNat : Int), .int .u32 (r.h.toNat : Int)] : Array Value) = wcells r.list from rfl]
      go_loopw [97] (fun i wx => ∃ k : Nat, k ≤ 8 ∧ i = .int .i64 k ∧ MRel bs w M (Sha.acc s.list r.list k) wx) (fun i _ => 8 - (intOf i).toNat)
      case atStart => exact ⟨0, by omega, rfl, H.out⟩
      case round =>
        obtain ⟨k, hk, rfl, hrel⟩ := hrel
        clear H
        by_cases hlt : k < 8
        · have c0 := hrel.words.at_ (wcells_at _ k (by rw [Sha.acc_length]; exact hlt))
          have f0 := hrel.words.free k
          have hix : (wcells r.list)[k]? = some (.int .u32 (r.list.getD k 0).toNat) := wcells_at _ k hlt
          have H := Lib.hid (mrel_step bs w wr M s.list r.list k hw hrel)
          clear hrel
          generalize r.list.getD k 0 = y at *
          generalize (Sha.acc s.list r.list k).getD k 0 = x at *
          generalize wcells r.list = R at *
          have hrun := run_index35 R k y.toNat hlt hix
          clear hix
          have k8 : (k : Int) < 8 := by omega
          go_wp2_with fail
          go_roundw
          case rel =>
            refine ⟨k + 1, by omega, by go_num, ?_⟩
            simp only [Sha.add_u32]
            exact H.out
          case measure => simp [intOf]; omega
        · obtain rfl : k = 8 := by omega
          have hfin : Sha.acc s.list r.list 8 = (Sha.mix s bs).list := by
            unfold Sha.mix
            rw [HR.out]
            rfl
          rw [hfin] at hrel
          have hlen : (wcells (Sha.mix s bs).list).size = 8 := by rw [wcells_size]; rfl
          have hi : (Tryd.prog.info? 141).map (·.size) = some (wcells (Sha.mix s bs).list).toList.length := by rw [Array.length_toList, hlen]; exact info35
          have hth : wr.there (w.heap.size + 1 + 1) 0 (wcells (Sha.mix s bs).list).size := by
            have := hrel.out.there_
            rwa [wcells_size, List.length_replicate, ← hlen] at this
          have hone := wcells_one (Sha.mix s bs).list
          have hlo := hrel.words.range
          have hbel := hrel.bel
          clear hrel hfin
          generalize hS : wcells (Sha.mix s bs).list = W at *
          have HS := Lib.hid hS
          clear hS
          have HI := Lib.hid hi
          have HLO := Lib.hid hlo
          have HTH := Lib.hid hth
          have HONE := Lib.hid hone
          clear hi hlen hth hlo hone
          go_upto_region 16 with (fail)
          refine wp_region_lit ?_
          refine wpList_load_mid rfl 141 (.tmp 2) rfl w.heap.size 0 ?_ W.toList (.array 8 140) HLO.out Tryd.underlying141 rfl HI.out ?_
          · rfl
          rw [Array.toArray_toList]
          refine wpList_store_mid rfl 141 (.tmp 4) (.tmp 108) rfl (w.heap.size + 1 + 1) 0 W ?_ ?_ HTH.out ?_ HONE.out ?_
          · rfl
          · rfl
          · rw [HI.out, Array.length_toList]
          go_wp2_with fail
          refine bodyPost_ret (v := .agg W) ?_ rfl ⟨by rw [HS.out], below_setCells _ _ _ _ hbel (by omega)⟩
          rw [results_cell1 (p := 4) (ty := 141) Tryd.results90]
          have hr : (loadVar 141 ⟨w.heap.size + 1 + 1, 0, none⟩).run Tryd.prog (wr.setCells (w.heap.size + 1 + 1) 0 W.toList) = .ok (.agg W.toList.toArray) _ :=
            run_loadVar_mid _ (w.heap.size + 1 + 1) 0 141 W.toList (.array 8 140) (World.rangeAt_setCells_same _ _ _ _ (by rw [Array.length_toList]; exact HTH.out)) Tryd.underlying141 rfl HI.out
          rw [Array.toArray_toList] at hr
          exact hr
end Go.Proofs.YtolkpjbbfopmnaaDoor.Sh
namespace Go.Proofs.YtolkpjbbfopmnaaDoor.Sh
open Go.RowKit

structure Sha.Dg where
  s : Sha.St
  blk : List UInt8
  n : Nat
  len : UInt64

namespace Sha
def Dg.ok (D : Dg) : Prop := D.blk.length = 64 ∧ D.n < 64
def Dg.push (D : Dg) (b : UInt8) : Dg :=
  if D.n + 1 = 64 then ⟨mix D.s (D.blk.set D.n b), D.blk.set D.n b, 0, D.len⟩ else ⟨D.s, D.blk.set D.n b, D.n + 1, D.len⟩
def Dg.pushAll (D : Dg) (l : List UInt8) : Dg := l.foldl Dg.push D
def Dg.add (D : Dg) (l : List UInt8) : Dg := Dg.pushAll ⟨D.s, D.blk, D.n, D.len + UInt64.ofNat l.length⟩ l

theorem Dg.ok_push {D : Dg} (h : D.ok) (b : UInt8) : (D.push b).ok := by
  obtain ⟨h1, h2⟩ := h
  unfold Dg.push Dg.ok
  split
  · exact ⟨by simpa using h1, by show 0 < 64; omega⟩
  · exact ⟨by simpa using h1, by show D.n + 1 < 64; omega⟩
theorem Dg.ok_pushAll {D : Dg} (h : D.ok) (l : List UInt8) : (D.pushAll l).ok := by
  induction l generalizing D with
  | nil => exact h
  | cons b r ih => exact ih (Dg.ok_push h b)
theorem Dg.ok_add {D : Dg} (h : D.ok) (l : List UInt8) : (D.add l).ok := Dg.ok_pushAll (D := ⟨D.s, D.blk, D.n, D.len + UInt64.ofNat l.length⟩) ⟨h.1, h.2⟩ l
theorem Dg.pushAll_append (D : Dg) (a b : List UInt8) : D.pushAll (a ++ b) = (D.pushAll a).pushAll b := List.foldl_append ..
theorem Dg.pushAll_len (D : Dg) (l : List UInt8) : (D.pushAll l).len = D.len := by
  induction l generalizing D with
  | nil => rfl
  | cons b r ih =>
    show ((D.push b).pushAll r).len = D.len
    rw [ih]; unfold Dg.push; split <;> rfl

/-- The block with the bytes l at place n. -/
def lay (blk : List UInt8) (n : Nat) (l : List UInt8) : List UInt8 := blk.take n ++ l ++ blk.drop (n + l.length)
theorem lay_length (blk : List UInt8) (n : Nat) (l : List UInt8) (h : n + l.length ≤ blk.length) : (lay blk n l).length = blk.length := by
  simp [lay]; omega
theorem lay_cons (blk : List UInt8) (n : Nat) (b : UInt8) (r : List UInt8) (h : n < blk.length) : lay (blk.set n b) (n + 1) r = lay blk n (b :: r) := by
  unfold lay
  have e1 : (blk.set n b).take (n + 1) = blk.take n ++ [b] := by
    rw [List.take_add_one, List.take_set_of_le (Nat.le_refl n)]
    simp [h]
  have e2 : (blk.set n b).drop (n + 1 + r.length) = blk.drop (n + 1 + r.length) := by
    rw [List.drop_set_of_lt (by omega)]
  rw [e1, e2]
  simp [Nat.add_assoc, Nat.add_comm 1]
theorem pushAll_some (D : Dg) (l : List UInt8) (h : D.blk.length = 64) (hn : D.n + l.length < 64) :
    D.pushAll l = ⟨D.s, lay D.blk D.n l, D.n + l.length, D.len⟩ := by
  induction l generalizing D with
  | nil => simp [Dg.pushAll, lay]
  | cons b r ih =>
    have hn' : D.n + 1 + r.length < 64 := by simp at hn; omega
    show (D.push b).pushAll r = _
    have e : D.push b = ⟨D.s, D.blk.set D.n b, D.n + 1, D.len⟩ := by unfold Dg.push; rw [if_neg (by omega)]
    rw [e, ih _ (by simpa using h) hn', lay_cons _ _ _ _ (by omega)]
    simp [Nat.add_assoc, Nat.add_comm 1]
theorem pushAll_full (D : Dg) (l : List UInt8) (h : D.blk.length = 64) (hl : l ≠ []) (hn : D.n + l.length = 64) :
    D.pushAll l = ⟨mix D.s (lay D.blk D.n l), lay D.blk D.n l, 0, D.len⟩ := by
  induction l generalizing D with
  | nil => exact absurd rfl hl
  | cons b r ih =>
    have hn' : D.n + 1 + r.length = 64 := by simp at hn; omega
    show (D.push b).pushAll r = _
    by_cases hr : r = []
    · subst hr
      have e : D.push b = ⟨mix D.s (D.blk.set D.n b), D.blk.set D.n b, 0, D.len⟩ := by unfold Dg.push; rw [if_pos (by simpa using hn')]
      have e2 : lay D.blk D.n [b] = D.blk.set D.n b := by
        rw [← lay_cons _ _ _ _ (by omega)]; simp [lay]
      rw [e, e2]
      rfl
    · have hr0 : 0 < r.length := List.length_pos_iff.2 hr
      have e : D.push b = ⟨D.s, D.blk.set D.n b, D.n + 1, D.len⟩ := by unfold Dg.push; rw [if_neg (by omega)]
      rw [e, ih _ (by simpa using h) hr hn', lay_cons _ _ _ _ (by omega)]
end Sha

def V8 (b : UInt8) : Value := .int .u8 b.toNat
def V32 (x : UInt32) : Value := .int .u32 x.toNat
/-- The running sum's 74 cells. -/
def dvals (s : Sha.St) (blk : List UInt8) (n : Nat) (len : UInt64) : List Value := s.list.map V32 ++ (blk.map V8 ++ [.int .i64 n, .int .u64 len.toNat])
def dcells (D : Sha.Dg) : Array Value := (dvals D.s D.blk D.n D.len).toArray

theorem dvals_length (s : Sha.St) (blk : List UInt8) (n : Nat) (len : UInt64) (h : blk.length = 64) : (dvals s blk n len).length = 74 := by
  simp [dvals, Sha.St.list, h]
theorem dvals_72 (s : Sha.St) (blk : List UInt8) (n : Nat) (len : UInt64) (h : blk.length = 64) : (dvals s blk n len)[72]? = some (.int .i64 n) := by
  have e : (s.list.map V32).length = 8 := rfl
  have e2 : (blk.map V8).length = 64 := by simp [h]
  unfold dvals
  rw [List.getElem?_append_right (by omega), List.getElem?_append_right (by omega), e, e2]
  rfl
theorem dvals_73 (s : Sha.St) (blk : List UInt8) (n : Nat) (len : UInt64) (h : blk.length = 64) : (dvals s blk n len)[73]? = some (.int .u64 len.toNat) := by
  have e : (s.list.map V32).length = 8 := rfl
  have e2 : (blk.map V8).length = 64 := by simp [h]
  unfold dvals
  rw [List.getElem?_append_right (by omega), List.getElem?_append_right (by omega), e, e2]
  rfl
theorem dvals_set72 (s : Sha.St) (blk : List UInt8) (n m : Nat) (len : UInt64) (h : blk.length = 64) : (dvals s blk n len).set 72 (.int .i64 m) = dvals s blk m len := by
  have e : (s.list.map V32).length = 8 := rfl
  have e2 : (blk.map V8).length = 64 := by simp [h]
  unfold dvals
  rw [List.set_append_right _ _ (by omega), List.set_append_right _ _ (by omega), e, e2]
  rfl
theorem dvals_set73 (s : Sha.St) (blk : List UInt8) (n : Nat) (len len' : UInt64) (h : blk.length = 64) : (dvals s blk n len).set 73 (.int .u64 len'.toNat) = dvals s blk n len' := by
  have e : (s.list.map V32).length = 8 := rfl
  have e2 : (blk.map V8).length = 64 := by simp [h]
  unfold dvals
  rw [List.set_append_right _ _ (by omega), List.set_append_right _ _ (by omega), e, e2]
  rfl

/-- A stretch of a whole block, stored anew. -/
theorem Whole.setCells {g : Nat} {t : TypeId} : ∀ (vs : List Value) (pre old post : List Value) {w : World}, Whole w g t (pre ++ (old ++ post)).toArray → old.length = vs.length →
    Whole (w.setCells g pre.length vs) g t (pre ++ (vs ++ post)).toArray := by
  intro vs
  induction vs with
  | nil =>
    intro pre old post w h hl
    have : old = [] := List.eq_nil_of_length_eq_zero (by simpa using hl)
    subst this
    exact h
  | cons v r ih =>
    intro pre old post w h hl
    cases old with
    | nil => simp at hl
    | cons u old =>
      have h1 := h.set pre.length v
      have e : ((pre ++ (u :: old ++ post)).toArray).setIfInBounds pre.length v = ((pre ++ [v]) ++ (old ++ post)).toArray := by
        simp
      rw [e] at h1
      have h2 := ih (pre ++ [v]) old post h1 (by simpa using hl)
      simpa [World.setCells] using h2

/-- What the bytes of the block read as behind a copy. -/
theorem whole_lay {w : World} {g : Nat} (s : Sha.St) (blk : List UInt8) (n : Nat) (len : UInt64) (l : List UInt8) (hl : blk.length = 64) (hn : n + l.length ≤ 64) (c : Nat)
    (h : Whole w g 144 (dvals s blk c len).toArray) : Whole (w.setCells g (8 + n) (l.map V8)) g 144 (dvals s (Sha.lay blk n l) c len).toArray := by
  have e0 : dvals s blk c len = (s.list.map V32 ++ (blk.take n).map V8) ++ (((blk.drop n).take l.length).map V8 ++ ((blk.drop (n + l.length)).map V8 ++ [.int .i64 c, .int .u64 len.toNat])) := by
    unfold dvals
    have : blk = blk.take n ++ ((blk.drop n).take l.length ++ blk.drop (n + l.length)) := by
      rw [← List.drop_drop, List.take_append_drop, List.take_append_drop]
    conv => lhs; rw [this]
    simp only [List.map_append, List.append_assoc]
  have e1 : (s.list.map V32 ++ (blk.take n).map V8).length = 8 + n := by
    simp [Sha.St.list]; omega
  rw [e0] at h
  have h1 := Whole.setCells (l.map V8) _ _ _ h (by simp; omega)
  rw [e1] at h1
  have e2 : dvals s (Sha.lay blk n l) c len = (s.list.map V32 ++ (blk.take n).map V8) ++ (l.map V8 ++ ((blk.drop (n + l.length)).map V8 ++ [.int .i64 c, .int .u64 len.toNat])) := by
    unfold dvals Sha.lay
    simp only [List.map_append, List.append_assoc]
  rw [e2]
  exact h1
/-- The eight words, stored anew. -/
theorem whole_words {w : World} {g : Nat} (s s' : Sha.St) (blk : List UInt8) (n : Nat) (len : UInt64) (h : Whole w g 144 (dvals s blk n len).toArray) :
    Whole (w.setCells g 0 (s'.list.map V32)) g 144 (dvals s' blk n len).toArray :=
  Whole.setCells (s'.list.map V32) [] (s.list.map V32) _ h rfl
theorem range_words {w : World} {g : Nat} (s : Sha.St) (blk : List UInt8) (n : Nat) (len : UInt64) (h : Whole w g 144 (dvals s blk n len).toArray) : w.rangeAt g 0 (s.list.map V32) := fun j v hv => by
  refine h.at_ ?_
  rw [Nat.zero_add, List.getElem?_toArray]
  unfold dvals
  rw [List.getElem?_append_left (List.getElem?_eq_some_iff.1 hv).1]
  exact hv
theorem range_blk {w : World} {g : Nat} (s : Sha.St) (blk : List UInt8) (n : Nat) (len : UInt64) (h : Whole w g 144 (dvals s blk n len).toArray) : w.rangeAt g 8 (blk.map V8) := fun j v hv => by
  refine h.at_ ?_
  have e : (s.list.map V32).length = 8 := rfl
  rw [List.getElem?_toArray]
  unfold dvals
  rw [List.getElem?_append_right (by omega), e, Nat.add_sub_cancel_left, List.getElem?_append_left (List.getElem?_eq_some_iff.1 hv).1]
  exact hv

#print axioms whole_lay
end Go.Proofs.YtolkpjbbfopmnaaDoor.Sh
