/-
  The statements' fixed facts (chapter 1's two examples) come out true: condition: the table holds its words. It only makes memory of its own.
  What the statement's function ShaCuts returns: true, whatever bytes and cuts come in; conditions: both slices are read, and the table holds its words. It only makes memory of its own.
  What the document's answer calls turn returns; the sum of bytes, block by block: no condition but the turn's range.
  Small facts for the walk of the document's answer Sum: words out of bytes by adding, a new row of 64 words, how memory stands while the text is padded and its blocks are mixed: no condition.
  Small facts for the statements' functions: parts handed over, rows of the call's own read as bytes, a table behind a call: no condition.
  How bytes, lists of bytes and fields lie in memory: small facts that the walks lean on: no condition.
  What bytes.Clone, tlv.appendPiece, tlv.Put and the document's Put return; conditions: what is handed over is read, and no longer than memory can be. They only make memory of their own.
-/
import Derived.Lib.SlBytesConst
import Derived.Stop.BytesEq
import Derived.Maps.AppendAt
import Derived.Deep.AppendLies
import Derived.Deep.QuietTactic
import Derived.BigQuiet
import Derived.Deep.CutBlock
import Derived.Test.YtolkpjbbfopmnaaDoorProg
import Derived.WalkKit
import Derived.WalkSpells
import Derived.Lib.Hide
import Derived.Deep.WholeRow
import Derived.Deep.MidRow
import Derived.Deep.Draws
import Derived.Laws.OwnMore
import Derived.IntWalk
import Derived.StillTailTactics
import Derived.Deep.DeepCutAuto
import Derived.Laws.MakeOwn
import Derived.Lib.SliceRun
import Derived.Test.YtolkpjbbfopmnaaDoorCY01
import Derived.Test.YtolkpjbbfopmnaaDoorCY03
namespace Go.Proofs.YtolkpjbbfopmnaaDoor.Sh
open Go.RowKit

theorem sum_length (bs : List UInt8) : (Sha.sum bs).length = 32 := Sha.outTo_length _ _

theorem Whole.setAll {w : World} {g : Nat} {t : TypeId} {cs vs : Array Value} (h : Whole w g t cs) (hl : cs.size = vs.size) : Whole (w.setCells g 0 vs.toList) g t vs := by
  have h1 : Whole w g t ([] ++ (cs.toList ++ [])).toArray := by simpa using h
  have := Whole.setCells vs.toList [] cs.toList [] h1 (by simpa using hl)
  simpa using this
end Go.Proofs.YtolkpjbbfopmnaaDoor.Sh
namespace Go.Proofs.YtolkpjbbfopmnaaDoor.Sh
open Go.RowKit

theorem info5 : (Tryd.prog.info? 5).map (fun i => (i.zero, i.size, i.bytes)) = some (some (.int .u8 0), 1, 1) := by kernel_rfl
theorem info22 : (Tryd.prog.info? 31).map (fun i => (i.zero, i.size, i.bytes)) = some (some (.slice none 0 0), 1, 24) := by kernel_rfl

theorem info_of {t : TypeId} {z : Value} {s b : Nat} (h : (Tryd.prog.info? t).map (fun i => (i.zero, i.size, i.bytes)) = some (some z, s, b)) :
    ∃ i, Tryd.prog.info? t = some i ∧ i.zero = some z ∧ i.size = s ∧ i.bytes = b := by
  cases hq : Tryd.prog.info? t with
  | none => simp [hq] at h
  | some i =>
    simp [hq] at h
    exact ⟨i, rfl, h.1, h.2.1, h.2.2⟩

/-- Bytes that are read, appended to a row of the call's own. -/
theorem wpList_append_reads {ops : Array Oper} {rest : List Oper} {o : Oper} {a : Act} {w : World} {Q : Exit → Act → World → Prop} (hgd : o.guard = none) (s x : Operand)
    (ho : o.op = .call { callee := .builtin .append, args := #[s, x], argTypes := #[31, 31] })
    (base : Nat) (v : Value) (n : Nat) (xs : List Value) (hs : a.eval s = v) (hown : w.ownsRow base 5 1 v n xs)
    (A : Option Addr) (m c : Nat) (bs : List UInt8) (hx : a.eval x = .slice A m c) (hr : Reads w A m bs)
    (hb : n + m ≤ 140737488355328) (hbase : base ≤ w.heap.size)
    (h : ∀ v' w', w'.ownsRow base 5 1 v' (n + m) (xs ++ bs.map V8) → w.grownBy w' v.ownBlock → (v'.ownBlock = v.ownBlock ∨ v'.ownBlock = some w.heap.size) → wpList Tryd.prog ops Q rest (a.put o.dst v') w') :
    wpList Tryd.prog ops Q (o :: rest) a w := by
  obtain ⟨i, hi, hz, hsz, hby⟩ := info_of info5
  cases A with
  | none =>
    have hm : m = 0 := by
      rcases Nat.eq_zero_or_pos m with h0 | h0
      · exact h0
      · obtain ⟨b, o, h1, _⟩ := hr.2 h0; cases h1
    subst hm
    have hbs : bs = [] := List.eq_nil_of_length_eq_zero hr.1
    subst hbs
    have hrun : (Builtin.append_ #[31, 31] o.type #[v, .slice none 0 c]).run Tryd.prog w = .ok v w := by
      rcases hown.2 with ⟨rfl, rfl⟩ | ⟨g, cap, cur, rfl, _, _, hnc, _⟩
      · simp [Builtin.append_, run_underlying Tryd.underlying31, sizeOf, typeInfo, hi, Builtin.lenOf, Builtin.firstCells]
      · simp [Builtin.append_, run_underlying Tryd.underlying31, sizeOf, typeInfo, hi, Builtin.lenOf, Builtin.firstCells, hnc, storeCells]
    refine wpList_plain hgd fun K hK => ?_
    unfold Oper.wp
    simp [execOp, ho, resolve, invoke, builtin, hs, hx, hrun, Result.andThen]
    refine hK _ _ (h v w ?_ (World.grownBy.refl w _) (.inl rfl))
    simpa using hown
  | some ad =>
    refine wpList_append_own_at w hgd s x 31 ho base 5 i (.int .u8 0) 1 1 Tryd.underlying31 hi hz hsz hby rfl (by omega) v n xs hs hown ad m c (bs.map V8) hx (by rw [List.length_map, hr.1, Nat.mul_one]) ?_ ?_ (by unfold maxLen; omega) (by omega) hbase
      (fun v' w' h1 h2 _ h4 => h v' w' h1 h2 h4)
    · intro j u hu
      rw [List.getElem?_map, Option.map_eq_some_iff] at hu
      obtain ⟨y, hy, rfl⟩ := hu
      have hm : 0 < m := by have := (List.getElem?_eq_some_iff.1 hy).1; rw [hr.1] at this; omega
      obtain ⟨b, o, h1, _, h3⟩ := hr.2 hm
      obtain rfl := Option.some.inj h1
      rw [Addr.add_mid]
      exact h3 j y hy
    · intro u hu
      simp only [List.mem_map] at hu
      obtain ⟨y, _, rfl⟩ := hu
      rfl

theorem reads_new (w : World) (t : TypeId) (bs : List UInt8) (m : Nat) (hm : bs.length = m) : Reads (w.alloc (.cells (bs.map V8).toArray t)) (some ⟨w.heap.size, 0, none⟩) m bs :=
  ⟨hm, fun _ => ⟨w.heap.size, 0, rfl, by simp, fun j v hv => (Whole.made w t _).at_ (by rw [Nat.zero_add, List.getElem?_toArray, List.getElem?_map, hv]; rfl)⟩⟩

/-- A stretch of a row of bytes, read as a slice. -/
def Row (w : World) (g : Nat) (bs : List UInt8) : Prop := g < w.heap.size ∧ ∀ j v, bs[j]? = some v → w.cell? ⟨g, j, none⟩ = some (V8 v)
theorem Row.below {w w' : World} {g : Nat} {bs : List UInt8} (h : Row w g bs) (hb : Below w.heap.size w w') : Row w' g bs :=
  ⟨Nat.lt_of_lt_of_le h.1 hb.size, fun j v hv => by rw [hb.cell (p := ⟨g, j, none⟩) h.1]; exact h.2 j v hv⟩
theorem row_of_take {w : World} {g : Nat} {cur : Array Value} {t : TypeId} {l : List UInt8} {k : Nat} (h : w.heap[g]? = some (.cells cur t (0, 0))) (ht : cur.toList.take k = l.map V8) : Row w g l :=
  ⟨(Array.getElem?_eq_some_iff.1 h).1, fun j v hv => by
    rw [cell_of_row w g j cur t (0, 0) h]
    have h1 : (cur.toList.take k)[j]? = some (V8 v) := by rw [ht, List.getElem?_map, hv]; rfl
    rw [List.getElem?_take] at h1
    split at h1
    · simpa using h1
    · cases h1⟩

/-- The value x is a slice that reads as the bytes l. -/
def SP (w : World) (x : Value) (l : List UInt8) : Prop := ∃ A n c, x = .slice A n c ∧ n ≤ c ∧ n ≤ 140737488355328 ∧ Reads w A n l

/-- How it stands behind k cuts: o bytes are cut off; the parts ls, as the values xs, lie in a row of the call's own. -/
structure CRel (w4 : World) (bs : List UInt8) (k o : Nat) (vp : Value) (xs : List Value) (ls : List (List UInt8)) (wx : World) : Prop where
  own : wx.ownsRow w4.heap.size 31 1 vp k xs
  len : ls.length = k
  all : ls.flatten = bs.take o
  each : ∀ (j : Nat) x l, xs[j]? = some x → ls[j]? = some l → SP w4 x l
  bel : Below w4.heap.size w4 wx
  out : o ≤ bs.length

theorem parts_one (w : World) (t : TypeId) (A : Option Addr) (n c : Nat) (bs : List UInt8) (hr : Reads w A n bs) (hnc : n ≤ c) (hn : n ≤ 140737488355328) :
    Parts (w.alloc (.cells #[.slice A n c] t)) (some ⟨w.heap.size, 0, none⟩) 1 [bs] := by
  refine ⟨rfl, fun _ => ⟨w.heap.size, 0, rfl, by simp, fun j l hl => ?_⟩⟩
  have hj : j < 1 := (List.getElem?_eq_some_iff.1 hl).1
  obtain rfl : j = 0 := by omega
  simp at hl
  subst hl
  exact ⟨A, n, c, (Whole.made w t _).at_ rfl, hnc, hn, hr.below ((Below.refl _ _).alloc (Nat.le_refl _) _)⟩

/-- string(b) of bytes that are read. -/
theorem run_string (w : World) (A : Option Addr) (n c : Nat) (bs : List UInt8) (hr : Reads w A n bs) : (convert 31 9 (.slice A n c)).run Tryd.prog w = .ok (.string ⟨bs.toArray⟩) w := by
  obtain ⟨hn, hall⟩ := hr
  subst hn
  cases A with
  | none =>
    have hbs : bs = [] := by
      rcases Nat.eq_zero_or_pos bs.length with h0 | h0
      · exact List.eq_nil_of_length_eq_zero h0
      · obtain ⟨b, o, h1, _⟩ := hall h0; cases h1
    subst hbs
    rw [run_convert_bytes_string w 31 9 5 none _ _ Tryd.underlying31 Tryd.underlying5 Tryd.underlying9]
    rfl
  | some ad =>
    refine run_convert_bytes_back w 31 9 5 ad c bs Tryd.underlying31 Tryd.underlying5 Tryd.underlying9 fun j hj => ?_
    obtain ⟨b, o, h1, _, h3⟩ := hall (by omega)
    obtain rfl := Option.some.inj h1
    rw [Addr.add_mid]
    exact h3 j _ (List.getElem?_eq_getElem hj)

end Go.Proofs.YtolkpjbbfopmnaaDoor.Sh
namespace Go.Proofs.YtolkpjbbfopmnaaDoor.Sh
open Go.RowKit
theorem or_comm32 (x y : UInt32) : x ||| y = y ||| x := by
  apply UInt32.eq_of_toBitVec_eq
  simp only [UInt32.toBitVec_or]
  exact BitVec.or_comm _ _

set_option maxHeartbeats 400000 in
theorem turn_any (x : UInt32) (i : Nat) (m : Int) (hm : m = (i : Int)) (h1 : 1 ≤ i) (h2 : i ≤ 31) (w : World) :
    Calls Tryd.prog 88 #[.int .u32 x.toNat, .int .i64 m] w fun e w' => e = .returned (.int .u32 (Sha.rotr x i).toNat) ∧ w' = w.drew := by
  subst hm
  have HE : Hid (bits .or .u32 ((x.toNat : Int) / 2 ^ i) (IntKind.u32.wrap ((x.toNat : Int) * 2 ^ (32 - i))) = ((Sha.rotr x i).toNat : Int)) := Lib.hid (by
    rw [Sha.wshl_u32 x (32 - i) (by omega), Sha.shr_u32 x i (by omega), Sha.or_u32, Sha.rotr, or_comm32])
  have q : IntKind.i64.wrap (32 - (i : Int)) = 32 - (i : Int) := IntWalk.i64_in _ (by omega)
  have z0 : 0 ≤ 32 - (i : Int) := by omega
  have z1 : 32 - (i : Int) ≤ 32 := by omega
  have t1 : (32 - (i : Int)).toNat = 32 - i := by omega
  have i32 : (i : Int) ≤ 32 := by omega
  go_enter Tryd.func88, Tryd.ntmps88
  go_upto_region 1 with (fail)
  go_still (by kernel_rfl)
  change Exit.then _ _ _ _ w.drew
  go_wp2
  go_ret
  exact ⟨ret_int HE.out, rfl⟩

theorem turn_q (x : UInt32) (i : Nat) (h : 1 ≤ i ∧ i ≤ 31) (w : World) :
    Calls Tryd.prog 88 #[.int .u32 x.toNat, .int .i64 i] w fun e w' => e = .returned (.int .u32 (Sha.rotr x i).toNat) ∧ ∃ m, w' = w.drewN m :=
  (turn_any x i i rfl h.1 h.2 w).mono fun _ _ ⟨h1, h2⟩ => ⟨h1, 1, h2⟩

namespace Sha
/-- The words behind k blocks. -/
def run (msg : List UInt8) : Nat → St
  | 0 => init
  | k + 1 => mix (run msg k) ((msg.drop (64 * k)).take 64)
theorem run_pushAll (msg : List UInt8) (k : Nat) (h : 64 * k ≤ msg.length) : ∃ B : List UInt8, B.length = 64 ∧ dg0.pushAll (msg.take (64 * k)) = ⟨run msg k, B, 0, 0⟩ := by
  induction k with
  | zero => exact ⟨List.replicate 64 0, rfl, rfl⟩
  | succ k ih =>
    obtain ⟨B, hB, hp⟩ := ih (by omega)
    have hl : ((msg.drop (64 * k)).take 64).length = 64 := by rw [List.length_take, List.length_drop]; omega
    have e : msg.take (64 * (k + 1)) = msg.take (64 * k) ++ (msg.drop (64 * k)).take 64 := by
      rw [show 64 * (k + 1) = 64 * k + 64 by omega, List.take_add]
    refine ⟨(msg.drop (64 * k)).take 64, hl, ?_⟩
    rw [e, Dg.pushAll_append, hp, pushAll_full _ _ hB (by intro h0; rw [h0] at hl; simp at hl) (by show 0 + _ = 64; rw [hl])]
    have e2 : lay B 0 ((msg.drop (64 * k)).take 64) = (msg.drop (64 * k)).take 64 := by
      unfold lay
      rw [hl, List.take_zero, List.nil_append, show B.drop (0 + 64) = [] from List.drop_of_length_le (by omega), List.append_nil]
    show (⟨mix (run msg k) (lay B 0 ((msg.drop (64 * k)).take 64)), lay B 0 ((msg.drop (64 * k)).take 64), 0, 0⟩ : Dg) = _
    rw [e2]
    rfl
def padded (bs : List UInt8) : List UInt8 := bs ++ padding bs.length (UInt64.ofNat bs.length * 8)
theorem be8_length (L : UInt64) : (be8 L).length = 8 := by simp [be8]
theorem padded_length (bs : List UInt8) : (padded bs).length = bs.length + 1 + zeros bs.length + 8 := by
  unfold padded padding
  simp only [List.length_append, List.length_cons, List.length_replicate, be8_length]
  omega
theorem padded_blocks (bs : List UInt8) : (padded bs).length = 64 * ((padded bs).length / 64) := by
  rw [padded_length]
  unfold zeros
  omega
theorem sum_run (bs : List UInt8) : sum bs = out (run (padded bs) ((padded bs).length / 64)) := by
  obtain ⟨B, _, h⟩ := run_pushAll (padded bs) ((padded bs).length / 64) (by have := padded_blocks bs; omega)
  rw [← padded_blocks, List.take_of_length_le (Nat.le_refl _)] at h
  unfold sum
  show out (dg0.pushAll (padded bs)).s = _
  rw [h]
end Sha
end Go.Proofs.YtolkpjbbfopmnaaDoor.Sh
namespace Go.Proofs.YtolkpjbbfopmnaaDoor.Sh
open Go.RowKit
theorem info34 : (Tryd.prog.info? 140).map (fun i => (i.zero, i.size, i.bytes)) = some (some (.int .u32 0), 1, 4) := by kernel_rfl
def z64 : List UInt32 := List.replicate 64 0
theorem run_make64 (w : World) : (Instr.makeSlice 153 (.int .i64 64) (.int .i64 64)).run Tryd.prog w = .ok (.slice (some ⟨w.heap.size, 0, none⟩) 64 64) (w.alloc (.cells (wcells z64) 140)) := by
  obtain ⟨i, hi, hz, hs, hb⟩ := info_of info34
  have hr := run_make (P := Tryd.prog) w 153 140 i (.int .u32 0) Tryd.underlying153 hi hz .i64 .i64 64 64 (by omega) (by omega) (by rw [hb]; decide) (by omega)
  rw [hs] at hr
  rw [show wcells z64 = madeCells (Value.cells (.int .u32 0)) ((64 : Int).toNat * 1) from by kernel_rfl]
  exact hr
namespace Sha
theorem mkWord_toNat (b0 b1 b2 b3 : UInt8) : (mkWord b0 b1 b2 b3).toNat = b0.toNat * 16777216 + b1.toNat * 65536 + b2.toNat * 256 + b3.toNat := by
  have h0 := b0.toNat_lt
  have h1 := b1.toNat_lt
  have h2 := b2.toNat_lt
  have h3 := b3.toNat_lt
  have e0 : (b0.toUInt32 <<< 24).toNat = b0.toNat * 2 ^ 24 := by
    rw [UInt32.toNat_shiftLeft, UInt8.toNat_toUInt32]
    show b0.toNat <<< 24 % 4294967296 = _
    rw [Nat.shiftLeft_eq]
    exact Nat.mod_eq_of_lt (by omega)
  have e1 : (b1.toUInt32 <<< 16).toNat = b1.toNat * 2 ^ 16 := by
    rw [UInt32.toNat_shiftLeft, UInt8.toNat_toUInt32]
    show b1.toNat <<< 16 % 4294967296 = _
    rw [Nat.shiftLeft_eq]
    exact Nat.mod_eq_of_lt (by omega)
  have e2 : (b2.toUInt32 <<< 8).toNat = b2.toNat * 2 ^ 8 := by
    rw [UInt32.toNat_shiftLeft, UInt8.toNat_toUInt32]
    show b2.toNat <<< 8 % 4294967296 = _
    rw [Nat.shiftLeft_eq]
    exact Nat.mod_eq_of_lt (by omega)
  unfold mkWord
  rw [UInt32.toNat_or, UInt32.toNat_or, UInt32.toNat_or, e0, e1, e2, UInt8.toNat_toUInt32]
  have s1 : b0.toNat * 2 ^ 24 ||| b1.toNat * 2 ^ 16 = b0.toNat * 2 ^ 24 + b1.toNat * 2 ^ 16 := by
    rw [Nat.mul_comm b0.toNat]
    exact (Nat.two_pow_add_eq_or_of_lt (i := 24) (b := b1.toNat * 2 ^ 16) (by omega) b0.toNat).symm
  rw [s1]
  have s2 : (b0.toNat * 2 ^ 24 + b1.toNat * 2 ^ 16) ||| b2.toNat * 2 ^ 8 = (b0.toNat * 2 ^ 24 + b1.toNat * 2 ^ 16) + b2.toNat * 2 ^ 8 := by
    rw [show b0.toNat * 2 ^ 24 + b1.toNat * 2 ^ 16 = 2 ^ 16 * (b0.toNat * 256 + b1.toNat) by omega]
    exact (Nat.two_pow_add_eq_or_of_lt (i := 16) (b := b2.toNat * 2 ^ 8) (by omega) _).symm
  rw [s2]
  have s3 : (b0.toNat * 2 ^ 24 + b1.toNat * 2 ^ 16 + b2.toNat * 2 ^ 8) ||| b3.toNat = (b0.toNat * 2 ^ 24 + b1.toNat * 2 ^ 16 + b2.toNat * 2 ^ 8) + b3.toNat := by
    rw [show b0.toNat * 2 ^ 24 + b1.toNat * 2 ^ 16 + b2.toNat * 2 ^ 8 = 2 ^ 8 * (b0.toNat * 65536 + b1.toNat * 256 + b2.toNat) by omega]
    exact (Nat.two_pow_add_eq_or_of_lt (i := 8) (b := b3.toNat) (by omega) _).symm
  rw [s3]
theorem word_plus (b0 b1 b2 b3 : UInt8) : IntKind.u32.wrap (IntKind.u32.wrap (IntKind.u32.wrap (IntKind.u32.wrap (IntKind.u32.wrap (b0.toNat : Int) * 16777216) + IntKind.u32.wrap (IntKind.u32.wrap (b1.toNat : Int) * 65536)) + IntKind.u32.wrap (IntKind.u32.wrap (b2.toNat : Int) * 256)) + IntKind.u32.wrap (b3.toNat : Int)) = ((mkWord b0 b1 b2 b3).toNat : Int) := by
  have h0 := b0.toNat_lt
  have h1 := b1.toNat_lt
  have h2 := b2.toNat_lt
  have h3 := b3.toNat_lt
  rw [mkWord_toNat]
  simp only [IntKind.wrap_u32']
  omega
theorem sum5 (a b c d e : UInt32) : (((a.toNat : Int) + (b.toNat : Int) + (c.toNat : Int) + (d.toNat : Int)) % (4294967296 : Int) + (e.toNat : Int)) % (4294967296 : Int) = ((a + b + c + d + e).toNat : Int) := by
  simp only [UInt32.toNat_add]
  omega
theorem shr3 (x : UInt32) : (x.toNat : Int) / (8 : Int) = ((x >>> 3).toNat : Int) := shr_u32 x 3 (by omega)
theorem shr10 (x : UInt32) : (x.toNat : Int) / (1024 : Int) = ((x >>> 10).toNat : Int) := shr_u32 x 10 (by omega)
end Sha

/-- How it stands while the text is padded: the text so far, in a row of the call's own. -/
structure RPad (w : World) (v : Value) (l : List UInt8) (wx : World) : Prop where
  own : wx.ownsRow w.heap.size 5 1 v l.length (l.map V8)
  res : Whole wx w.heap.size 29 (bcells (List.replicate 32 0))
  bel : Below w.heap.size w wx
  apart : ∀ k, v.ownBlock = some k → w.heap.size < k

theorem rpad_step {w wx w' : World} {v v' : Value} {l : List UInt8} {b : UInt8} (h : RPad w v l wx) (t : TypeId)
    (h1 : w'.ownsRow w.heap.size 5 1 v' (l.length + 1) (l.map V8 ++ [b].map V8)) (h2 : (wx.alloc (.cells #[.int .u8 (b.toNat : Int)] t)).grownBy w' v.ownBlock) (h3 : v'.ownBlock = v.ownBlock ∨ v'.ownBlock = some (wx.alloc (.cells #[.int .u8 (b.toNat : Int)] t)).heap.size) :
    RPad w v' (l ++ [b]) w' := by
  have hs := h.bel.size
  refine ⟨by rw [List.length_append, List.map_append]; exact h1, ?_, (h.bel.alloc hs _).grown h2 (by simp; omega) (fun k hk => (h.own.lt k hk).1), ?_⟩
  · have h4 : Whole (wx.alloc (.cells #[.int .u8 (b.toNat : Int)] t)) w.heap.size 29 (bcells (List.replicate 32 0)) := h.res.alloc _
    exact (h2.block _ h4.lt (fun e => by have := h.apart _ e.symm; omega)).trans h4
  · intro k hk
    rcases h3 with h3 | h3
    · exact h.apart k (by rw [← h3, hk])
    · rw [hk] at h3
      injection h3 with h3
      have := h.res.lt
      rw [h3]; simp; omega

theorem own_empty (w : World) (Z : Array Value) : ((w.alloc (.cells Z 29)).alloc (.cells #[] 5)).ownsRow w.heap.size 5 1 (.slice (some ⟨w.heap.size + 1, 0, none⟩) 0 0) 0 [] := by
  have := World.ownsRow_lit (base := w.heap.size) (size := 1) (e := 5) (w.alloc (.cells Z 29)) #[] 0 (by simp) (by unfold maxLen; omega) rfl
  rw [show (w.alloc (.cells Z 29)).heap.size = w.heap.size + 1 by simp] at this
  exact this
theorem rpad_first {w w' : World} {v' : Value} {l : List UInt8} (Z : Array Value) (hZ : Z = bcells (List.replicate 32 0)) (n : Nat) (hn : l.length = n)
    (h1 : w'.ownsRow w.heap.size 5 1 v' (0 + n) ([] ++ l.map V8)) (h2 : ((w.alloc (.cells Z 29)).alloc (.cells #[] 5)).grownBy w' (Value.ownBlock (.slice (some ⟨w.heap.size + 1, 0, none⟩) 0 0)))
    (h3 : v'.ownBlock = Value.ownBlock (.slice (some ⟨w.heap.size + 1, 0, none⟩) 0 0) ∨ v'.ownBlock = some ((w.alloc (.cells Z 29)).alloc (.cells #[] 5)).heap.size) : RPad w v' l w' := by
  subst hZ hn
  have hb : Below w.heap.size w ((w.alloc (.cells (bcells (List.replicate 32 0)) 29)).alloc (.cells #[] 5)) := ((Below.refl _ _).alloc (Nat.le_refl _) _).alloc (by simp) _
  have hr : Whole ((w.alloc (.cells (bcells (List.replicate 32 0)) 29)).alloc (.cells #[] 5)) w.heap.size 29 (bcells (List.replicate 32 0)) := (Whole.made _ _ _).alloc _
  refine ⟨by rw [Nat.zero_add, List.nil_append] at h1; exact h1, (h2.block _ hr.lt (fun e => by simp only [Value.ownBlock, Option.some.injEq] at e; omega)).trans hr, hb.grown h2 (by simp; omega) (fun k hk => by simp only [Value.ownBlock, Option.some.injEq] at hk; omega), ?_⟩
  intro k hk
  rcases h3 with h3 | h3
  · rw [hk] at h3; simp only [Value.ownBlock, Option.some.injEq] at h3; omega
  · rw [hk] at h3; injection h3 with h3; rw [h3]; simp; omega

/-- How it stands behind k blocks: the eight words in block gh, the padded text in block gm. -/
structure BRel (w : World) (msg : List UInt8) (gm gh : Nat) (s : Sha.St) (wx : World) : Prop where
  words : Whole wx gh 140 (wcells s.list)
  text : Row wx gm msg
  res : Whole wx w.heap.size 29 (bcells (List.replicate 32 0))
  bel : Below w.heap.size w wx
  tab : Tab wx 0
  hgm : w.heap.size < gm
  hgh : w.heap.size < gh
  ne : gm ≠ gh
theorem BRel.below {w : World} {msg : List UInt8} {gm gh : Nat} {s : Sha.St} {wx w' : World} (h : BRel w msg gm gh s wx) (hb : Below wx.heap.size wx w') (hw : 1 < w.heap.size) : BRel w msg gm gh s w' :=
  ⟨h.words.below hb h.words.lt, h.text.below hb, h.res.below hb h.res.lt, h.bel.trans (hb.mono h.bel.size), fun j hj => by rw [hb.cell (p := ⟨0, j, none⟩) (by have := h.bel.size; show 0 < _; omega)]; exact h.tab j hj, h.hgm, h.hgh, h.ne⟩
theorem BRel.drew {w : World} {msg : List UInt8} {gm gh : Nat} {s : Sha.St} {wx : World} (h : BRel w msg gm gh s wx) : BRel w msg gm gh s wx.drew :=
  ⟨h.words, h.text, h.res, h.bel.drew, h.tab, h.hgm, h.hgh, h.ne⟩
theorem brel_start {w wr : World} {msg : List UInt8} {gm : Nat} (Z : Array Value) (hZ : Z = wcells Sha.init.list) (hrow : Row wr gm msg) (hres : Whole wr w.heap.size 29 (bcells (List.replicate 32 0))) (hbel : Below w.heap.size w wr) (ht : Tab w 0) (hgm : w.heap.size < gm) (hw : 1 < w.heap.size) :
    BRel w msg gm wr.heap.size Sha.init (wr.alloc (.cells Z 140)) := by
  subst hZ
  have hb : Below w.heap.size w (wr.alloc (.cells (wcells Sha.init.list) 140)) := hbel.alloc hbel.size _
  exact ⟨Whole.made _ _ _, hrow.below ((Below.refl _ _).alloc (Nat.le_refl _) _), hres.alloc _, hb, fun j hj => by rw [hb.cell (p := ⟨0, j, none⟩) (by show 0 < _; omega)]; exact ht j hj, hgm, hres.lt, fun e => by have := hrow.1; omega⟩


/-- The words of a block, being filled in block gw. -/
structure WRel (w : World) (msg : List UInt8) (gm gh : Nat) (s : Sha.St) (gw : Nat) (l : List UInt32) (wx : World) : Prop where
  base : BRel w msg gm gh s wx
  sch : Whole wx gw 140 (wcells l)
  hgw : w.heap.size < gw
  nem : gm ≠ gw
  neh : gh ≠ gw
theorem WRel.drew {w : World} {msg : List UInt8} {gm gh : Nat} {s : Sha.St} {gw : Nat} {l : List UInt32} {wx : World} (h : WRel w msg gm gh s gw l wx) : WRel w msg gm gh s gw l wx.drew :=
  ⟨h.base.drew, h.sch, h.hgw, h.nem, h.neh⟩
theorem WRel.drewN {w : World} {msg : List UInt8} {gm gh : Nat} {s : Sha.St} {gw : Nat} {l : List UInt32} {wx : World} (h : WRel w msg gm gh s gw l wx) (n : Nat) : WRel w msg gm gh s gw l (wx.drewN n) :=
  ⟨⟨h.base.words, h.base.text, h.base.res, ⟨h.base.bel.os, h.base.bel.tape, h.base.bel.output, h.base.bel.size, h.base.bel.block⟩, h.base.tab, h.base.hgm, h.base.hgh, h.base.ne⟩, h.sch, h.hgw, h.nem, h.neh⟩
theorem Row.other {w : World} {g : Nat} {bs : List UInt8} (h : Row w g bs) {p : Addr} (hp : g ≠ p.block) (u : Value) : Row (w.setCell p u) g bs :=
  ⟨by simpa using h.1, fun j v hv => by
    rw [World.cell?_setCell_other _ _ _ _ (fun e => hp (by rw [e]))]
    exact h.2 j v hv⟩
theorem tab_other {w : World} (h : Tab w 0) {p : Addr} (hp : 0 ≠ p.block) (u : Value) : Tab (w.setCell p u) 0 := fun j hj => by
  rw [World.cell?_setCell_other _ _ _ _ (fun e => hp (by rw [e]))]
  exact h j hj
theorem BRel.other {w : World} {msg : List UInt8} {gm gh : Nat} {s : Sha.St} {wx : World} (h : BRel w msg gm gh s wx) {p : Addr} (h1 : gm ≠ p.block) (h2 : gh ≠ p.block) (h3 : w.heap.size < p.block) (u : Value) : BRel w msg gm gh s (wx.setCell p u) :=
  ⟨h.words.other h2 u, h.text.other h1 u, h.res.other (by omega) u, h.bel.setCell (by omega) u, tab_other h.tab (by omega) u, h.hgm, h.hgh, h.ne⟩
theorem wrel_start {w : World} {msg : List UInt8} {gm gh : Nat} {s : Sha.St} {wx : World} (h : BRel w msg gm gh s wx) (l : List UInt32) (hw : 1 < w.heap.size) :
    WRel w msg gm gh s wx.heap.size l (wx.alloc (.cells (wcells l) 140)) :=
  ⟨h.below ((Below.refl _ _).alloc (Nat.le_refl _) _) hw, Whole.made _ _ _, h.res.lt, fun e => by have := h.text.1; omega, fun e => by have := h.words.lt; omega⟩
theorem wrel_step {w : World} {msg : List UInt8} {gm gh : Nat} {s : Sha.St} {gw : Nat} {l : List UInt32} {wx : World} (h : WRel w msg gm gh s gw l wx) (i : Nat) (x : UInt32) :
    WRel w msg gm gh s gw (l.set i x) (wx.setCell ⟨gw, i, none⟩ (.int .u32 x.toNat)) :=
  ⟨h.base.other h.nem h.neh h.hgw _, by have := h.sch.set i (.int .u32 x.toNat); rwa [wcells_set] at this, h.hgw, h.nem, h.neh⟩
theorem fill_step (b : List UInt8) (k : Nat) (x : UInt32) (hx : x = if k < 16 then Sha.word b k else Sha.nextW (Sha.fill b k) k) : (Sha.fill b k).set k x = Sha.fill b (k + 1) := by rw [hx]; rfl
/-- While what was mixed is added: the words so far in block gh, what is added in block gl. -/
structure SRel7 (w : World) (msg : List UInt8) (gm gh gl : Nat) (l r : List UInt32) (wx : World) : Prop where
  words : Whole wx gh 140 (wcells l)
  add : Whole wx gl 140 (wcells r)
  text : Row wx gm msg
  res : Whole wx w.heap.size 29 (bcells (List.replicate 32 0))
  bel : Below w.heap.size w wx
  tab : Tab wx 0
  hgm : w.heap.size < gm
  hgh : w.heap.size < gh
  ne : gm ≠ gh
  nel : gl ≠ gh
theorem SRel7.drew {w : World} {msg : List UInt8} {gm gh gl : Nat} {l r : List UInt32} {wx : World} (h : SRel7 w msg gm gh gl l r wx) : SRel7 w msg gm gh gl l r wx.drew :=
  ⟨h.words, h.add, h.text, h.res, h.bel.drew, h.tab, h.hgm, h.hgh, h.ne, h.nel⟩
theorem srel_start7 {w : World} {msg : List UInt8} {gm gh : Nat} {s : Sha.St} {gw : Nat} {l : List UInt32} {wx : World} (h : WRel w msg gm gh s gw l wx) (r : List UInt32) (hw : 1 < w.heap.size) :
    SRel7 w msg gm gh wx.heap.size s.list r (wx.alloc (.cells (wcells r) 140)) := by
  have h1 := h.base.below ((Below.refl _ wx).alloc (Nat.le_refl _) (.cells (wcells r) 140)) hw
  exact ⟨h1.words, Whole.made _ _ _, h1.text, h1.res, h1.bel, h1.tab, h1.hgm, h1.hgh, h1.ne, fun e => by have := h.base.words.lt; omega⟩
theorem srel_step7 {w : World} {msg : List UInt8} {gm gh gl : Nat} {l r : List UInt32} {wx : World} (i : Nat) (h : SRel7 w msg gm gh gl (Sha.acc l r i) r wx) :
    SRel7 w msg gm gh gl (Sha.acc l r (i + 1)) r (wx.setCell ⟨gh, i, none⟩ (.int .u32 ((Sha.acc l r i).getD i 0 + r.getD i 0).toNat)) := by
  have hgh := h.hgh
  refine ⟨?_, h.add.other h.nel _, h.text.other h.ne _, h.res.other (by show _ ≠ gh; omega) _, h.bel.setCell (by show _ ≤ gh; omega) _, tab_other h.tab (by show 0 ≠ gh; omega) _, h.hgm, h.hgh, h.ne, h.nel⟩
  have := h.words.set i (.int .u32 ((Sha.acc l r i).getD i 0 + r.getD i 0).toNat)
  rwa [wcells_set] at this
theorem srel_end7 {w : World} {msg : List UInt8} {gm gh gl : Nat} {s r : Sha.St} {wx : World} (h : SRel7 w msg gm gh gl (Sha.acc s.list r.list 8) r.list wx) : BRel w msg gm gh (Sha.addSt s r) wx :=
  ⟨h.words, h.text, h.res, h.bel, h.tab, h.hgm, h.hgh, h.ne⟩
namespace Sha
def byteAt (x : UInt32) (m : Nat) : UInt8 := (x >>> UInt32.ofNat (24 - 8 * m)).toUInt8
def outR (l : List UInt32) : Nat → List UInt8
  | 0 => List.replicate 32 0
  | j + 1 => (outR l j).set j (byteAt (l.getD (j / 4) 0) (j % 4))
theorem outR_length (l : List UInt32) (j : Nat) : (outR l j).length = 32 := by
  induction j with
  | zero => rfl
  | succ j ih => simp [outR, ih]
theorem byteAt_spell (x : UInt32) (m : Nat) (h : m < 4) : IntKind.u8.wrap ((x.toNat : Int) / 2 ^ (24 - 8 * m)) = ((byteAt x m).toNat : Int) := byte_shr x _ (by omega)
theorem shr0 (x : UInt32) : x >>> UInt32.ofNat 0 = x := by
  apply UInt32.eq_of_toBitVec_eq
  show x.toBitVec >>> (0#32 % 32#32) = x.toBitVec
  simp
theorem outR_eq (s : St) : outR s.list 32 = out s := by
  have h0 : ∀ x : UInt32, byteAt x 0 = b24 x := fun _ => rfl
  have h1 : ∀ x : UInt32, byteAt x 1 = b16 x := fun _ => rfl
  have h2 : ∀ x : UInt32, byteAt x 2 = b8 x := fun _ => rfl
  have h3 : ∀ x : UInt32, byteAt x 3 = b0 x := fun x => by
    show (x >>> UInt32.ofNat 0).toUInt8 = _
    rw [shr0]
    rfl
  have step : ∀ k, outR s.list (4 * k) = outTo s.list k → outR s.list (4 * (k + 1)) = outTo s.list (k + 1) := fun k hk => by
    have d0 : (4 * k) / 4 = k := by omega
    have d1 : (4 * k + 1) / 4 = k := by omega
    have d2 : (4 * k + 2) / 4 = k := by omega
    have d3 : (4 * k + 3) / 4 = k := by omega
    have m0 : (4 * k) % 4 = 0 := by omega
    have m1 : (4 * k + 1) % 4 = 1 := by omega
    have m2 : (4 * k + 2) % 4 = 2 := by omega
    have m3 : (4 * k + 3) % 4 = 3 := by omega
    show outR s.list (4 * k + 1 + 1 + 1 + 1) = _
    simp only [outR, outTo, d0, d1, d2, d3, m0, m1, m2, m3, h0, h1, h2, h3, hk]
  have all : ∀ k, outR s.list (4 * k) = outTo s.list k := fun k => by
    induction k with
    | zero => rfl
    | succ k ih => exact step k ih
  exact all 8
end Sha
/-- While the words are laid out as bytes. -/
structure ORel (w : World) (gh go : Nat) (l : List UInt32) (j : Nat) (wx : World) : Prop where
  words : Whole wx gh 140 (wcells l)
  out : Whole wx go 29 (bcells (Sha.outR l j))
  res : Whole wx w.heap.size 29 (bcells (List.replicate 32 0))
  bel : Below w.heap.size w wx
  neh : gh ≠ go
  hgo : w.heap.size < go
theorem orel_start {w : World} {msg : List UInt8} {gm gh : Nat} {s : Sha.St} {wx : World} (h : BRel w msg gm gh s wx) (hw : 1 < w.heap.size) : ORel w gh wx.heap.size s.list 0 (wx.alloc (.cells (bcells (List.replicate 32 0)) 29)) := by
  have h1 := h.below ((Below.refl _ wx).alloc (Nat.le_refl _) (.cells (bcells (List.replicate 32 0)) 29)) hw
  exact ⟨h1.words, Whole.made _ _ _, h1.res, h1.bel, fun e => by have := h.words.lt; omega, h.res.lt⟩
theorem orel_step {w : World} {gh go : Nat} {l : List UInt32} {wx : World} (j : Nat) (h : ORel w gh go l j wx) : ORel w gh go l (j + 1) (wx.setCell ⟨go, j, none⟩ (.int .u8 (Sha.byteAt (l.getD (j / 4) 0) (j % 4)).toNat)) := by
  have hgo := h.hgo
  refine ⟨h.words.other h.neh _, ?_, h.res.other (by show _ ≠ go; omega) _, h.bel.setCell (by show _ ≤ go; omega) _, h.neh, h.hgo⟩
  have := h.out.set j (.int .u8 (Sha.byteAt (l.getD (j / 4) 0) (j % 4)).toNat)
  rwa [bcells_set] at this
theorem whole8g {w : World} {g : Nat} {s : Sha.St} {t : TypeId} (h : Whole w g t (wcells s.list)) :
    w.cell? ⟨g, 0, none⟩ = some (.int .u32 s.a.toNat) ∧ w.cell? ⟨g, 1, none⟩ = some (.int .u32 s.b.toNat) ∧ w.cell? ⟨g, 2, none⟩ = some (.int .u32 s.c.toNat) ∧ w.cell? ⟨g, 3, none⟩ = some (.int .u32 s.d.toNat) ∧
    w.cell? ⟨g, 4, none⟩ = some (.int .u32 s.e.toNat) ∧ w.cell? ⟨g, 5, none⟩ = some (.int .u32 s.f.toNat) ∧ w.cell? ⟨g, 6, none⟩ = some (.int .u32 s.g.toNat) ∧ w.cell? ⟨g, 7, none⟩ = some (.int .u32 s.h.toNat) :=
  ⟨h.at_ rfl, h.at_ rfl, h.at_ rfl, h.at_ rfl, h.at_ rfl, h.at_ rfl, h.at_ rfl, h.at_ rfl⟩
theorem row_byte {w : World} {g : Nat} {msg : List UInt8} (h : Row w g msg) (k i : Nat) (hk : 64 * k + 64 ≤ msg.length) (hi : i < 64) : w.cell? ⟨g, 64 * k + i, none⟩ = some (.int .u8 (((msg.drop (64 * k)).take 64).getD i 0).toNat) := by
  refine h.2 (64 * k + i) _ ?_
  have hl : 64 * k + i < msg.length := by omega
  rw [List.getD_eq_getElem?_getD, List.getElem?_take, if_pos hi, List.getElem?_drop, List.getElem?_eq_getElem hl]
  rfl
end Go.Proofs.YtolkpjbbfopmnaaDoor.Sh
namespace Go.Proofs.YtolkpjbbfopmnaaDoor.Sh
open Go.RowKit

theorem tab0_below {w w' : World} (h : Tab w 0) (hb : Below w.heap.size w w') (hw : 1 < w.heap.size) : Tab w' 0 := fun j hj => by
  rw [hb.cell (p := ⟨0, j, none⟩) (by show 0 < _; omega)]; exact h j hj

/-- Three slices handed over as parts. -/
theorem parts_three (w : World) (t : TypeId) (A1 A2 A3 : Option Addr) (n1 n2 n3 c1 c2 c3 : Nat) (b1 b2 b3 : List UInt8) (h1 : Reads w A1 n1 b1) (h2 : Reads w A2 n2 b2) (h3 : Reads w A3 n3 b3)
    (k1 : n1 ≤ c1) (k2 : n2 ≤ c2) (k3 : n3 ≤ c3) (m1 : n1 ≤ 140737488355328) (m2 : n2 ≤ 140737488355328) (m3 : n3 ≤ 140737488355328) :
    Parts (w.alloc (.cells #[.slice A1 n1 c1, .slice A2 n2 c2, .slice A3 n3 c3] t)) (some ⟨w.heap.size, 0, none⟩) 3 [b1, b2, b3] := by
  have hb : Below w.heap.size w (w.alloc (.cells #[.slice A1 n1 c1, .slice A2 n2 c2, .slice A3 n3 c3] t)) := (Below.refl _ _).alloc (Nat.le_refl _) _
  refine ⟨rfl, fun _ => ⟨w.heap.size, 0, rfl, by simp, fun j l hl => ?_⟩⟩
  have hj : j < 3 := (List.getElem?_eq_some_iff.1 hl).1
  match j, hj with
  | 0, _ => simp at hl; subst hl; exact ⟨A1, n1, c1, (Whole.made w t _).at_ rfl, k1, m1, h1.below hb⟩
  | 1, _ => simp at hl; subst hl; exact ⟨A2, n2, c2, (Whole.made w t _).at_ rfl, k2, m2, h2.below hb⟩
  | 2, _ => simp at hl; subst hl; exact ⟨A3, n3, c3, (Whole.made w t _).at_ rfl, k3, m3, h3.below hb⟩

end Go.Proofs.YtolkpjbbfopmnaaDoor.Sh
namespace Go.Proofs.YtolkpjbbfopmnaaDoor.Tl
open Go.RowKit

/-- Block g is just the cells cs, of element type t, and none of them is frozen. -/
def Whole (w : World) (g : Nat) (t : TypeId) (cs : Array Value) : Prop := w.heap[g]? = some (.cells cs t (0, 0))

section
variable {w w' : World} {g : Nat} {t : TypeId} {cs : Array Value}
theorem Whole.lt (h : Whole w g t cs) : g < w.heap.size := (Array.getElem?_eq_some_iff.1 h).1
theorem Whole.at_ (h : Whole w g t cs) {i : Nat} {v : Value} (hv : cs[i]? = some v) : w.cell? ⟨g, i, none⟩ = some v :=
  (cell_of_row w g i cs t (0, 0) h).trans hv
theorem Whole.free (h : Whole w g t cs) (i : Nat) : w.frozen? ⟨g, i, none⟩ = false := by
  have h' : w.heap[g]? = some (.cells cs t (0, 0)) := h
  simp [World.frozen?, h']
theorem Whole.made (w : World) (t : TypeId) (cs : Array Value) : Whole (w.alloc (.cells cs t)) w.heap.size t cs := heap_alloc_last w _
theorem Whole.drewN (h : Whole w g t cs) (n : Nat) : Whole (w.drewN n) g t cs := h
theorem Whole.alloc (h : Whole w g t cs) (o : Obj) : Whole (w.alloc o) g t cs := (Below.heap_alloc w o g h.lt).trans h
theorem Whole.set (h : Whole w g t cs) (i : Nat) (u : Value) : Whole (w.setCell ⟨g, i, none⟩ u) g t (cs.setIfInBounds i u) :=
  heap_setCell_same w g i cs t u h
theorem Whole.below {B : Nat} (h : Whole w g t cs) (hb : Below B w w') (hg : g < B) : Whole w' g t cs := (hb.block g hg).trans h
end

theorem below_drewN {B : Nat} {a w : World} (h : Below B a w) (n : Nat) : Below B a (w.drewN n) := ⟨h.os, h.tape, h.output, h.size, h.block⟩

/-- The slice with address A and n elements of so many cells each reads as the cells xs, in a block below B. -/
def RdV (w : World) (B size : Nat) (A : Option Addr) (n : Nat) (xs : List Value) : Prop :=
  xs.length = n * size ∧ (0 < n → ∃ b o, A = some ⟨b, o, none⟩ ∧ b < B ∧ ∀ j u, xs[j]? = some u → w.cell? ⟨b, o + j, none⟩ = some u)

section
variable {w w' : World} {B B' size n : Nat} {A : Option Addr} {xs : List Value}
theorem RdV.nil : RdV w B size A 0 [] := ⟨by simp, fun h => absurd h (by omega)⟩
theorem RdV.keep (h : RdV w B size A n xs) (hk : ∀ b o, b < B → w'.cell? ⟨b, o, none⟩ = w.cell? ⟨b, o, none⟩) : RdV w' B size A n xs :=
  ⟨h.1, fun hn => by
    obtain ⟨b, o, e, hb, hc⟩ := h.2 hn
    exact ⟨b, o, e, hb, fun j u hu => (hk _ _ hb).trans (hc j u hu)⟩⟩
theorem RdV.more (h : RdV w B size A n xs) (hB : B ≤ B') : RdV w B' size A n xs :=
  ⟨h.1, fun hn => by
    obtain ⟨b, o, e, hb, hc⟩ := h.2 hn
    exact ⟨b, o, e, by omega, hc⟩⟩
theorem RdV.below (h : RdV w B size A n xs) (hb : Below B' w w') (hB : B ≤ B') : RdV w' B size A n xs := h.keep fun b o hp => hb.cell (p := ⟨b, o, none⟩) (Nat.lt_of_lt_of_le hp hB)
theorem RdV.of_own {base : Nat} {e : TypeId} {c : Nat} (h : w.ownsRow base e size (.slice A n c) n xs) : RdV w w.heap.size size A n xs := by
  refine ⟨h.1, fun hn => ?_⟩
  obtain ⟨g, cap, hv, _, hlt⟩ := h.form hn
  have hA : A = some ⟨g, 0, none⟩ := by injection hv
  subst hA
  refine ⟨g, 0, rfl, hlt, fun j u hu => ?_⟩
  have := h.cells (g := g) rfl j u hu
  rwa [Addr.add_mid] at this
end

theorem own_form {w : World} {base n size : Nat} {e : TypeId} {v : Value} {xs : List Value} (h : w.ownsRow base e size v n xs) : ∃ A c, v = .slice A n c ∧ n ≤ c ∧ c ≤ maxLen := by
  rcases h.2 with ⟨rfl, rfl⟩ | ⟨g, cap, cur, rfl, _, _, hnc, hm, _⟩
  · exact ⟨none, 0, rfl, Nat.le_refl _, Nat.zero_le _⟩
  · exact ⟨_, cap, rfl, hnc, hm⟩

def V8 (b : UInt8) : Value := .int .u8 b.toNat
/-- It reads as the bytes bs. -/
def Rd (w : World) (B : Nat) (A : Option Addr) (n : Nat) (bs : List UInt8) : Prop := RdV w B 1 A n (bs.map V8)

section
variable {w w' : World} {B B' n : Nat} {A : Option Addr} {bs : List UInt8}
theorem Rd.len (h : Rd w B A n bs) : bs.length = n := by have := h.1; simpa using this
theorem Rd.nil : Rd w B A 0 [] := RdV.nil
theorem Rd.more (h : Rd w B A n bs) (hB : B ≤ B') : Rd w B' A n bs := RdV.more h hB
theorem Rd.below (h : Rd w B A n bs) (hb : Below B' w w') (hB : B ≤ B') : Rd w' B A n bs := RdV.below h hb hB
theorem Rd.drewN (h : Rd w B A n bs) (k : Nat) : Rd (w.drewN k) B A n bs := h
theorem Rd.at_ (h : Rd w B A n bs) (hn : 0 < n) : ∃ b o, A = some ⟨b, o, none⟩ ∧ b < B ∧ ∀ j v, bs[j]? = some v → w.cell? ⟨b, o + j, none⟩ = some (.int .u8 v.toNat) := by
  obtain ⟨b, o, e, hb, hc⟩ := h.2 hn
  exact ⟨b, o, e, hb, fun j v hv => hc j _ (by rw [List.getElem?_map, hv]; rfl)⟩
theorem Rd.of_own {base : Nat} {c : Nat} (h : w.ownsRow base 5 1 (.slice A n c) n (bs.map V8)) : Rd w w.heap.size A n bs := RdV.of_own h
theorem Rd.mk_ (hn : bs.length = n) (b o : Nat) (hb : b < B) (h : ∀ j v, bs[j]? = some v → w.cell? ⟨b, o + j, none⟩ = some (V8 v)) : Rd w B (some ⟨b, o, none⟩) n bs :=
  ⟨by simpa using hn, fun _ => ⟨b, o, rfl, hb, fun j u hu => by
    rw [List.getElem?_map, Option.map_eq_some_iff] at hu
    obtain ⟨v, hv, rfl⟩ := hu
    exact h j v hv⟩⟩
/-- A part of it. -/
theorem Rd.part {b o : Nat} (h : Rd w B (some ⟨b, o, none⟩) n bs) (k m : Nat) (hk : k + m ≤ n) : Rd w B (some ⟨b, o + k, none⟩) m ((bs.drop k).take m) := by
  have hl := h.len
  rcases Nat.eq_zero_or_pos m with rfl | hm
  · rw [List.take_zero]; exact Rd.nil
  obtain ⟨b', o', e, hb, hc⟩ := h.at_ (by omega)
  injection e with e
  injection e with e1 e2
  subst e1 e2
  refine Rd.mk_ (by rw [List.length_take, List.length_drop]; omega) b (o + k) hb fun j v hv => ?_
  rw [List.getElem?_take] at hv
  split at hv
  · rw [List.getElem?_drop] at hv
    rw [Nat.add_assoc]
    exact hc _ v hv
  · cases hv
end

theorem info5 : (Tryd.prog.info? 5).map (fun i => (i.zero, i.size, i.bytes)) = some (some (.int .u8 0), 1, 1) := by kernel_rfl
theorem info22 : (Tryd.prog.info? 31).map (fun i => (i.zero, i.size, i.bytes)) = some (some (.slice none 0 0), 1, 24) := by kernel_rfl
theorem info39 : (Tryd.prog.info? 102).map (fun i => (i.zero, i.size, i.bytes)) = some (some (.agg #[.int .u8 0, .slice none 0 0]), 2, 32) := by kernel_rfl
theorem info_of {t : TypeId} {z : Value} {s b : Nat} (h : (Tryd.prog.info? t).map (fun i => (i.zero, i.size, i.bytes)) = some (some z, s, b)) :
    ∃ i, Tryd.prog.info? t = some i ∧ i.zero = some z ∧ i.size = s ∧ i.bytes = b := by
  cases hq : Tryd.prog.info? t with
  | none => simp [hq] at h
  | some i =>
    simp [hq] at h
    exact ⟨i, rfl, h.1, h.2.1, h.2.2⟩

set_option maxRecDepth 100000 in
/-- append of what is read onto a row of the call's own. -/
theorem run_append_rd (w : World) (base : Nat) (t ty e : TypeId) (z : Value) (size bytes : Nat) (ht : Tryd.prog.underlying t = some (.slice e))
    (hi : (Tryd.prog.info? e).map (fun i => (i.zero, i.size, i.bytes)) = some (some z, size, bytes)) (hzs : z.cells.size = size) (hsz : 0 < size)
    (v : Value) (n : Nat) (xs : List Value) (hown : w.ownsRow base e size v n xs)
    (B : Nat) (A : Option Addr) (m c : Nat) (news : List Value) (hr : RdV w B size A m news) (h1 : ∀ u ∈ news, u.oneCell' = true)
    (h63 : n + m ≤ maxLen) (hbytes : (n + m) * bytes ≤ 140737488355328) (hbase : base ≤ w.heap.size) :
    ∃ v' w', (Builtin.append_ #[t, t] ty #[v, .slice A m c]).run Tryd.prog w = .ok v' w' ∧ w'.ownsRow base e size v' (n + m) (xs ++ news) ∧ w.grownBy w' v.ownBlock ∧
      (v'.ownBlock = v.ownBlock ∨ v'.ownBlock = some w.heap.size) := by
  obtain ⟨i, hi, hz, hs, hby⟩ := info_of hi
  rcases A with _ | ad
  · have hm : m = 0 := by
      rcases Nat.eq_zero_or_pos m with h0 | h0
      · exact h0
      · obtain ⟨_, _, h, _⟩ := hr.2 h0
        cases h
    subst hm
    have hn : news = [] := List.eq_nil_of_length_eq_zero (by simpa using hr.1)
    subst hn
    refine ⟨v, w, ?_, by simpa using hown, World.grownBy.refl w _, .inl rfl⟩
    rcases hown.2 with ⟨rfl, rfl⟩ | ⟨g, cap, cur, rfl, _, _, hnc, _⟩
    · simp [Builtin.append_, run_underlying ht, sizeOf, typeInfo, hi, Builtin.lenOf, Builtin.firstCells]
    · simp [Builtin.append_, run_underlying ht, sizeOf, typeInfo, hi, Builtin.lenOf, Builtin.firstCells, hnc, storeCells]
  · have hcells : ∀ j u, news[j]? = some u → w.cell? (ad.add j) = some u := by
      intro j u hu
      rcases Nat.eq_zero_or_pos m with h0 | h0
      · subst h0
        have hn : news = [] := List.eq_nil_of_length_eq_zero (by simpa using hr.1)
        subst hn
        simp at hu
      · obtain ⟨b, o, h, _, hc⟩ := hr.2 h0
        injection h with h
        subst h
        rw [Addr.add_mid]
        exact hc j u hu
    obtain ⟨v', w', hrun, h2, h3, _, h5⟩ := run_append_own_at (P := Tryd.prog) w base t ty e i z size bytes ht hi hz hs hby hzs hsz v n xs hown ad m c news hr.1 hcells h1 h63 hbytes hbase
    exact ⟨v', w', hrun, h2, h3, h5⟩

theorem wpList_append_rd {ops : Array Oper} {rest : List Oper} {o : Oper} {a : Act} {w : World} {Q : Exit → Act → World → Prop} (hgd : o.guard = none) (s x : Operand) (t e : TypeId) (z : Value) (size bytes : Nat)
    (ho : o.op = .call { callee := .builtin .append, args := #[s, x], argTypes := #[t, t] }) (ht : Tryd.prog.underlying t = some (.slice e))
    (hi : (Tryd.prog.info? e).map (fun i => (i.zero, i.size, i.bytes)) = some (some z, size, bytes)) (hzs : z.cells.size = size) (hsz : 0 < size)
    (base : Nat) (v : Value) (n : Nat) (xs : List Value) (hs : a.eval s = v) (hown : w.ownsRow base e size v n xs)
    (B : Nat) (A : Option Addr) (m c : Nat) (news : List Value) (hx : a.eval x = .slice A m c) (hr : RdV w B size A m news) (h1 : ∀ u ∈ news, u.oneCell' = true)
    (h63 : n + m ≤ maxLen) (hbytes : (n + m) * bytes ≤ 140737488355328) (hbase : base ≤ w.heap.size)
    (h : ∀ v' w', w'.ownsRow base e size v' (n + m) (xs ++ news) → Below base w w' → wpList Tryd.prog ops Q rest (a.put o.dst v') w') : wpList Tryd.prog ops Q (o :: rest) a w := by
  obtain ⟨v', w', hrun, h2, h3, _⟩ := run_append_rd w base t o.type e z size bytes ht hi hzs hsz v n xs hown B A m c news hr h1 h63 hbytes hbase
  refine wpList_plain hgd fun K hK => ?_
  unfold Oper.wp execOp
  simp only [ho, resolve, invoke, builtin, Sem.run_bind, Sem.run_pure, Result.andThen_ok, List.map_toArray, List.map_cons, List.map_nil, hs, hx, hrun]
  exact hK _ _ (h v' w' h2 ((Below.refl base w).grown h3 hbase (fun k hk => (hown.lt k hk).1)))

theorem one_bytes (bs : List UInt8) : ∀ u ∈ bs.map V8, u.oneCell' = true := by
  intro u hu
  simp only [List.mem_map] at hu
  obtain ⟨y, _, rfl⟩ := hu
  rfl

/-- append of bytes. -/
theorem wpList_append_b {ops : Array Oper} {rest : List Oper} {o : Oper} {a : Act} {w : World} {Q : Exit → Act → World → Prop} (hgd : o.guard = none) (s x : Operand)
    (ho : o.op = .call { callee := .builtin .append, args := #[s, x], argTypes := #[31, 31] })
    (base : Nat) (v : Value) (n : Nat) (bs : List UInt8) (hs : a.eval s = v) (hown : w.ownsRow base 5 1 v n (bs.map V8))
    (B : Nat) (A : Option Addr) (m c : Nat) (cs : List UInt8) (hx : a.eval x = .slice A m c) (hr : Rd w B A m cs)
    (hb : n + m ≤ 140737488355328) (hbase : base ≤ w.heap.size)
    (h : ∀ v' w', w'.ownsRow base 5 1 v' (n + m) ((bs ++ cs).map V8) → Below base w w' → wpList Tryd.prog ops Q rest (a.put o.dst v') w') : wpList Tryd.prog ops Q (o :: rest) a w :=
  wpList_append_rd hgd s x 31 5 _ 1 1 ho Tryd.underlying31 info5 rfl (by omega) base v n _ hs hown B A m c _ hx hr (one_bytes cs) (by unfold maxLen; omega) (by omega) hbase
    (fun v' w' h1 h2 => h v' w' (by rw [List.map_append]; exact h1) h2)

/-- string(b) of bytes that are read. -/
theorem run_string (w : World) (B : Nat) (A : Option Addr) (n c : Nat) (bs : List UInt8) (hr : Rd w B A n bs) : (convert 31 9 (.slice A n c)).run Tryd.prog w = .ok (.string ⟨bs.toArray⟩) w := by
  have hn := hr.len
  subst hn
  cases A with
  | none =>
    have hbs : bs = [] := by
      rcases Nat.eq_zero_or_pos bs.length with h0 | h0
      · exact List.eq_nil_of_length_eq_zero h0
      · obtain ⟨b, o, h1, _⟩ := hr.2 h0; cases h1
    subst hbs
    rw [run_convert_bytes_string w 31 9 5 none _ _ Tryd.underlying31 Tryd.underlying5 Tryd.underlying9]
    rfl
  | some ad =>
    refine run_convert_bytes_back w 31 9 5 ad c bs Tryd.underlying31 Tryd.underlying5 Tryd.underlying9 fun j hj => ?_
    obtain ⟨b, o, h1, _, h3⟩ := hr.at_ (by omega)
    injection h1 with h1
    subst h1
    rw [Addr.add_mid]
    exact h3 j _ (List.getElem?_eq_getElem hj)

theorem rd_new (w : World) (t : TypeId) (bs : List UInt8) (m : Nat) (hm : bs.length = m) (cs : Array Value) (hcs : cs = (bs.map V8).toArray) : Rd (w.alloc (.cells cs t)) (w.heap.size + 1) (some ⟨w.heap.size, 0, none⟩) m bs := by
  subst hcs
  exact Rd.mk_ hm _ _ (by omega) fun j v hv => (Whole.made w t _).at_ (by rw [Nat.zero_add, List.getElem?_toArray, List.getElem?_map, hv]; rfl)
/-- A slice of a block that was not there, that may be written. -/
def Fresh (B : Nat) (w : World) (A : Option Addr) : Prop := ∀ b o, A = some ⟨b, o, none⟩ → B ≤ b ∧ b < w.heap.size ∧ ∀ j, w.frozen? ⟨b, j, none⟩ = false
theorem Fresh.own {w : World} {base size c n n' : Nat} {e : TypeId} {A : Option Addr} {xs : List Value} (h : w.ownsRow base e size (.slice A n c) n' xs) : Fresh base w A := fun b o ea => by
  subst ea
  rcases h.2 with ⟨h1, _⟩ | ⟨g, cap, cur, h1, h2, h3, _⟩
  · cases h1
  · have e1 : (⟨b, o, none⟩ : Addr) = ⟨g, 0, none⟩ := by injection h1 with h1; injection h1
    injection e1 with e1
    subst e1
    exact ⟨h2, (Array.getElem?_eq_some_iff.1 h3).1, fun j => by simp [World.frozen?, h3]⟩
theorem Fresh.below {w w' : World} {B B' : Nat} {A : Option Addr} (h : Fresh B w A) (hb : Below B' w w') (hB : w.heap.size ≤ B') : Fresh B w' A := fun b o e => by
  obtain ⟨h1, h2, h3⟩ := h b o e
  exact ⟨h1, Nat.lt_of_lt_of_le h2 hb.size, fun j => by rw [← h3 j]; exact World.frozen?_of_block (hb.block b (by omega))⟩
theorem Fresh.less {w : World} {B B' : Nat} {A : Option Addr} (h : Fresh B w A) (hB : B' ≤ B) : Fresh B' w A := fun b o e => ⟨Nat.le_trans hB (h b o e).1, (h b o e).2⟩
/-- Zeroed bytes, as cells. -/
def zb (n : Nat) : Array Value := ((List.replicate n (0 : UInt8)).map V8).toArray
theorem zb_size (n : Nat) : (zb n).size = n := by simp [zb]
theorem zb_made (n : Nat) : madeCells (Value.int .u8 0).cells (n * 1) = zb n := by
  apply Array.ext
  · simp [size_madeCells, zb_size]
  · intro i h1 h2
    simp [madeCells, zb, Value.cells, V8, Nat.mod_one]
theorem run_mk (l c : Nat) (hl : l ≤ c) (hc : c ≤ 140737488355328) (L C : Int) (eL : L = l) (eC : C = c) (w : World) :
    (Instr.makeSlice 31 (.int .i64 L) (.int .i64 C)).run Tryd.prog w = .ok (.slice (some ⟨w.heap.size, 0, none⟩) l c) (w.alloc (.cells (zb c) 5)) := by
  subst eL eC
  obtain ⟨i, hi, hz, hs, hby⟩ := info_of info5
  have := run_make (P := Tryd.prog) w 31 5 i _ Tryd.underlying31 hi hz .i64 .i64 (l : Int) (c : Int) (by omega) (by omega) (by rw [hby]; omega) (by omega)
  rw [hs] at this
  simp only [Int.toNat_natCast] at this
  rw [zb_made] at this
  exact this
theorem size_alloc (w : World) (o : Obj) : (w.alloc o).heap.size = w.heap.size + 1 := by simp
end Go.Proofs.YtolkpjbbfopmnaaDoor.Tl
namespace Go.Proofs.YtolkpjbbfopmnaaDoor.Tl
open Go.RowKit

/-- A new slice that reads as bytes. -/
def BytesPost (w : World) (bs : List UInt8) (e : Ending) (w' : World) : Prop :=
  ∃ A n c, e = .returned (.slice A n c) ∧ Rd w' w'.heap.size A n bs ∧ n ≤ c ∧ Below w.heap.size w w'

theorem rd_zero {w : World} {B : Nat} {A : Option Addr} {n : Nat} {bs : List UInt8} (h : Rd w B A n bs) (hA : A = none) : n = 0 ∧ bs = [] := by
  subst hA
  have hl := h.len
  rcases Nat.eq_zero_or_pos n with h0 | h0
  · exact ⟨h0, List.eq_nil_of_length_eq_zero (by omega)⟩
  · obtain ⟨_, _, e, _⟩ := h.2 h0
    cases e

/-- A clone: bytes in a block that was not there. -/
def ClonePost (w : World) (bs : List UInt8) (e : Ending) (w' : World) : Prop :=
  ∃ A n c, e = .returned (.slice A n c) ∧ Rd w' w'.heap.size A n bs ∧ n ≤ c ∧ Fresh w.heap.size w' A ∧ Below w.heap.size w w'

theorem clone_new (A : Option Addr) (n c : Nat) (bs : List UInt8) (w : World) (hr : Rd w w.heap.size A n bs) (hn : n ≤ 70368744177664) :
    Calls Tryd.prog 44 #[.slice A n c] w (ClonePost w bs) := by
  have HR := Lib.hid hr
  clear hr
  have heq := fun w : World => Lib.run_eql_slice_nil (P := Tryd.prog) w 31 5 A n c 0 0 Tryd.underlying31
  cases A with
  | none =>
    go_enter Tryd.func44, Tryd.ntmps44
    go_wp2_with fail
    go_ret
    obtain ⟨rfl, rfl⟩ := rd_zero HR.out rfl
    exact ⟨none, 0, 0, rfl, Rd.nil, Nat.le_refl _, (fun _ _ h => by cases h), Below.refl _ _⟩
  | some ad =>
    go_enter Tryd.func44, Tryd.ntmps44
    go_upto_region 3 with (fail)
    refine wp_region_lit ?_
    iterate 6 go_step
    have hb0 : Below w.heap.size w (w.alloc (.cells #[] 5)) := (Below.refl _ _).alloc (Nat.le_refl _) _
    refine wpList_append_b rfl (.tmp 5) (.tmp 6) rfl w.heap.size _ 0 [] rfl (World.ownsRow_lit w #[] 0 (Nat.le_refl _) (by unfold maxLen; omega) rfl) _ (some ad) n c bs rfl (HR.out.below hb0 (Nat.le_refl _)) (by omega) (by simp) ?_
    intro v1 w1 hown hb1
    have hb : Below w.heap.size w w1 := hb0.trans hb1
    rw [Nat.zero_add, List.nil_append] at hown
    obtain ⟨A', c', rfl, hnc, _⟩ := own_form hown
    have hr := Rd.of_own hown
    have hnew : Fresh w.heap.size w1 A' := Fresh.own hown
    have HH := Lib.hid (And.intro hb (And.intro hr hnew))
    clear hb hr hown hb0 hb1 heq hnew
    go_simp
    go_wp2_with fail
    go_ret
    obtain ⟨hb, hr, hnew⟩ := HH.out
    exact ⟨A', n, c', rfl, hr, hnc, hnew, hb⟩

theorem clone_any (A : Option Addr) (n c : Nat) (bs : List UInt8) (w : World) (hr : Rd w w.heap.size A n bs) (hn : n ≤ 70368744177664) :
    Calls Tryd.prog 44 #[.slice A n c] w (BytesPost w bs) :=
  (clone_new A n c bs w hr hn).mono fun _ _ ⟨A', n', c', h1, h2, h3, _, h5⟩ => ⟨A', n', c', h1, h2, h3, h5⟩

/-- A row of the call's own, that reads as bytes. -/
def OwnPost (base : Nat) (w : World) (bs : List UInt8) (e : Ending) (w' : World) : Prop :=
  ∃ v' n, e = .returned v' ∧ w'.ownsRow base 5 1 v' n (bs.map V8) ∧ Below base w w'

theorem hi_lo (vs : List UInt8) (m : Nat) (hl : vs.length = m) (hm : m ≤ 65535) : #[Value.int .u8 ((m : Int) / 256), Value.int .u8 ((m : Int) % 256)] = ([Tlv.hi vs.length, Tlv.lo vs.length].map V8).toArray := by
  subst hl
  simp only [List.map_cons, List.map_nil, V8, Tlv.hi, Tlv.lo, UInt8.toNat_ofNat']
  have h1 : ((vs.length / 256 % 2 ^ 8 : Nat) : Int) = (vs.length : Int) / 256 := by omega
  have h2 : ((vs.length % 2 ^ 8 : Nat) : Int) = (vs.length : Int) % 256 := by omega
  rw [h1, h2]

set_option maxRecDepth 100000 in
theorem appendPiece_any (base : Nat) (v : Value) (n : Nat) (bs : List UInt8) (w : World) (hown : w.ownsRow base 5 1 v n (bs.map V8)) (A : Option Addr) (m c : Nat) (vs : List UInt8) (hr : Rd w base A m vs)
    (hn : n ≤ 70368744177664) (hm : m ≤ 65535) (hbase : base ≤ w.heap.size) :
    Calls Tryd.prog 86 #[v, .slice A m c] w (OwnPost base w (bs ++ Tlv.pieceb vs)) := by
  obtain ⟨A0, c0, rfl, hnc, hcm⟩ := own_form hown
  have HO := Lib.hid hown
  have HR := Lib.hid hr
  clear hown hr
  go_enter Tryd.func86, Tryd.ntmps86
  go_upto_region 1 with (fail)
  refine wp_region_lit ?_
  iterate 27 go_step
  have hb0 : Below base w (w.alloc (.cells #[.int .u8 ((m : Int) / 256), .int .u8 ((m : Int) % 256)] 5)) := (Below.refl _ _).alloc hbase _
  refine wpList_append_b rfl (.tmp 5) (.tmp 13) rfl base _ n bs rfl (HO.out.alloc _) _ _ 2 2 [Tlv.hi vs.length, Tlv.lo vs.length] rfl (rd_new w 5 _ 2 rfl _ (hi_lo vs m HR.out.len hm)) (by omega) (by simp; omega) ?_
  intro v1 w1 hown hb1
  have hb : Below base w w1 := hb0.trans hb1
  obtain ⟨A1, c1, rfl, hnc1, _⟩ := own_form hown
  have hbw : base ≤ w1.heap.size := by have := hb.size; omega
  have HB := Lib.hid hb
  have HO1 := Lib.hid hown
  clear hb hown hb0 hb1 HO hnc hcm
  go_simp
  go_upto_region 2 with (fail)
  refine wp_region_lit ?_
  iterate 6 go_step
  refine wpList_append_b rfl (.tmp 15) (.tmp 16) rfl base _ (n + 2) _ rfl HO1.out _ A m c vs rfl (HR.out.below HB.out (Nat.le_refl _)) (by omega) hbw ?_
  intro v2 w2 hown hb2
  obtain ⟨A2, c2, rfl, _, _⟩ := own_form hown
  have hown' : w2.ownsRow base 5 1 (.slice A2 (n + 2 + m) c2) (n + 2 + m) ((bs ++ Tlv.pieceb vs).map V8) := by
    rw [show bs ++ Tlv.pieceb vs = bs ++ [Tlv.hi vs.length, Tlv.lo vs.length] ++ vs by simp [Tlv.pieceb]]
    exact hown
  have HH := Lib.hid (And.intro hown' (HB.out.trans hb2))
  clear hown hown' hb2 HB HO1 HR
  go_simp
  go_wp2_with fail
  go_ret
  obtain ⟨h1, h2⟩ := HH.out
  exact ⟨_, _, rfl, h1, h2⟩

/-- A field's answer: bytes, no error. -/
def PutPost (w : World) (bs : List UInt8) (e : Ending) (w' : World) : Prop :=
  ∃ A n c, e = .returned (.tuple #[.slice A n c, .int .i64 0]) ∧ Rd w' w'.heap.size A n bs ∧ n ≤ c ∧ Fresh w.heap.size w' A ∧ Below w.heap.size w w'

set_option maxRecDepth 100000 in
theorem put_none (A : Option Addr) (n c : Nat) (bs : List UInt8) (tag : UInt8) (A2 : Option Addr) (c2 : Nat) (w : World) (hr : Rd w w.heap.size A n bs) (hn : n ≤ 70368744177664) :
    Calls Tryd.prog 67 #[.slice A n c, .int .u8 tag.toNat, .slice A2 0 c2] w (PutPost w bs) := by
  have HR := Lib.hid hr
  clear hr
  go_enter Tryd.func67, Tryd.ntmps67
  go_wp2_with fail
  refine (clone_new A n c bs w HR.out hn).mono ?_
  rintro e w1 ⟨A1, n1, c1, rfl, hr, hc, hnew, hb⟩
  have HH := Lib.hid (And.intro hr (And.intro hc (And.intro hnew hb)))
  clear hr hc hb hnew
  go_wp2_with fail
  go_ret2
  obtain ⟨h1, h2, h3⟩ := HH.out
  exact ⟨A1, n1, c1, rfl, h1, h2, h3⟩

set_option maxRecDepth 100000 in
theorem put_some (A : Option Addr) (n c : Nat) (bs : List UInt8) (tag : UInt8) (A2 : Option Addr) (m c2 : Nat) (vs : List UInt8) (w : World) (hr : Rd w w.heap.size A n bs) (hr2 : Rd w w.heap.size A2 m vs) (hn : n ≤ 70368744111616) (h0 : 0 < m) (hm : m ≤ 65535) :
    Calls Tryd.prog 67 #[.slice A n c, .int .u8 tag.toNat, .slice A2 m c2] w (PutPost w (bs ++ tag :: Tlv.pieceb vs)) := by
  have HR := Lib.hid hr
  have HR2 := Lib.hid hr2
  clear hr hr2
  have hmk := run_mk 0 (n + 1 + 2 + m) (Nat.zero_le _) (by omega) 0 ((n : Int) + 1 + 2 + m) rfl (by omega)
  go_enter Tryd.func67, Tryd.ntmps67
  go_upto_region 6 with (fail)
  refine wp_region_lit ?_
  iterate 6 go_step
  clear hmk
  have hb0 : Below w.heap.size w (w.alloc (.cells (zb (n + 1 + 2 + m)) 5)) := (Below.refl _ _).alloc (Nat.le_refl _) _
  refine wpList_append_b rfl (.tmp 25) (.tmp 26) rfl w.heap.size _ 0 [] rfl (World.ownsRow_made w _ _ (Nat.le_refl _) (by unfold maxLen; omega) (by rw [zb_size, Nat.mul_one])) _ A n c bs rfl (HR.out.below hb0 (Nat.le_refl _)) (by omega) (by simp) ?_
  intro v1 w1 hown hb1
  have hb : Below w.heap.size w w1 := hb0.trans hb1
  rw [List.nil_append, Nat.zero_add] at hown
  obtain ⟨A1, c1, rfl, _, _⟩ := own_form hown
  have HB := Lib.hid hb
  have HO := Lib.hid hown
  have hbw : w.heap.size ≤ w1.heap.size := hb.size
  clear hb hown hb0 hb1
  go_simp
  go_upto_region 7 with (fail)
  refine wp_region_lit ?_
  iterate 9 go_step
  have hb0 : Below w.heap.size w (w1.alloc (.cells #[.int .u8 tag.toNat] 5)) := HB.out.alloc hbw _
  refine wpList_append_b rfl (.tmp 28) (.tmp 30) rfl w.heap.size _ n bs rfl (HO.out.alloc _) _ _ 1 1 [tag] rfl (rd_new w1 5 _ 1 rfl _ rfl) (by omega) (by simp; omega) ?_
  intro v2 w2 hown hb1
  have hb : Below w.heap.size w w2 := hb0.trans hb1
  obtain ⟨A2', c2', rfl, _, _⟩ := own_form hown
  have HO2 := Lib.hid hown
  have hbw2 : w.heap.size ≤ w2.heap.size := hb.size
  clear hown hb0 hb1 HO HB hbw
  have HB := Lib.hid hb
  clear hb
  go_simp
  go_wp2_with fail
  refine (appendPiece_any w.heap.size _ (n + 1) _ w2 HO2.out A2 m c2 vs (HR2.out.below HB.out (Nat.le_refl _)) (by omega) hm hbw2).mono ?_
  rintro e w3 ⟨v3, n3, rfl, hown, hb3⟩
  obtain ⟨A3, c3, rfl, hc3, _⟩ := own_form hown
  have hE : bs ++ [tag] ++ Tlv.pieceb vs = bs ++ tag :: Tlv.pieceb vs := by simp
  rw [hE] at hown
  have hnew : Fresh w.heap.size w3 A3 := Fresh.own hown
  have HH := Lib.hid (And.intro (Rd.of_own hown) (And.intro hc3 (And.intro hnew (HB.out.trans hb3))))
  clear hown hb3 HB hE hc3 hnew
  go_wp2_with fail
  go_ret2
  obtain ⟨h1, h2, h3⟩ := HH.out
  exact ⟨A3, n3, c3, rfl, h1, h2, h3⟩

theorem put_any (A : Option Addr) (n c : Nat) (bs : List UInt8) (tag : UInt8) (A2 : Option Addr) (m c2 : Nat) (vs : List UInt8) (w : World) (hr : Rd w w.heap.size A n bs) (hr2 : Rd w w.heap.size A2 m vs) (hn : n ≤ 70368744111616) (hm : m ≤ 65535) :
    Calls Tryd.prog 67 #[.slice A n c, .int .u8 tag.toNat, .slice A2 m c2] w (PutPost w (Tlv.put bs tag vs)) := by
  rcases Nat.eq_zero_or_pos m with h0 | h0
  · subst h0
    have : vs = [] := List.eq_nil_of_length_eq_zero hr2.len
    subst this
    exact put_none A n c bs tag A2 c2 w hr (by omega)
  · rw [Tlv.put_some _ _ _ (fun e => by have := hr2.len; rw [e] at this; simp at this; omega)]
    exact put_some A n c bs tag A2 m c2 vs w hr hr2 hn h0 hm

end Go.Proofs.YtolkpjbbfopmnaaDoor.Tl
