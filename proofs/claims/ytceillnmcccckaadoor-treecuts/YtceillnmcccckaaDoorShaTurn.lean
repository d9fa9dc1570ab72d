/-
  What the document's answer calls turn returns; the sum of bytes, block by block: no condition but the turn's range.
-/
import Derived.Test.YtceillnmcccckaaDoorShaCuts
import Derived.Deep.QuietTactic
import Derived.BigQuiet
namespace Go.Proofs.YtceillnmcccckaaDoor.Sh
open Go.RowKit
theorem or_comm32 (x y : UInt32) : x ||| y = y ||| x := by
  apply UInt32.eq_of_toBitVec_eq
  simp only [UInt32.toBitVec_or]
  exact BitVec.or_comm _ _

set_option maxHeartbeats 400000 in
theorem turn_any (x : UInt32) (i : Nat) (m : Int) (hm : m = (i : Int)) (h1 : 1 ≤ i) (h2 : i ≤ 31) (w : World) :
    Calls Tryd.prog 57 #[.int .u32 x.toNat, .int .i64 m] w fun e w' => e = .returned (.int .u32 (Sha.rotr x i).toNat) ∧ w' = w.drew := by
  subst hm
  have HE : Hid (bits .or .u32 ((x.toNat : Int) / 2 ^ i) (IntKind.u32.wrap ((x.toNat : Int) * 2 ^ (32 - i))) = ((Sha.rotr x i).toNat : Int)) := Lib.hid (by
    rw [Sha.wshl_u32 x (32 - i) (by omega), Sha.shr_u32 x i (by omega), Sha.or_u32, Sha.rotr, or_comm32])
  have q : IntKind.i64.wrap (32 - (i : Int)) = 32 - (i : Int) := IntWalk.i64_in _ (by omega)
  have z0 : 0 ≤ 32 - (i : Int) := by omega
  have z1 : 32 - (i : Int) ≤ 32 := by omega
  have t1 : (32 - (i : Int)).toNat = 32 - i := by omega
  have i32 : (i : Int) ≤ 32 := by omega
  go_enter Tryd.func57, Tryd.ntmps57
  go_upto_region 1 with (fail)
  go_still (by kernel_rfl)
  change Exit.then _ _ _ _ w.drew
  go_wp2
  go_ret
  exact ⟨ret_int HE.out, rfl⟩

theorem turn_q (x : UInt32) (i : Nat) (h : 1 ≤ i ∧ i ≤ 31) (w : World) :
    Calls Tryd.prog 57 #[.int .u32 x.toNat, .int .i64 i] w fun e w' => e = .returned (.int .u32 (Sha.rotr x i).toNat) ∧ ∃ m, w' = w.drewN m :=
  (turn_any x i i rfl h.1 h.2 w).mono fun _ _ ⟨h1, h2⟩ => ⟨h1, 1, h2⟩

namespace Sha
/-- The words behind k blocks. -/
def run (msg : List UInt8) : Nat → St
  | 0 => init
  | k + 1 => mix (run msg k) ((msg.drop (64 * k)).take 64)
theorem run_pushAll (msg : List UInt8) (k : Nat) (h : 64 * k ≤ msg.length) : ∃ B : List UInt8, B.length = 64 ∧ dg0.pushAll (msg.take (64 * k)) = ⟨run msg k, B, 0, 0⟩ := by
  induction k with
  | zero => exact ⟨List.replicate 64 0, rfl, rfl⟩
  | succ k ih =>
    obtain ⟨B, hB, hp⟩ := ih (by omega)
    have hl : ((msg.drop (64 * k)).take 64).length = 64 := by rw [List.length_take, List.length_drop]; omega
    have e : msg.take (64 * (k + 1)) = msg.take (64 * k) ++ (msg.drop (64 * k)).take 64 := by
      rw [show 64 * (k + 1) = 64 * k + 64 by omega, List.take_add]
    refine ⟨(msg.drop (64 * k)).take 64, hl, ?_⟩
    rw [e, Dg.pushAll_append, hp, pushAll_full _ _ hB (by intro h0; rw [h0] at hl; simp at hl) (by show 0 + _ = 64; rw [hl])]
    have e2 : lay B 0 ((msg.drop (64 * k)).take 64) = (msg.drop (64 * k)).take 64 := by
      unfold lay
      rw [hl, List.take_zero, List.nil_append, show B.drop (0 + 64) = [] from List.drop_of_length_le (by omega), List.append_nil]
    show (⟨mix (run msg k) (lay B 0 ((msg.drop (64 * k)).take 64)), lay B 0 ((msg.drop (64 * k)).take 64), 0, 0⟩ : Dg) = _
    rw [e2]
    rfl
def padded (bs : List UInt8) : List UInt8 := bs ++ padding bs.length (UInt64.ofNat bs.length * 8)
theorem be8_length (L : UInt64) : (be8 L).length = 8 := by simp [be8]
theorem padded_length (bs : List UInt8) : (padded bs).length = bs.length + 1 + zeros bs.length + 8 := by
  unfold padded padding
  simp only [List.length_append, List.length_cons, List.length_replicate, be8_length]
  omega
theorem padded_blocks (bs : List UInt8) : (padded bs).length = 64 * ((padded bs).length / 64) := by
  rw [padded_length]
  unfold zeros
  omega
theorem sum_run (bs : List UInt8) : sum bs = out (run (padded bs) ((padded bs).length / 64)) := by
  obtain ⟨B, _, h⟩ := run_pushAll (padded bs) ((padded bs).length / 64) (by have := padded_blocks bs; omega)
  rw [← padded_blocks, List.take_of_length_le (Nat.le_refl _)] at h
  unfold sum
  show out (dg0.pushAll (padded bs)).s = _
  rw [h]
end Sha
end Go.Proofs.YtceillnmcccckaaDoor.Sh
