/-
  What bits.RotateLeft32, sha.turned and sha.moved return: no condition; the world stands.
-/
import Derived.Test.YtceillnmcccckaaDoorProg
import Derived.Test.YtceillnmcccckaaDoorShaWords
import Derived.WalkKit
import Derived.WalkSpells
import Derived.Lib.Hide
namespace Go.Proofs.YtceillnmcccckaaDoor.Sh
open Go.RowKit

theorem ret_int {k : IntKind} {a b : Int} (h : a = b) : Ending.returned (.int k a) = .returned (.int k b) := by rw [h]

set_option maxHeartbeats 400000 in
theorem rot_any (x : UInt32) (i : Nat) (m : Int) (hm : m = -(i : Int)) (h1 : 1 ≤ i) (h2 : i ≤ 31) (w : World) :
    Calls Tryd.prog 77 #[.int .u32 x.toNat, .int .i64 m] w fun e w' => e = .returned (.int .u32 (Sha.rotr x i).toNat) ∧ w = w' := by
  obtain ⟨s, hs⟩ : ∃ s, s = 32 - i := ⟨_, rfl⟩
  have hb : bits .and .u64 (IntKind.u64.wrap m) 31 = (s : Int) := by rw [hm, Sha.rot_s i h1 h2, hs]
  have s1 : 1 ≤ s := by omega
  have s2 : s ≤ 31 := by omega
  have HE : Hid (bits .or .u32 ((x.toNat : Int) * 2 ^ s % 4294967296) ((x.toNat : Int) / 2 ^ (32 - s)) = ((Sha.rotr x i).toNat : Int)) := Lib.hid (by
    rw [Sha.shl_u32 x s (by omega), Sha.shr_u32 x (32 - s) (by omega), Sha.or_u32, Sha.rotr, hs, show 32 - (32 - i) = i by omega])
  clear hs hm h1 h2
  go_enter Tryd.func77, Tryd.ntmps77
  go_wp2
  go_ret
  exact ⟨ret_int HE.out, rfl⟩

set_option maxHeartbeats 400000 in
theorem turned_any (x : UInt32) (i j k : Nat) (hi : 1 ≤ i ∧ i ≤ 31) (hj : 1 ≤ j ∧ j ≤ 31) (hk : 1 ≤ k ∧ k ≤ 31) (w : World) :
    Calls Tryd.prog 75 #[.int .u32 x.toNat, .int .i64 i, .int .i64 j, .int .i64 k] w fun e w' => e = .returned (.int .u32 (Sha.rotr x i ^^^ Sha.rotr x j ^^^ Sha.rotr x k).toNat) ∧ w = w' := by
  obtain ⟨i1, i2⟩ := hi
  obtain ⟨j1, j2⟩ := hj
  obtain ⟨k1, k2⟩ := hk
  go_enter Tryd.func75, Tryd.ntmps75
  go_wp2_with fail
  refine (rot_any x i _ rfl i1 i2 _).mono ?_
  rintro e w' ⟨rfl, rfl⟩
  go_wp2_with fail
  refine (rot_any x j _ rfl j1 j2 _).mono ?_
  rintro e w' ⟨rfl, rfl⟩
  go_wp2_with fail
  refine (rot_any x k _ rfl k1 k2 _).mono ?_
  rintro e w' ⟨rfl, rfl⟩
  go_wp2
  go_ret
  exact ⟨ret_int (by rw [Sha.xor_u32, Sha.xor_u32]), rfl⟩

set_option maxHeartbeats 400000 in
theorem moved_any (x : UInt32) (i j k : Nat) (hi : 1 ≤ i ∧ i ≤ 31) (hj : 1 ≤ j ∧ j ≤ 31) (hk : 1 ≤ k ∧ k ≤ 31) (w : World) :
    Calls Tryd.prog 76 #[.int .u32 x.toNat, .int .i64 i, .int .i64 j, .int .u64 k] w fun e w' => e = .returned (.int .u32 (Sha.rotr x i ^^^ Sha.rotr x j ^^^ x >>> UInt32.ofNat k).toNat) ∧ w = w' := by
  obtain ⟨i1, i2⟩ := hi
  obtain ⟨j1, j2⟩ := hj
  obtain ⟨k1, k2⟩ := hk
  go_enter Tryd.func76, Tryd.ntmps76
  go_wp2_with fail
  refine (rot_any x i _ rfl i1 i2 _).mono ?_
  rintro e w' ⟨rfl, rfl⟩
  go_wp2_with fail
  refine (rot_any x j _ rfl j1 j2 _).mono ?_
  rintro e w' ⟨rfl, rfl⟩
  go_wp2
  go_ret
  exact ⟨ret_int (by rw [Sha.xor_u32, Sha.shr_u32 x k (by omega), Sha.xor_u32]), rfl⟩

theorem turned_e (x : UInt32) (w : World) : Calls Tryd.prog 75 #[.int .u32 x.toNat, .int .i64 6, .int .i64 11, .int .i64 25] w fun e w' => e = .returned (.int .u32 (Sha.big1 x).toNat) ∧ w = w' :=
  turned_any x 6 11 25 (by decide) (by decide) (by decide) w
theorem turned_a (x : UInt32) (w : World) : Calls Tryd.prog 75 #[.int .u32 x.toNat, .int .i64 2, .int .i64 13, .int .i64 22] w fun e w' => e = .returned (.int .u32 (Sha.big0 x).toNat) ∧ w = w' :=
  turned_any x 2 13 22 (by decide) (by decide) (by decide) w
theorem moved_0 (x : UInt32) (w : World) : Calls Tryd.prog 76 #[.int .u32 x.toNat, .int .i64 7, .int .i64 18, .int .u64 3] w fun e w' => e = .returned (.int .u32 (Sha.sml0 x).toNat) ∧ w = w' :=
  moved_any x 7 18 3 (by decide) (by decide) (by decide) w
theorem moved_1 (x : UInt32) (w : World) : Calls Tryd.prog 76 #[.int .u32 x.toNat, .int .i64 17, .int .i64 19, .int .u64 10] w fun e w' => e = .returned (.int .u32 (Sha.sml1 x).toNat) ∧ w = w' :=
  moved_any x 17 19 10 (by decide) (by decide) (by decide) w

end Go.Proofs.YtceillnmcccckaaDoor.Sh
