/-
  Words of 32 bits: what the walk spells with whole numbers is what Lean's own UInt32 does: no condition but a shift's range.
-/
import Derived.Test.YtceillnmcccckaaDoorShaPure
import Derived.Laws.BitsAllLaws
namespace Go.Proofs.YtceillnmcccckaaDoor.Sh.Sha

theorem lt32 (x : UInt32) : x.toNat < 4294967296 := x.toNat_lt
theorem or_u32 (x y : UInt32) : bits .or .u32 (x.toNat : Int) (y.toNat : Int) = ((x ||| y).toNat : Int) := by
  rw [u32_or_nat _ _ (lt32 x) (lt32 y), UInt32.toNat_or]
theorem and_u32 (x y : UInt32) : bits .and .u32 (x.toNat : Int) (y.toNat : Int) = ((x &&& y).toNat : Int) := by
  rw [u32_and_nat _ _ (lt32 x) (lt32 y), UInt32.toNat_and]
theorem xor_u32 (x y : UInt32) : bits .xor .u32 (x.toNat : Int) (y.toNat : Int) = ((x ^^^ y).toNat : Int) := by
  rw [u32_xor_nat _ _ (lt32 x) (lt32 y), UInt32.toNat_xor]
theorem not_u32 (x : UInt32) : bits .xor .u32 4294967295 (x.toNat : Int) = ((~~~x).toNat : Int) := by
  have h := u32_xor_nat 4294967295 x.toNat (by omega) (lt32 x)
  rw [show ((4294967295 : Nat) : Int) = (4294967295 : Int) from rfl] at h
  rw [h]
  have e : (~~~x) = 4294967295 ^^^ x := by
    apply UInt32.eq_of_toBitVec_eq
    simp only [UInt32.toBitVec_xor, UInt32.toBitVec_not]
    exact (BitVec.allOnes_xor (x := x.toBitVec)).symm
  rw [e, UInt32.toNat_xor]
  rfl
theorem notif_u32 (x : UInt32) : bits .xor .u32 (if IntKind.u32.signed = true then -1 else IntKind.u32.max) (x.toNat : Int) = ((~~~x).toNat : Int) := not_u32 x
theorem add_u32 (x y : UInt32) : ((x.toNat : Int) + (y.toNat : Int)) % 4294967296 = ((x + y).toNat : Int) := by
  rw [UInt32.toNat_add]; omega
theorem wadd_u32 (x y : UInt32) : IntKind.u32.wrap ((x.toNat : Int) + (y.toNat : Int)) = ((x + y).toNat : Int) := by
  rw [IntKind.wrap_u32', add_u32]
theorem shl_u32 (x : UInt32) (s : Nat) (h : s < 32) : ((x.toNat : Int) * 2 ^ s % 4294967296) = ((x <<< UInt32.ofNat s).toNat : Int) := by
  rw [UInt32.toNat_shiftLeft, UInt32.toNat_ofNat_of_lt' (show s < UInt32.size from Nat.lt_trans h (by decide)), Nat.mod_eq_of_lt h, Nat.shiftLeft_eq, show (2 ^ 32 : Nat) = 4294967296 from rfl, Int.natCast_emod, Int.natCast_mul, Int.natCast_pow]
  rfl
theorem shr_u32 (x : UInt32) (s : Nat) (h : s < 32) : ((x.toNat : Int) / 2 ^ s) = ((x >>> UInt32.ofNat s).toNat : Int) := by
  rw [UInt32.toNat_shiftRight, UInt32.toNat_ofNat_of_lt' (show s < UInt32.size from Nat.lt_trans h (by decide)), Nat.mod_eq_of_lt h, Nat.shiftRight_eq_div_pow, Int.natCast_ediv, Int.natCast_pow]
  rfl
theorem rot_s (i : Nat) (h1 : 1 ≤ i) (h2 : i ≤ 31) : bits .and .u64 (IntKind.u64.wrap (-(i : Int))) 31 = ((32 - i : Nat) : Int) := by
  have h : ∀ j : Fin 31, bits .and .u64 (IntKind.u64.wrap (-((j.val + 1 : Nat) : Int))) 31 = ((32 - (j.val + 1) : Nat) : Int) := by decide +kernel
  have := h ⟨i - 1, by omega⟩
  simpa [show i - 1 + 1 = i by omega] using this

theorem conv_u32 (b : UInt8) : IntKind.u32.wrap (b.toNat : Int) = (b.toUInt32.toNat : Int) := by
  have := b.toNat_lt
  rw [IntKind.wrap_u32', UInt8.toNat_toUInt32]; omega
theorem wshl_u32 (x : UInt32) (s : Nat) (h : s < 32) : IntKind.u32.wrap ((x.toNat : Int) * 2 ^ s) = ((x <<< UInt32.ofNat s).toNat : Int) := by
  rw [IntKind.wrap_u32', shl_u32 x s h]
theorem word_spell (b0 b1 b2 b3 : UInt8) : bits .or .u32 (bits .or .u32 (bits .or .u32 (IntKind.u32.wrap (IntKind.u32.wrap (b0.toNat : Int) * 16777216)) (IntKind.u32.wrap (IntKind.u32.wrap (b1.toNat : Int) * 65536))) (IntKind.u32.wrap (IntKind.u32.wrap (b2.toNat : Int) * 256))) (IntKind.u32.wrap (b3.toNat : Int)) = ((mkWord b0 b1 b2 b3).toNat : Int) := by
  have h1 := wshl_u32 b0.toUInt32 24 (by omega)
  have h2 := wshl_u32 b1.toUInt32 16 (by omega)
  have h3 := wshl_u32 b2.toUInt32 8 (by omega)
  rw [show (2 ^ 24 : Int) = 16777216 from rfl] at h1
  rw [show (2 ^ 16 : Int) = 65536 from rfl] at h2
  rw [show (2 ^ 8 : Int) = 256 from rfl] at h3
  rw [conv_u32, conv_u32, conv_u32, conv_u32, h1, h2, h3, or_u32, or_u32, or_u32]
  rfl
end Go.Proofs.YtceillnmcccckaaDoor.Sh.Sha
