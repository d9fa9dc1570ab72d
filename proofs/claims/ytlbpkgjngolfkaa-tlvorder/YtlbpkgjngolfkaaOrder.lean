/-
  What the statement's function TlvOrder returns: true, whatever numbers come in; no condition. It only makes memory of its own.
-/
import Derived.Test.YtlbpkgjngolfkaaAwake
namespace Go.Proofs.Ytlbpkgjngolfkaa
open Go.RowKit

theorem val_from (x : List UInt8) (a : Nat) : x.foldl (fun a b => a * 256 + b.toNat) a = a * 256 ^ x.length + Tlv.val x := by
  induction x generalizing a with
  | nil => simp [Tlv.val]
  | cons b x ih =>
    unfold Tlv.val
    rw [List.foldl_cons, List.foldl_cons, ih, ih, List.length_cons, Nat.pow_succ, Nat.add_mul, Nat.zero_mul, Nat.zero_add, Nat.mul_assoc, Nat.mul_comm 256, Nat.add_assoc]
theorem val_cons (b : UInt8) (x : List UInt8) : Tlv.val (b :: x) = b.toNat * 256 ^ x.length + Tlv.val x := by
  have := val_from x b.toNat
  unfold Tlv.val at this ⊢
  rw [List.foldl_cons, Nat.zero_mul, Nat.zero_add]
  exact this
theorem less_val (x y : List UInt8) (h : x.length = y.length) : Op.bytesLess x y = decide (Tlv.val x < Tlv.val y) := by
  induction x generalizing y with
  | nil =>
    obtain rfl : y = [] := List.eq_nil_of_length_eq_zero h.symm
    rfl
  | cons a x ih =>
    match y, h with
    | b :: y, h =>
      have hl : x.length = y.length := by simpa using h
      have hx := Tlv.val_lt x
      have hy := Tlv.val_lt y
      rw [Op.bytesLess, ih y hl, val_cons, val_cons, hl, Bool.eq_iff_iff]
      rw [hl] at hx
      simp only [Bool.or_eq_true, Bool.and_eq_true, decide_eq_true_eq, beq_iff_eq, UInt8.lt_iff_toNat_lt]
      generalize 256 ^ y.length = p at *
      constructor
      · rintro (h1 | ⟨rfl, h1⟩)
        · have : (a.toNat + 1) * p ≤ b.toNat * p := Nat.mul_le_mul_right p h1
          rw [Nat.add_mul] at this
          omega
        · omega
      · intro h1
        rcases Nat.lt_trichotomy a.toNat b.toNat with h2 | h2 | h2
        · exact .inl h2
        · refine .inr ⟨UInt8.toNat_inj.1 h2, ?_⟩
          rw [h2] at h1
          omega
        · have : (b.toNat + 1) * p ≤ a.toNat * p := Nat.mul_le_mul_right p h2
          rw [Nat.add_mul] at this
          omega

set_option maxRecDepth 100000 in
theorem order_any (a b : Nat) (w : World) (ha : a < 18446744073709551616) (hb : b < 18446744073709551616) :
    Calls Try.prog 9 #[.int .u64 a, .int .u64 b] w fun e w' => e = .returned (.bool true) ∧ Below w.heap.size w w' := by
  obtain ⟨lo, hlo⟩ : ∃ lo : Nat, min (a : Int) b = lo := ⟨min a b, by omega⟩
  obtain ⟨hi, hhi⟩ : ∃ hi : Nat, max (a : Int) b = hi := ⟨max a b, by omega⟩
  have hle : lo ≤ hi := by omega
  have hlt : hi < 18446744073709551616 := by omega
  have hlt0 : lo < 18446744073709551616 := by omega
  have hab : ((a : Int) == b) = decide (lo = hi) := by
    rw [Bool.eq_iff_iff]; simp; omega
  have HAB := Lib.hid hab
  clear hab
  go_enter Try.func9, Try.ntmps9
  go_wp2_with fail
  refine (awake_any w).mono ?_
  rintro e w1 ⟨rfl, hb1⟩
  have HB1 := Lib.hid hb1
  clear hb1
  go_wp2_with fail
  have hp := num_any lo hlt0 w1
  refine hp.mono ?_
  rintro e w2 ⟨A1, n1, c1, rfl, hr1, _, hb2⟩
  have HB2 := Lib.hid (HB1.out.trans (hb2.mono HB1.out.size))
  have HR1 := Lib.hid hr1
  clear hp hr1 hb2
  go_wp2_with fail
  have hp := num_any hi hlt w2
  refine hp.mono ?_
  rintro e w3 ⟨A2, n2, c2, rfl, hr2, _, hb3⟩
  have HB3 := Lib.hid (HB2.out.trans (hb3.mono HB2.out.size))
  have hr1 := HR1.out.below hb3 (Nat.le_refl _)
  have hs1 := run_string w3 _ A1 n1 c1 _ hr1
  have hs2 := run_string w3 _ A2 n2 c2 _ hr2
  have hl1 := hr1.len
  have hl2 := hr2.len
  have hmono := Tlv.num_mono lo hi hle
  have h8 := Tlv.num_len8 hi hlt
  have hz := Tlv.num_nil lo
  rw [hl1, hl2] at hmono
  rw [hl2] at h8
  rw [hl1] at hz
  have hq : ((n1 : Int) == 0) = ((lo : Int) == 0) := by rw [Bool.eq_iff_iff]; simp; exact hz
  have HL := Lib.hid (And.intro hl1 hl2)
  clear hp hr1 hr2 hb3 hl1 hl2 hz HB1 HB2 HR1
  go_wp2_with fail
  · go_ret
    refine ⟨?_, HB3.out⟩
    obtain ⟨l1, l2⟩ := HL.out
    have hn : n1 = n2 := by omega
    have hle' := less_val (Tlv.num lo) (Tlv.num hi) (by rw [l1, l2, hn])
    rw [Tlv.val_num, Tlv.val_num] at hle'
    show Ending.returned (Value.bool (decide (n1 < n2) || Op.bytesLess (Tlv.num lo) (Tlv.num hi) == !((a : Int) == b))) = _
    rw [hle', HAB.out]
    have : (decide (n1 < n2) || decide (lo < hi) == !decide (lo = hi)) = true := by
      simp
      right
      rw [Bool.eq_iff_iff]
      simp
      omega
    rw [this]
  · go_ret
    exact ⟨rfl, HB3.out⟩
end Go.Proofs.Ytlbpkgjngolfkaa
