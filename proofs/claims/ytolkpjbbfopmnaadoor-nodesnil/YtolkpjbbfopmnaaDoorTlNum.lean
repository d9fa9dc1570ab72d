/-
  What tlv.Num returns: the number as few bytes, in new memory; condition: the number has 64 bits.
-/
import Derived.Test.YtolkpjbbfopmnaaDoorTlPut
import Derived.Test.YtolkpjbbfopmnaaDoorTlNums
import Derived.Test.YtolkpjbbfopmnaaDoorTlLen
namespace Go.Proofs.YtolkpjbbfopmnaaDoor.Tl
open Go.RowKit

theorem len64_n (n r : Nat) (hn : n < 18446744073709551616) (hr : Lib.bitLen n = r) (w : World) :
    Calls Tryd.prog 87 #[.int .u64 n] w fun e w' => e = .returned (.int .i64 r) ∧ w = w' :=
  (len64_any n w (by omega) (by omega)).mono fun e w' ⟨h1, h2⟩ => ⟨by rw [h1, Int.toNat_natCast, hr], h2.symm⟩

def bcells (bs : List UInt8) : Array Value := (bs.map V8).toArray
theorem bcells_set (bs : List UInt8) (i : Nat) (x : UInt8) : (bcells bs).setIfInBounds i (V8 x) = bcells (bs.set i x) := by
  simp [bcells, List.map_set]
theorem rd_whole {w : World} {g : Nat} {bs : List UInt8} (h : Whole w g 5 (bcells bs)) : Rd w w.heap.size (some ⟨g, 0, none⟩) bs.length bs :=
  Rd.mk_ rfl g 0 h.lt fun j v hv => h.at_ (by rw [Nat.zero_add, bcells, List.getElem?_toArray, List.getElem?_map, hv]; rfl)

/-- How it stands behind k rounds. -/
def NumRel (n g : Nat) (w : World) (x i : Value) (wx : World) : Prop :=
  ∃ k N : Nat, k ≤ (Tlv.num n).length ∧ N = n / 256 ^ k ∧ x = .int .u64 N ∧ i = .int .i64 (((Tlv.num n).length : Int) - 1 - k) ∧ Whole wx g 5 (bcells (Tlv.half n k)) ∧ Below w.heap.size w wx

theorem numrel_step {n g k : Nat} {w wx : World} (h : Whole wx g 5 (bcells (Tlv.half n k))) (hb : Below w.heap.size w wx) (hg : w.heap.size ≤ g) (hk : k < (Tlv.num n).length) (j : Nat) (hj : j = (Tlv.num n).length - 1 - k) :
    Whole (wx.setCell ⟨g, j, none⟩ (.int .u8 (((n / 256 ^ k : Nat) : Int) % 256))) g 5 (bcells (Tlv.half n (k + 1))) ∧ Below w.heap.size w (wx.setCell ⟨g, j, none⟩ (.int .u8 (((n / 256 ^ k : Nat) : Int) % 256))) := by
  refine ⟨?_, hb.setCell hg _⟩
  have hv : Value.int .u8 (((n / 256 ^ k : Nat) : Int) % 256) = V8 (UInt8.ofNat (n / 256 ^ k)) := by
    unfold V8
    rw [UInt8.toNat_ofNat']
    congr 1
  have := h.set j (V8 (UInt8.ofNat (n / 256 ^ k)))
  rw [bcells_set, hj, Tlv.half_set n k hk, ← hj] at this
  rw [hv]
  exact this

set_option maxRecDepth 100000 in
theorem num_any (n : Nat) (hn : n < 18446744073709551616) (w : World) : Calls Tryd.prog 68 #[.int .u64 n] w (BytesPost w (Tlv.num n)) := by
  obtain ⟨r, hr⟩ : ∃ r, Lib.bitLen n = r := ⟨_, rfl⟩
  have hL := Tlv.num_bits n hn
  rw [hr] at hL
  have hL8 := Tlv.num_len8 n hn
  obtain ⟨L, hLL⟩ : ∃ L, (Tlv.num n).length = L := ⟨_, rfl⟩
  have HLL := Lib.hid hLL
  have HRR := Lib.hid hr
  have hmk := run_mk L L (Nat.le_refl _) (by omega) (((r : Int) + 7) / 8) (((r : Int) + 7) / 8) (by omega) (by omega)
  have hr64 : r ≤ 64 := by omega
  have hs0 : Whole (w.alloc (.cells (zb L) 5)) w.heap.size 5 (bcells (Tlv.half n 0)) := by
    rw [Tlv.half_zero, hLL]; exact Whole.made w 5 _
  have HS0 := Lib.hid hs0
  rw [hLL] at hL8
  clear hr hL hLL hs0
  go_enter Tryd.func68, Tryd.ntmps68
  go_wp2_with fail
  refine (len64_n n r hn HRR.out w).mono ?_
  rintro e w' ⟨rfl, rfl⟩
  go_wp2_with fail
  have hb0 : Below w.heap.size w (w.alloc (.cells (zb L) 5)) := (Below.refl _ _).alloc (Nat.le_refl _) _
  have HB0 := Lib.hid hb0
  clear hmk hb0
  generalize w.alloc (.cells (zb L) 5) = w1 at *
  go_loopw [0, 4] (fun x i wx => NumRel n w.heap.size w x i wx) (fun _ i _ => (intOf i + 1).toNat)
  case atStart =>
    refine ⟨0, n, Nat.zero_le _, by simp, rfl, ?_, HS0.out, HB0.out⟩
    rw [HLL.out]; go_num
  case round =>
    obtain ⟨k, N, hk, hN, rfl, rfl, hwh, hbl⟩ := hrel
    have hk' : k ≤ L := by rw [HLL.out] at hk; exact hk
    have HLk := Lib.hid hk
    have HN := Lib.hid hN
    have hN64 : N < 18446744073709551616 := by rw [hN]; exact Nat.lt_of_le_of_lt (Nat.div_le_self _ _) hn
    have HW := Lib.hid hwh
    have HBL := Lib.hid hbl
    rw [HLL.out]
    clear hk hwh hbl hN HS0 HB0
    by_cases hlt : k < L
    · obtain ⟨j, hj⟩ : ∃ j : Nat, (L : Int) - 1 - k = j := ⟨L - 1 - k, by omega⟩
      have hjj : j = L - 1 - k := by omega
      have hjL : j < L := by omega
      have hcell : ∃ u, wr.cell? ⟨w.heap.size, j, none⟩ = some u := by
        have hl : j < (bcells (Tlv.half n k)).size := by
          rw [bcells, List.size_toArray, List.length_map, Tlv.half_length n k HLk.out, HLL.out]; exact hjL
        exact ⟨_, HW.out.at_ (Array.getElem?_eq_getElem hl)⟩
      obtain ⟨u, hcell⟩ := hcell
      have hfree := HW.out.free j
      rw [hj]
      have HJ := Lib.hid hj
      have HJJ := Lib.hid hjj
      clear hj hjj
      go_wp2_with fail
      go_roundw
      case rel =>
        obtain ⟨h1, h2⟩ := numrel_step HW.out HBL.out (Nat.le_refl _) (by rw [HLL.out]; exact hlt) j (by rw [HLL.out]; exact HJJ.out)
        rw [← HN.out] at h1 h2
        refine ⟨k + 1, N / 256, by rw [HLL.out]; omega, ?_, by go_num, ?_, h1, h2⟩
        · rw [HN.out, Nat.div_div_eq_div_mul, Nat.pow_succ]
        · rw [HLL.out]
          have := HJ.out
          congr 1
          omega
      case measure => simp [intOf]
    · obtain rfl : k = L := by omega
      have hneg : (k : Int) - 1 - k = -1 := by omega
      rw [hneg]
      clear hneg
      go_wp2_with fail
      go_ret
      have hwh := HW.out
      have hl := HLL.out
      rw [← hl, Tlv.half_all] at hwh
      have hr := rd_whole hwh
      refine ⟨_, _, k, rfl, ?_, Nat.le_refl _, HBL.out⟩
      rw [hl] at hr
      exact hr
end Go.Proofs.YtolkpjbbfopmnaaDoor.Tl
