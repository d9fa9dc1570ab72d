/-
  What sizeBytes returns: the eight bytes of a number, the highest first: no condition.
-/
import Derived.Test.YtceillnmcccckaaDoorSmall
namespace Go.Proofs.YtceillnmcccckaaDoor
open Go.RowKit
open Tr

/-- The first i bytes of the number, zeros behind them. -/
def be8To (z : UInt64) (i : Nat) : List UInt8 := (Sh.Sha.be8 z).take i ++ List.replicate (8 - i) 0
theorem be8To_len (z : UInt64) (i : Nat) (h : i ≤ 8) : (be8To z i).length = 8 := by
  rw [be8To, List.length_append, List.length_take, Sh.Sha.be8_length, List.length_replicate]; omega
theorem be8To_step (z : UInt64) (i : Nat) (h : i < 8) : (be8To z i).set i (z >>> UInt64.ofNat (56 - 8 * i)).toUInt8 = be8To z (i + 1) := by
  have hl : ((Sh.Sha.be8 z).take i).length = i := by rw [List.length_take, Sh.Sha.be8_length]; omega
  rw [be8To, be8To, Sh.Sha.be8_take z i h, List.set_append_right _ _ (by omega), hl, Nat.sub_self, List.append_assoc]
  congr 1
  rw [show 8 - i = (8 - (i + 1)) + 1 by omega, List.replicate_succ]
  rfl
theorem zb_bcells (n : Nat) : zb n = Sh.bcells (List.replicate n 0) := rfl
theorem whole_bset {w : World} {g : Nat} {t : TypeId} {bs : List UInt8} (h : Whole w g t (Sh.bcells bs)) (i : Nat) (x : UInt8) : Whole (w.setCell ⟨g, i, none⟩ (.int .u8 x.toNat)) g t (Sh.bcells (bs.set i x)) := by
  have := h.set i (.int .u8 x.toNat)
  rwa [Sh.bcells_set] at this

set_option maxRecDepth 100000 in
theorem sizeBytes_any (z : UInt64) (w : World) : Calls Tryd.prog 55 #[.int .u64 z.toNat] w (BytesPost w (Sh.Sha.be8 z)) := by
  have hmk := run_mk 8 8 (by omega) (by omega) 8 8 rfl rfl
  go_enter Tryd.func55, Tryd.ntmps55
  go_wp2_with fail
  have hb0 : Below w.heap.size w (w.alloc (.cells (zb 8) 5)) := (Below.refl _ _).alloc (Nat.le_refl _) _
  have hw0 : Whole (w.alloc (.cells (zb 8) 5)) w.heap.size 5 (Sh.bcells (be8To z 0)) := Whole.made w 5 (zb 8)
  have HH := Lib.hid (And.intro hb0 hw0)
  clear hb0 hw0 hmk
  go_loopg [8] 8 (fun gk s8 wx => ∃ i, i + gk = 8 ∧ s8 = .int .i64 (i : Nat) ∧ Below w.heap.size w wx ∧ Whole wx w.heap.size 5 (Sh.bcells (be8To z i)))
  case atStart => exact ⟨0, by omega, rfl, HH.out.1, HH.out.2⟩
  case round =>
    clear HH
    obtain ⟨i, hi, rfl, hb, hW⟩ := hrel
    have HB := Lib.hid hb
    have HW := Lib.hid hW
    cases gk with
    | zero =>
      obtain rfl : i = 8 := by omega
      clear hb hW
      go_wp2_with fail
      go_ret
      have hW := HW.out
      refine ⟨some ⟨w.heap.size, 0, none⟩, 8, 8, rfl, ?_, Nat.le_refl _, HB.out⟩
      refine Rd.mk_ (Sh.Sha.be8_length z) _ _ hW.lt fun j v hv => hW.at_ ?_
      have e : be8To z 8 = Sh.Sha.be8 z := by
        rw [be8To, List.take_of_length_le (by rw [Sh.Sha.be8_length]; exact Nat.le_refl _)]; simp
      rw [e, Nat.zero_add, Sh.bcells, List.getElem?_toArray, List.getElem?_map, hv]
      rfl
    | succ gn =>
      have hi8 : i < 8 := by omega
      have hL := be8To_len z i (by omega)
      have f0 : wr.frozen? ⟨w.heap.size, i, none⟩ = false := hW.free i
      have f1 := hW.at_ (Sh.bcells_at (be8To z i) i (by omega))
      obtain ⟨v, hv⟩ : ∃ v, (z >>> UInt64.ofNat (56 - 8 * i)).toUInt8 = v := ⟨_, rfl⟩
      have hbyte := Sh.Sha.be8_byte z i hi8
      rw [hv] at hbyte
      have HV := Lib.hid hv
      have hsh : (56 - 8 * (i : Int)).toNat = 56 - 8 * i := by omega
      have z0 : 0 ≤ 56 - 8 * (i : Int) := by omega
      have z1 : 56 - 8 * (i : Int) ≤ 64 := by omega
      clear hb hW hv hL
      go_wp2_with fail
      go_roundg gn
      case measure => omega
      case rel =>
        refine ⟨i + 1, by omega, congrArg (Value.int .i64) (by omega), HB.out.setCell (Nat.le_refl _) _, ?_⟩
        rw [← be8To_step z i hi8, HV.out]
        exact whole_bset HW.out i v
end Go.Proofs.YtceillnmcccckaaDoor
