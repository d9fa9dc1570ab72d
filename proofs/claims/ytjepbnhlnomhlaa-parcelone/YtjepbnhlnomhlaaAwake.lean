/-
  The statements' fixed facts (chapter 4's two examples) come out true: no condition. They only make memory of their own.
-/
import Derived.Test.YtjepbnhlnomhlaaAck
namespace Go.Proofs.Ytjepbnhlnomhlaa
open Go.RowKit

theorem num_one : Tlv.num 1 = [1] := by
  rw [Tlv.num_pos 1 (by omega), show 1 / 256 = 0 from rfl, Tlv.num_zero]
  rfl
theorem pkt_one : pkt 0 1 0 [] 0 [] [] = [2, 0, 1, 1] := by
  unfold pkt
  rw [Tlv.num_zero, num_one]
  rfl
theorem ack_one : ackb true 0 = [1, 0, 1, 1] := by
  unfold ackb
  rw [Tlv.num_zero, num_one]
  rfl

set_option maxRecDepth 100000 in
theorem awake_any (w : World) : Calls Try.prog 5 #[] w fun e w' => e = .returned (.bool true) ∧ Below w.heap.size w w' := by
  have hp := packet_good 0 0 1 0 [] 0 [] [] w rfl (by omega) (by omega) (by omega) (by omega) (by simp) (by simp) (by simp)
  rw [pkt_one] at hp
  have HP : Hid (Calls Try.prog 7 #[.agg #[.int .i64 0, .int .u64 1, .int .u64 0, .string ⟨#[]⟩, .int .u64 0, .string ⟨#[]⟩, .string ⟨#[]⟩]] w (CodePost w [2, 0, 1, 1])) := Lib.hid hp
  clear hp
  go_enter Try.func5, Try.ntmps5
  go_wp2_with fail
  refine HP.out.mono ?_
  rintro e w1 ⟨A1, n1, k1, rfl, hr, hc1, hb⟩
  have hp := ack_yes w1
  rw [ack_one] at hp
  have HP2 : Hid (Calls Try.prog 8 #[.agg #[.bool true, .int .i64 0]] w1 (CodePost w1 [1, 0, 1, 1])) := Lib.hid hp
  have HR1 := Lib.hid hr
  have HB1 := Lib.hid hb
  clear hp HP hr hb
  go_wp2_with fail
  refine HP2.out.mono ?_
  rintro e w2 ⟨A2, n2, k2, rfl, hr, hc2, hb⟩
  have HB2 := Lib.hid (HB1.out.trans (hb.mono HB1.out.size))
  have cv1 := run_string w2 _ A1 n1 k1 _ (HR1.out.below hb (Nat.le_refl _))
  have cv2 := run_string w2 _ A2 n2 k2 _ hr
  clear HP2 hr hb
  go_wp2_with fail
  go_ret
  exact ⟨rfl, HB2.out⟩
end Go.Proofs.Ytjepbnhlnomhlaa
