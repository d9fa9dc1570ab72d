/-
  What the statements' function Awake returns: true; no condition. It only makes memory of its own.
-/
import Derived.Test.YtlbpkgjngolfkaaEight
namespace Go.Proofs.Ytlbpkgjngolfkaa
open Go.RowKit

theorem num258 : Tlv.num 258 = [1, 2] := by
  rw [Tlv.num_pos _ (by omega), show 258 / 256 = 1 from rfl, Tlv.num_pos _ (by omega), show 1 / 256 = 0 from rfl, Tlv.num_zero]
  rfl

theorem rd_const (w : World) (t : TypeId) (f : Nat × Nat) (bs : List UInt8) (m : Nat) (hm : bs.length = m) (cs : Array Value) (hcs : cs = (bs.map V8).toArray) :
    Rd (w.alloc (.cells cs t f)) (w.heap.size + 1) (some ⟨w.heap.size, 0, none⟩) m bs := by
  subst hcs
  exact Rd.mk_ hm _ _ (by omega) fun j v hv => (cell_of_row _ _ _ _ t f (heap_alloc_last w _)).trans (by rw [Nat.zero_add, List.getElem?_toArray, List.getElem?_map, hv]; rfl)

set_option maxRecDepth 100000 in
theorem awake_any (w : World) : Calls Try.prog 11 #[] w fun e w' => e = .returned (.bool true) ∧ Below w.heap.size w w' := by
  have hcv := fun (w : World) (C : Array Value) (n c : Nat) => Lib.run_convert_bytes_const (P := Try.prog) w 22 5 C n c Try.underlying22 Try.underlying5
  go_enter Try.func11, Try.ntmps11
  go_wp2_with fail
  have hb0 : Below w.heap.size w (w.alloc (.cells #[.int .u8 97, .int .u8 98] 5 (2, 3))) := (Below.refl _ _).alloc (Nat.le_refl _) _
  have hp := put_any none 0 0 [] 5 (some ⟨w.heap.size, 0, none⟩) 2 2 [97, 98] (w.alloc (.cells #[.int .u8 97, .int .u8 98] 5 (2, 3))) Rd.nil ((rd_const w 5 (2, 3) [97, 98] 2 rfl _ rfl).more (by simp)) (by omega) (by omega)
  refine hp.mono ?_
  rintro e w1 ⟨A1, n1, c1, rfl, hr1, _, _, hb1⟩
  have hb : Below w.heap.size w w1 := hb0.trans (hb1.mono (by simp))
  have hs1 := run_string w1 _ A1 n1 c1 _ hr1
  rw [show Tlv.put [] 5 [97, 98] = [5, 0, 2, 97, 98] from by decide] at hs1
  clear hp hb0 hb1 hr1 hcv
  have HB := Lib.hid hb
  clear hb
  go_wp2_with fail
  have hp := num_any 258 (by omega) w1
  refine hp.mono ?_
  rintro e w2 ⟨A2, n2, c2, rfl, hr2, _, hb2⟩
  have hb : Below w.heap.size w w2 := HB.out.trans (hb2.mono HB.out.size)
  rw [num258] at hr2
  have hs2 := run_string w2 _ A2 n2 c2 _ hr2
  clear hp hb2 hr2 hs1 HB
  have HB := Lib.hid hb
  clear hb
  go_wp2_with fail
  go_ret
  exact ⟨rfl, HB.out⟩
end Go.Proofs.Ytlbpkgjngolfkaa
