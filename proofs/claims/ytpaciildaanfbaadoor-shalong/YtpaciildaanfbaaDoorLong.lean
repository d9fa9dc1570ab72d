/-
  What the statement's function ShaLong returns: true, whatever number and byte come in; condition: the two tables hold their words. It only makes memory of its own.
-/
import Derived.Test.YtpaciildaanfbaaDoorHelp
namespace Go.Proofs.YtpaciildaanfbaaDoor
open Go.RowKit

theorem run_makeN (n : Nat) (hn : n < 256) (w : World) : (Instr.makeSlice 22 (.int .u8 (n : Int)) (.int .u8 (n : Int))).run Tryd.prog w = .ok (.slice (some ⟨w.heap.size, 0, none⟩) n n) (w.alloc (.cells (bcells (List.replicate n 0)) 5)) := by
  obtain ⟨i, hi, hz, hs, hb⟩ := info_of info5
  have hr := run_make (P := Tryd.prog) w 22 5 i (.int .u8 0) Tryd.underlying22 hi hz .u8 .u8 n n (by omega) (Int.le_refl _) (by rw [hb]; omega) (by omega)
  rw [hs] at hr
  have e : madeCells (Value.cells (.int .u8 0)) ((n : Int).toNat * 1) = bcells (List.replicate n 0) := by
    apply Array.toList_inj.1
    show (madeCells #[.int .u8 0] _).toList = _
    rw [toList_madeCells_one]
    simp [bcells]
  rw [e] at hr
  simpa using hr
theorem rep_set (n i : Nat) (c : UInt8) (h : i < n) : (List.replicate i c ++ List.replicate (n - i) 0).set i c = List.replicate (i + 1) c ++ List.replicate (n - (i + 1)) 0 := by
  rw [List.set_append_right _ _ (by simp), List.length_replicate, Nat.sub_self, show n - i = (n - (i + 1)) + 1 by omega, List.replicate_succ, List.set_cons_zero, List.replicate_succ', List.append_assoc]
  rfl

set_option maxRecDepth 100000 in
set_option maxHeartbeats 1000000 in
theorem long_any (n : Nat) (hn : n < 256) (c : UInt8) (w : World) (ht : Tab w 1) (ht0 : Tab w 0) (hw : 1 < w.heap.size) :
    Calls Tryd.prog 4 #[.int .u8 n, .int .u8 c.toNat] w fun e w' => e = .returned (.bool true) ∧ Below w.heap.size w w' := by
  have HT := Lib.hid ht
  have HT0 := Lib.hid ht0
  clear ht ht0
  go_enter Tryd.func4, Tryd.ntmps4
  go_wp2_with fail
  refine (awake_any w HT.out hw).mono ?_
  rintro e w1 ⟨rfl, hb1⟩
  have hmk := run_makeN n hn
  have hs : Whole (w1.alloc (.cells (bcells (List.replicate n 0)) 5)) w1.heap.size 5 (bcells (List.replicate 0 c ++ List.replicate (n - 0) 0)) := Whole.made _ _ _
  have hb2 : Below w.heap.size w (w1.alloc (.cells (bcells (List.replicate n 0)) 5)) := hb1.alloc hb1.size _
  have hg := hb1.size
  have HS := Lib.hid hs
  have HB2 := Lib.hid hb2
  clear hs hb1 hb2
  obtain ⟨R, hR⟩ : ∃ R, bcells (List.replicate n 0) = R := ⟨_, rfl⟩
  rw [hR] at HS HB2
  simp only [hR] at hmk
  clear hR
  go_wp2_with fail
  generalize w1.heap.size = g at *
  generalize w1.alloc (.cells R 5) = w2 at *
  clear hmk
  go_loopw [13] (fun i wx => ∃ k : Nat, k ≤ n ∧ i = .int .i64 k ∧ Whole wx g 5 (bcells (List.replicate k c ++ List.replicate (n - k) 0)) ∧ Below w.heap.size w wx) (fun i _ => n - (intOf i).toNat)
  case atStart => exact ⟨0, by omega, rfl, HS.out, HB2.out⟩
  case round =>
    clear HS HB2
    obtain ⟨k, hk, rfl, hW, hB⟩ := hrel
    by_cases hlt : k < n
    · have c0 := hW.at_ (bcells_at _ k (by simp; omega))
      have f0 := hW.free k
      have hst := hW.set k (.int .u8 c.toNat)
      rw [bcells_set, rep_set n k c hlt] at hst
      have H := Lib.hid hst
      have HB := Lib.hid (hB.setCell (p := ⟨g, k, none⟩) hg (.int .u8 c.toNat))
      clear hW hB hst
      generalize (List.replicate k c ++ List.replicate (n - k) 0).getD k 0 = old at *
      go_wp2_with fail
      go_roundw
      case rel => exact ⟨k + 1, by omega, by go_num, H.out, HB.out⟩
      case measure => simp [intOf]; omega
    · obtain rfl : k = n := by omega
      rw [Nat.sub_self, List.replicate_zero, List.append_nil] at hW
      have hrd : Reads wr (some ⟨g, 0, none⟩) k (List.replicate k c) := ⟨by simp, fun _ => ⟨g, 0, rfl, hW.lt, fun j v hv => by
        rw [Nat.zero_add]
        exact hW.at_ (by rw [bcells_V, List.getElem?_toArray, List.getElem?_map, hv]; rfl)⟩⟩
      have HRD := Lib.hid hrd
      have HB := Lib.hid hB
      clear hW hB hrd
      generalize List.replicate k c = bs at *
      go_wp2_with fail
      have hbp : Below w.heap.size w (wr.alloc (.cells #[.slice (some ⟨g, 0, none⟩) k k] 22)) := HB.out.alloc HB.out.size _
      refine (sum_as _ 1 1 [bs] bs (List.append_nil bs) _ (parts_one wr 22 _ k k bs HRD.out (Nat.le_refl _) (by omega)) (by omega) (tab_below HT.out hbp hw) (by have := HB.out.size; simp; omega)).mono ?_
      rintro e w3 ⟨rfl, hb3⟩
      have hb3' : Below w.heap.size w w3 := hbp.trans (hb3.mono hbp.size)
      have hrd3 := (HRD.out.below ((Below.refl _ wr).alloc (Nat.le_refl _) (.cells #[.slice (some ⟨g, 0, none⟩) k k] 22))).below hb3
      have HRD3 := Lib.hid hrd3
      have HB3 := Lib.hid hb3'
      clear hbp hb3 hb3' hrd3
      obtain ⟨X, hX⟩ : ∃ X, bcells (Sha.sum bs) = X := ⟨_, rfl⟩
      rw [hX]
      have HX := Lib.hid hX
      clear hX
      go_wp2_with fail
      refine (ref_any _ k k bs w3 HRD3.out (by omega) (tab0_below HT0.out HB3.out hw) (by have := HB3.out.size; omega)).mono ?_
      rintro e w6 ⟨rfl, hb6⟩
      rw [HX.out]
      have heq := fun w => run_eq25 bs bs w
      rw [beq_self_eq_true, HX.out] at heq
      have HB6 := Lib.hid (HB3.out.trans (hb6.mono HB3.out.size))
      clear hb6
      go_wp2_with fail
      go_ret
      exact ⟨rfl, HB6.out⟩
end Go.Proofs.YtpaciildaanfbaaDoor
