/-
  What sha.schedule returns for a block of 64 bytes: the 64 words that the chapter says; no condition but the block's length; it only makes memory of its own.
-/
import Derived.Test.YtceillnmcccckaaDoorShaRot
import Derived.Test.YtceillnmcccckaaDoorShaMem
import Derived.StillTailTactics
import Derived.IntWalk
import Derived.Deep.DeepCutAuto
namespace Go.Proofs.YtceillnmcccckaaDoor.Sh
open Go.RowKit
def SRel (bs : List UInt8) (w : World) (k : Nat) (wx : World) : Prop :=
  Whole wx w.heap.size 106 (bcells bs) ∧ Whole wx (w.heap.size + 1) 100 (wcells (Sha.fill bs 0)) ∧ Whole wx (w.heap.size + 1 + 1) 100 (wcells (Sha.fill bs k)) ∧ Below w.heap.size w wx
theorem srel_start (bs : List UInt8) (w : World) (Z : Array Value) (hz : Z = wcells (Sha.fill bs 0)) :
    SRel bs w 0 (((w.alloc (.cells (bcells bs) 106)).alloc (.cells Z 100)).alloc (.cells Z 100)) := by
  subst hz
  refine ⟨((Whole.made _ _ _).alloc _).alloc _, ?_, ?_, ?_⟩
  · have := (Whole.made (w.alloc (.cells (bcells bs) 106)) 100 (wcells (Sha.fill bs 0))).alloc (.cells (wcells (Sha.fill bs 0)) 100)
    simpa using this
  · have := Whole.made ((w.alloc (.cells (bcells bs) 106)).alloc (.cells (wcells (Sha.fill bs 0)) 100)) 100 (wcells (Sha.fill bs 0))
    simpa using this
  · exact (((Below.refl _ _).alloc (by simp) _).alloc (by simp) _).alloc (by simp; omega) _

theorem moved_0s (x : UInt32) (w : World) : Calls Tryd.prog 76 #[.int .u32 x.toNat, .int .i64 7, .int .i64 18, .int .u64 3] w fun e w' => e = .returned (.int .u32 (Sha.sml0 x).toNat) ∧ w' = w :=
  (moved_0 x w).mono fun _ _ ⟨h1, h2⟩ => ⟨h1, h2.symm⟩
theorem moved_1s (x : UInt32) (w : World) : Calls Tryd.prog 76 #[.int .u32 x.toNat, .int .i64 17, .int .i64 19, .int .u64 10] w fun e w' => e = .returned (.int .u32 (Sha.sml1 x).toNat) ∧ w' = w :=
  (moved_1 x w).mono fun _ _ ⟨h1, h2⟩ => ⟨h1, h2.symm⟩

theorem srel_step (bs : List UInt8) (w wx : World) (k : Nat) (x : UInt32) (h : SRel bs w k wx) (hx : x = if k < 16 then Sha.word bs k else Sha.nextW (Sha.fill bs k) k) :
    SRel bs w (k + 1) (wx.setCell ⟨w.heap.size + 1 + 1, k, none⟩ (.int .u32 x.toNat)) := by
  obtain ⟨h1, h2, h3, h4⟩ := h
  refine ⟨h1.other (by show _ ≠ w.heap.size + 1 + 1; omega) _, h2.other (by show _ ≠ w.heap.size + 1 + 1; omega) _, ?_, h4.setCell (by show _ ≤ w.heap.size + 1 + 1; omega) _⟩
  have := h3.set k (.int .u32 x.toNat)
  rw [wcells_set, hx] at this
  rw [hx]
  exact this
theorem srel_drew {bs : List UInt8} {w wx : World} {k : Nat} (h : SRel bs w k wx) : SRel bs w k wx.drew := ⟨h.1, h.2.1, h.2.2.1, h.2.2.2.drew⟩

set_option maxRecDepth 100000 in
set_option maxHeartbeats 2000000 in
theorem sched_any (bs : List UInt8) (hl : bs.length = 64) (w : World) :
    Calls Tryd.prog 74 #[.agg (bcells bs)] w fun e w' => e = .returned (.agg (wcells (Sha.sched bs))) ∧ Below w.heap.size w w' := by
  have Hl : Hid (bs.length = 64) := hl
  clear hl
  go_enter Tryd.func74, Tryd.ntmps74
  go_wp2_with fail
  go_loopw [6] (fun i6 wx => ∃ k : Nat, k ≤ 16 ∧ i6 = .int .i64 k ∧ SRel bs w k wx) (fun i6 _ => 16 - (intOf i6).toNat)
  case atStart => exact ⟨0, by omega, rfl, srel_start bs w _ rfl⟩
  case round =>
    obtain ⟨k, hk, rfl, hrel⟩ := hrel
    by_cases hlt : k < 16
    · have c0 := hrel.1.at_ (bcells_at bs (4 * k) (by rw [Hl.out]; omega))
      have c1 := hrel.1.at_ (bcells_at bs (4 * k + 1) (by rw [Hl.out]; omega))
      have c2 := hrel.1.at_ (bcells_at bs (4 * k + 2) (by rw [Hl.out]; omega))
      have c3 := hrel.1.at_ (bcells_at bs (4 * k + 3) (by rw [Hl.out]; omega))
      have f0 := hrel.2.2.1.free k
      have f1 := hrel.2.2.1.at_ (wcells_at _ k (by rw [Sha.fill_length]; omega))
      have hw : Sha.mkWord (bs.getD (4 * k) 0) (bs.getD (4 * k + 1) 0) (bs.getD (4 * k + 2) 0) (bs.getD (4 * k + 3) 0) = Sha.word bs k := rfl
      have H := Lib.hid (srel_step bs w wr.drew k (Sha.word bs k) (srel_drew hrel) (by rw [if_pos hlt]))
      clear hrel
      generalize bs.getD (4 * k) 0 = b0 at c0 hw
      generalize bs.getD (4 * k + 1) 0 = b1 at c1 hw
      generalize bs.getD (4 * k + 2) 0 = b2 at c2 hw
      generalize bs.getD (4 * k + 3) 0 = b3 at c3 hw
      have HW := Lib.hid hw
      clear hw
      have q0 : IntKind.i64.wrap (4 * (k : Int)) = 4 * (k : Int) := IntWalk.i64_in _ (by omega)
      have q1 : IntKind.i64.wrap (4 * (k : Int) + 1) = 4 * (k : Int) + 1 := IntWalk.i64_in _ (by omega)
      have q2 : IntKind.i64.wrap (4 * (k : Int) + 2) = 4 * (k : Int) + 2 := IntWalk.i64_in _ (by omega)
      have q3 : IntKind.i64.wrap (4 * (k : Int) + 3) = 4 * (k : Int) + 3 := IntWalk.i64_in _ (by omega)
      have z0 : 0 ≤ 4 * (k : Int) ∧ 4 * (k : Int) < 64 := by omega
      have z1 : 0 ≤ 4 * (k : Int) + 1 ∧ 4 * (k : Int) + 1 < 64 := by omega
      have z2 : 0 ≤ 4 * (k : Int) + 2 ∧ 4 * (k : Int) + 2 < 64 := by omega
      have z3 : 0 ≤ 4 * (k : Int) + 3 ∧ 4 * (k : Int) + 3 < 64 := by omega
      have t0 : (4 * (k : Int)).toNat = 4 * k := by omega
      have t1 : (4 * (k : Int) + 1).toNat = 4 * k + 1 := by omega
      have t2 : (4 * (k : Int) + 2).toNat = 4 * k + 2 := by omega
      have t3 : (4 * (k : Int) + 3).toNat = 4 * k + 3 := by omega
      have k64 : (k : Int) < 64 := by omega
      obtain ⟨z00, z01⟩ := z0
      obtain ⟨z10, z11⟩ := z1
      obtain ⟨z20, z21⟩ := z2
      obtain ⟨z30, z31⟩ := z3
      go_wp2_with fail
      go_still_tail 31, (by kernel_rfl)
      change wpList _ _ _ _ _ wr.drew
      rw [Sha.word_spell, HW.out]
      clear q0 q1 q2 q3 t0 t1 t2 t3 z00 z01 z10 z11 z20 z21 z30 z31 c0 c1 c2 c3
      go_wp2_with fail
      go_roundw
      case rel => exact ⟨k + 1, by omega, by go_num, H.out⟩
      case measure => simp [intOf]; omega
    · obtain rfl : k = 16 := by omega
      have H16 := Lib.hid hrel
      clear hrel hk hlt
      rw [show ((16 : Nat) : Int) = (16 : Int) from rfl]
      go_wp2_with fail
      go_loopw [5] (fun i5 wx => ∃ k : Nat, 16 ≤ k ∧ k ≤ 64 ∧ i5 = .int .i64 k ∧ SRel bs w k wx) (fun i5 _ => 64 - (intOf i5).toNat)
      case atStart => exact ⟨16, by omega, by omega, rfl, H16.out⟩
      case round =>
        obtain ⟨k, hk1, hk2, rfl, hrel⟩ := hrel
        by_cases hlt : k < 64
        · have c0 := hrel.2.2.1.at_ (wcells_at _ (k - 16) (by rw [Sha.fill_length]; omega))
          have c1 := hrel.2.2.1.at_ (wcells_at _ (k - 15) (by rw [Sha.fill_length]; omega))
          have c2 := hrel.2.2.1.at_ (wcells_at _ (k - 7) (by rw [Sha.fill_length]; omega))
          have c3 := hrel.2.2.1.at_ (wcells_at _ (k - 2) (by rw [Sha.fill_length]; omega))
          have f0 := hrel.2.2.1.free k
          have f1 := hrel.2.2.1.at_ (wcells_at _ k (by rw [Sha.fill_length]; omega))
          have hw : (Sha.fill bs k).getD (k - 16) 0 + Sha.sml0 ((Sha.fill bs k).getD (k - 15) 0) + (Sha.fill bs k).getD (k - 7) 0 + Sha.sml1 ((Sha.fill bs k).getD (k - 2) 0) = Sha.nextW (Sha.fill bs k) k := rfl
          have H := Lib.hid (srel_step bs w wr.drew k (Sha.nextW (Sha.fill bs k) k) (srel_drew hrel) (by rw [if_neg (by omega)]))
          clear hrel
          generalize (Sha.fill bs k).getD (k - 16) 0 = x0 at c0 hw
          generalize (Sha.fill bs k).getD (k - 15) 0 = x1 at c1 hw
          generalize (Sha.fill bs k).getD (k - 7) 0 = x2 at c2 hw
          generalize (Sha.fill bs k).getD (k - 2) 0 = x3 at c3 hw
          have HW := Lib.hid hw
          clear hw
          have q0 : IntKind.i64.wrap ((k : Int) - 16) = (k : Int) - 16 := IntWalk.i64_in _ (by omega)
          have q1 : IntKind.i64.wrap ((k : Int) - 15) = (k : Int) - 15 := IntWalk.i64_in _ (by omega)
          have q2 : IntKind.i64.wrap ((k : Int) - 7) = (k : Int) - 7 := IntWalk.i64_in _ (by omega)
          have q3 : IntKind.i64.wrap ((k : Int) - 2) = (k : Int) - 2 := IntWalk.i64_in _ (by omega)
          have z0 : 0 ≤ (k : Int) - 16 ∧ (k : Int) - 16 < 64 ∧ (16 : Int) ≤ k ∧ (k : Int) < 80 := by omega
          have z1 : 0 ≤ (k : Int) - 15 ∧ (k : Int) - 15 < 64 ∧ (15 : Int) ≤ k ∧ (k : Int) < 79 := by omega
          have z2 : 0 ≤ (k : Int) - 7 ∧ (k : Int) - 7 < 64 ∧ (7 : Int) ≤ k ∧ (k : Int) < 71 := by omega
          have z3 : 0 ≤ (k : Int) - 2 ∧ (k : Int) - 2 < 64 ∧ (2 : Int) ≤ k ∧ (k : Int) < 66 := by omega
          have t0 : ((k : Int) - 16).toNat = k - 16 := by omega
          have t1 : ((k : Int) - 15).toNat = k - 15 := by omega
          have t2 : ((k : Int) - 7).toNat = k - 7 := by omega
          have t3 : ((k : Int) - 2).toNat = k - 2 := by omega
          have k64 : (k : Int) < 64 := by omega
          obtain ⟨z00, z01, z02, z03⟩ := z0
          obtain ⟨z10, z11, z12, z13⟩ := z1
          obtain ⟨z20, z21, z22, z23⟩ := z2
          obtain ⟨z30, z31, z32, z33⟩ := z3
          go_wp2_with fail
          go_still_tail 23, (by kernel_rfl)
          still_call (moved_0s _ _)
          repeat still_step
          still_call (moved_1s _ _)
          repeat still_step
          refine wpStill_nil ?_
          change wpList _ _ _ _ _ wr.drew
          simp only [Sha.wadd_u32]
          rw [HW.out]
          clear q0 q1 q2 q3 t0 t1 t2 t3 z00 z01 z10 z11 z20 z21 z30 z31 z02 z03 z12 z13 z22 z23 z32 z33 c0 c1 c2 c3
          go_wp2_with fail
          go_roundw
          case rel => exact ⟨k + 1, by omega, by omega, by go_num, H.out⟩
          case measure => simp [intOf]; omega
        · obtain rfl : k = 64 := by omega
          have H64 := Lib.hid hrel
          clear hrel hk1 hk2 hlt H16
          have hlen : (wcells (Sha.fill bs 64)).size = 64 := by rw [wcells_size, Sha.fill_length]
          have hi : (Tryd.prog.info? 100).map (·.size) = some (wcells (Sha.fill bs 64)).toList.length := by rw [Array.length_toList, hlen]; kernel_rfl
          have hth : wr.there (w.heap.size + 1) 0 (wcells (Sha.fill bs 64)).size := by
            have := (H64.out).2.1.there_
            rwa [wcells_size, Sha.fill_length, ← hlen] at this
          have hone := wcells_one (Sha.fill bs 64)
          have hlo := (H64.out).2.2.1.range
          have hbel := (H64.out).2.2.2
          have hsch : wcells (Sha.sched bs) = wcells (Sha.fill bs 64) := rfl
          have HS := Lib.hid hsch
          clear H64 hsch
          generalize wcells (Sha.fill bs 64) = W at *
          have HI := Lib.hid hi
          have HLO := Lib.hid hlo
          have HTH := Lib.hid hth
          have HONE := Lib.hid hone
          have HLEN := Lib.hid hlen
          clear hi hlen hth hlo hone
          go_upto_region 11 with (fail)
          refine wp_region_lit ?_
          refine wpList_load_mid rfl 100 (.tmp 3) rfl (w.heap.size + 1 + 1) 0 ?_ W.toList (.array 64 96) HLO.out Tryd.underlying100 rfl HI.out ?_
          · rfl
          rw [Array.toArray_toList]
          refine wpList_store_mid rfl 100 (.tmp 2) (.tmp 68) rfl (w.heap.size + 1) 0 W ?_ ?_ HTH.out ?_ HONE.out ?_
          · rfl
          · rfl
          · rw [HI.out, Array.length_toList]
          go_wp2_with fail
          refine bodyPost_ret (v := .agg W) ?_ rfl ⟨by rw [HS.out], below_setCells _ _ _ _ hbel (by omega)⟩
          rw [results_cell1 (p := 2) (ty := 100) Tryd.results74]
          have hr : (loadVar 100 ⟨w.heap.size + 1, 0, none⟩).run Tryd.prog (wr.setCells (w.heap.size + 1) 0 W.toList) = .ok (.agg W.toList.toArray) _ :=
            run_loadVar_mid _ (w.heap.size + 1) 0 100 W.toList (.array 64 96) (World.rangeAt_setCells_same _ _ _ _ (by rw [Array.length_toList]; exact HTH.out)) Tryd.underlying100 rfl HI.out
          rw [Array.toArray_toList] at hr
          exact hr
end Go.Proofs.YtceillnmcccckaaDoor.Sh
