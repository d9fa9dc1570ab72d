/-
  What sha.start returns: the running sum of nothing: no condition; it only makes memory of its own.
-/
import Derived.Test.YtceillnmcccckaaDoorShaHash
namespace Go.Proofs.YtceillnmcccckaaDoor.Sh
open Go.RowKit
def Sha.dg0 : Sha.Dg := ⟨Sha.init, List.replicate 64 0, 0, 0⟩
theorem info39 : (Tryd.prog.info? 108).map (·.size) = some 74 := by kernel_rfl

def zd : Array Value := dcells ⟨⟨0, 0, 0, 0, 0, 0, 0, 0⟩, List.replicate 64 0, 0, 0⟩
theorem zero39 : ∀ w, (zeroValue 108).run Tryd.prog w = .ok (.agg zd) w := (zero_of_info (P := Tryd.prog) (t := 108) (v := .agg zd) (n := 74) (by kernel_rfl)).1

set_option maxRecDepth 100000 in
set_option maxHeartbeats 1000000 in
theorem start_any (w : World) : Calls Tryd.prog 63 #[] w fun e w' => e = .returned (.agg (dcells Sha.dg0)) ∧ Below w.heap.size w w' := by
  have hz := zero39
  have hq : ¬ zd.size < 8 := by
    rw [show zd.size = 74 from by kernel_rfl]; omega
  have hset : (((((((zd.setIfInBounds 0 (Value.int IntKind.u32 1779033703)).setIfInBounds 1 (Value.int IntKind.u32 3144134277)).setIfInBounds 2 (Value.int IntKind.u32 1013904242)).setIfInBounds 3 (Value.int IntKind.u32 2773480762)).setIfInBounds
      4 (Value.int IntKind.u32 1359893119)).setIfInBounds 5 (Value.int IntKind.u32 2600822924)).setIfInBounds 6 (Value.int IntKind.u32 528734635)).setIfInBounds 7 (Value.int IntKind.u32 1541459225) = dcells Sha.dg0 := by kernel_rfl
  go_enter Tryd.func63, Tryd.ntmps63
  go_upto_region 1 with (fail)
  refine wp_region_lit ?_
  iterate 6 go_step
  have hone : (dcells Sha.dg0).all (·.oneCell') = true := by kernel_rfl
  have hsz : (dcells Sha.dg0).size = 74 := by kernel_rfl
  have hzz : zd.size = 74 := by kernel_rfl
  refine wpList_store_made rfl 108 (.tmp 0) (.tmp 2) rfl zd (dcells Sha.dg0) ?_ ?_ ?_ ?_ hone ?_
  · rfl
  · rfl
  · rw [hsz]; exact info39
  · rw [hsz, hzz]
  clear hz hq hset hone hzz
  go_wp2_with fail
  refine bodyPost_ret (v := .agg (dcells Sha.dg0)) ?_ rfl ⟨rfl, (Below.refl _ _).alloc (Nat.le_refl _) _⟩
  rw [results_cell1 (p := 0) (ty := 108) Tryd.results63]
  have hr : (loadVar 108 ⟨w.heap.size, 0, none⟩).run Tryd.prog (w.alloc (.cells (dcells Sha.dg0) 108)) = .ok (.agg (dcells Sha.dg0).toList.toArray) _ :=
    run_loadVar_mid _ w.heap.size 0 108 (dcells Sha.dg0).toList _ (Whole.made _ _ _).range Tryd.underlying108 rfl (by rw [Array.length_toList, hsz]; exact info39)
  rw [Array.toArray_toList] at hr
  exact hr
end Go.Proofs.YtceillnmcccckaaDoor.Sh
