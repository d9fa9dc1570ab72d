/-
  The statement on TreeHashes is proved: for every input the call returns true and each argument reads as before; condition: the listed tables start as the program's text lays them (the card ties them).
-/
import Derived.Test.YtceillnmcccckaaDoorOpen
import Derived.Test.YtceillnmcccckaaDoorOpenN
import Derived.Test.YtceillnmcccckaaDoorHashes
import Derived.Test.YtceillnmcccckaaDoorTie
import Derived.Test.YtceillnmcccckaaDoorCards
import Derived.Stop.LaidErr
namespace Go.Proofs.YtceillnmcccckaaDoor
open Go.ChangeShapes Go.WideShapes Go.ChangeAt Go.RowKit

namespace treeHashes
theorem door_met (os : Os) (args : Array Value) : laidMetH Tryd.prog Rows.treeHashesRow.laid ((World.doorLaid Tryd.prog 19 os).forCall (fun _ _ => 0) ⟨#[], args, []⟩).memory :=
  laidMetH_of_parts3 (fuel := 8) (laidMet_of_run' 8 (by kernel_rfl) (by kernel_rfl)) (by kernel_rfl) (by kernel_rfl)
theorem of_laid {W : World} (h : laidMetH Tryd.prog Rows.treeHashesRow.laid W) : Sh.Tab W 0 ∧ Sh.Tab W 1 := by
  rw [MakeChecks.laidMetH_plain _ _ _ (by kernel_rfl)] at h
  exact ⟨Sh.tab_of Sh.gRoots (Lib.tabIs_of_head (k := .u32) (zs := Sh.kkInts) Sh.gRoots Sh.tRoots Tryd.underlying100 Tryd.underlying96 (by kernel_rfl) (by kernel_rfl) h),
    Sh.tab_of Sh.gThirds (Lib.tabIs_of_head (k := .u32) (zs := Sh.kkInts) Sh.gThirds Sh.tThirds Tryd.underlying100 Tryd.underlying96 (by kernel_rfl) (by kernel_rfl) h.tail)⟩

set_option maxRecDepth 100000 in
theorem lifted (os : Os) (started : os.Started) (H : Type) (enc : TypeId × Value → H) :
    ReturnsInHanded {} Tryd.checked os 5 .any (fun w args => (Rows.treeHashesSpec.pre enc Tryd.prog Tryd.f5 [] false w args ∧ laidMetH Tryd.prog Rows.treeHashesRow.laid w) ∧ sizedMet enc Tryd.prog Tryd.f5 (OpenSpec.ofChange Rows.treeHashesSpec) false w args)
      (Rows.treeHashesSpec.post enc Tryd.prog Tryd.f5 false true false false) := by
  refine returnsInHanded_of_change_and (C := Tryd.checked) (X := fun w _ => laidMetH Tryd.prog Rows.treeHashesRow.laid w) (fun _ _ _ hh h => h.of_heap hh) Sh.own started (by kernel_rfl) Tryd.func5
    (ChangeSpec.witness_shaped (enc := enc) (C := Tryd.checked) (os := os) (X := fun w _ => laidMetH Tryd.prog Rows.treeHashesRow.laid w) false (World.doorLaid Tryd.prog 19 os) #[.agg z64] 8 rfl (World.shaped_of_RefB (by kernel_rfl) (by kernel_rfl)) (by kernel_rfl) (by kernel_rfl) (by kernel_rfl) (door_met os _)) ?_
  intro W base args ds gs before hval0 hW _ hsz0 hL _
  have hval : ∀ (j : Nat) t v, Tryd.f5.params[j]? = some t → args[j]? = some v → Value.okWide Tryd.prog W .any base t v := hval0
  have hW' := hW
  obtain ⟨p, q, hA0, hV, rfl, hfz, hnd⟩ := hW
  have hA : DataW.TrodAll enc Tryd.prog W 0 (fun _ => true) true Tryd.f5.params.toList args.toList ds p := hA0
  have hsz : (DataW.weightsEach Tryd.prog (Tryd.f5.params.toList ++ Rows.treeHashesSpec.plain.varTypes Tryd.prog) (ds ++ gs)).all (· ≤ reachBytes) = true := hsz0
  rw [Tryd.params5] at hA hval hsz
  obtain ⟨v0, vs0, d0, ds0, p0, q0, hargs, rfl, rfl, h0, r0⟩ := trodAll_cons hA
  obtain ⟨rfl, rfl, rfl⟩ := trodAll_nil r0
  obtain rfl : args = #[v0] := by cases args; simp_all
  obtain ⟨rfl, rfl⟩ := trodVars_none hV
  have k0 := h0
  have lt0 : ∀ x ∈ p0, x.block < W.heap.size := by obtain ⟨m, hm⟩ := k0; exact DataW.trod_lt m _ _ _ hm
  obtain ⟨A0, n0, c0, A0', n0', c0', hh0, z0, l0, rr0, kk0, vv0, rfl, b0⟩ := open_node (hval 0 64 v0 rfl rfl) h0 (fun n hn => by
    have := List.all_eq_true.1 hsz n (DataW.weights_mem_each (j := 0) (t := 64) (d := d0) rfl rfl n hn)
    simpa using this)
  obtain ⟨ht0, ht⟩ := of_laid hL
  clear hA0 hval0
  refine (treeHashes_any A0 n0 c0 A0' n0' c0' hh0 z0 l0 rr0 kk0 vv0 W b0 ht ht0 (Sh.tab_lt ht)).mono fun e W' ⟨he, bel⟩ => ?_
  subst he
  exact ⟨_, rfl, _, _, _, [], _, [], hW', trodAll_mk1 (shut_bool Tryd.underlying4 _), (trodAll_cons_mk (Below.trod Sh.laidOut (by kernel_rfl) (of_decide_eq_true (by kernel_rfl)) k0 bel lt0) trodAll_mk0), rfl, bel.frame _, fun h => by cases h⟩

theorem row_holds : Rows.TreeHashesSaid :=
  OpenClaim.holds_of_wide 5 Tryd.f5 rfl rfl rfl rfl rfl rfl rfl ⟨rfl, rfl, rfl, rfl, rfl⟩ rfl rfl rfl rfl rfl (by kernel_rfl) Tryd.func5 (by kernel_rfl)
    (of_decide_eq_true (by kernel_rfl)) (by unfold Func.isWrapper; first | (rw [if_pos (by decide +kernel)]; kernel_rfl) | (rw [if_neg (by decide +kernel)]; exact ⟨rfl, rfl⟩))
    (fun os started H enc _ => lifted os started H enc)
end treeHashes

theorem treeHashes_card_holds : Rows.TreeHashesCardSaid :=
  Claim7.holds_tied_plain_at .later [] [.data, .data] true (true, "90973aca9c776bcba01990988e6f3f2dc66368e23d5a9669c4a46c93a9635c0a") false
    treeHashes.row_holds (fun _ h => by cases h) (by kernel_rfl) (fun _ h => by cases h) treeHashes_row_tie rfl ⟨rfl, rfl⟩ (by kernel_rfl) rfl
    (fun f fn hf hfn => by
      obtain rfl : f = 5 := Option.some.inj ((show Tryd.prog.funcNamed Rows.treeHashesRow.func = some 5 by kernel_rfl).symm.trans hf) |>.symm
      obtain rfl : fn = Tryd.f5 := (Option.some.inj (Tryd.func5.symm.trans hfn)).symm
      refine ⟨by kernel_rfl, fun j t ht => ?_⟩
      rw [Tryd.params5] at ht
      rcases j with _ | j
      · obtain rfl : t = 64 := by simpa using ht.symm
        exact (show Tryd.prog.wantsStandIn 64 = false by kernel_rfl)
      · simp at ht)
    (by kernel_rfl)
#print axioms treeHashes_card_holds
end Go.Proofs.YtceillnmcccckaaDoor
