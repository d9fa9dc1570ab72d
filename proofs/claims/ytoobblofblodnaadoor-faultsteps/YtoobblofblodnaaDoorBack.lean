/-
  slices.Backward over no error, and over one.
-/
import Derived.Test.YtoobblofblodnaaDoorRange
import Derived.Test.YtoobblofblodnaaDoorGate
import Derived.RangeFuncLeaves
import Derived.Shelf.Abstract
import Derived.WalkKit
import Derived.OwnWalkIn
import Derived.TacticsInMore
import Derived.LoopNIn
import Derived.LoopIn
namespace Go.Proofs.YtoobblofblodnaaDoor
open Go.RowKit Go.Shelf
attribute [local go_sem] Oper.semAt_some

set_option maxRecDepth 100000 in
theorem back_nil (B m l Bs : Nat) (v : Value) (O1 : Blocks) (W1 : World) (hs : W1.cell? ⟨Bs, 0, none⟩ = some (.slice none 0 0)) :
    Iter (α := Unit) B m Tryd.prog 46 #[.pointer (some ⟨Bs, 0, none⟩)] (fun _ => #[.int .i64 0, v]) (fun _ => False) (· = []) O1 l W1 := by
  intro J Jx _ _ hO _ hJ
  show CallsIn Fence.wide m Tryd.prog 46 #[.func (.yield l) #[] #[], .pointer (some ⟨Bs, 0, none⟩)] W1 _
  refine callsIn_of_wp Tryd.func46 rfl trivial ?_ rfl
  simp only [Tryd.ntmps46, List.size_toArray, List.length_cons, List.length_nil, Nat.reduceAdd, Nat.reduceSub, Array.replicate_succ, Array.replicate_zero, List.push_toArray, List.append_toArray, List.nil_append, List.cons_append]
  gi_wp2
  refine wpIn_loop_rounds 1 ?_
  rw [roundsIn_succ]
  gi_wp2
  go_end0
  exact ⟨⟨_, rfl⟩, O1, Ext.refl hO, .inl ⟨[], rfl, hJ⟩⟩

set_option maxRecDepth 100000 in
theorem back_one (B m l Bs A : Nat) (v : Value) (O1 : Blocks) (W1 : World) (hs : W1.cell? ⟨Bs, 0, none⟩ = some (.slice (some ⟨A, 0, none⟩) 1 1)) (hv : W1.cell? ⟨A, 0, none⟩ = some v) :
    Iter (α := Unit) B m Tryd.prog 46 #[.pointer (some ⟨Bs, 0, none⟩)] (fun _ => #[.int .i64 0, v]) (· = [()]) (· = [()]) O1 l W1 := by
  intro J Jx hJs hJxs hO hY hJ
  show CallsIn Fence.wide m Tryd.prog 46 #[.func (.yield l) #[] #[], .pointer (some ⟨Bs, 0, none⟩)] W1 _
  obtain ⟨fn, tmps, assign, body, hy, hR⟩ := hY [] () O1 W1 hJ hO rfl
  dsimp only at hy
  refine callsIn_of_wp Tryd.func46 rfl trivial ?_ rfl
  simp only [Tryd.ntmps46, List.size_toArray, List.length_cons, List.length_nil, Nat.reduceAdd, Nat.reduceSub, Array.replicate_succ, Array.replicate_zero, List.push_toArray, List.append_toArray, List.nil_append, List.cons_append]
  gi_wp2
  refine wpIn_loop_rounds 2 ?_
  rw [roundsIn_succ]
  gi_wp2
  refine ⟨fun h => (by simp [Fence.wide] at h), hR.mono ?_⟩
  rintro e W' ⟨O', hE, (⟨rfl, hJ'⟩ | ⟨rfl, hJ'⟩)⟩
  · gi_wp2
    rw [roundsIn_succ]
    gi_wp2
    go_end0
    exact ⟨⟨_, rfl⟩, O', hE, .inl ⟨[()], rfl, hJ'⟩⟩
  · gi_wp2
    refine bodyPost_ret (results_none rfl _ _ _) rfl ?_
    exact ⟨⟨_, rfl⟩, O', hE, .inr ⟨[()], rfl, hJ'⟩⟩
end Go.Proofs.YtoobblofblodnaaDoor
