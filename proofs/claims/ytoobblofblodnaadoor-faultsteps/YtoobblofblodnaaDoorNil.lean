/-
  layers(nil): nothing.
-/
import Derived.Test.YtoobblofblodnaaDoorLayers
namespace Go.Proofs.YtoobblofblodnaaDoor
open Go.RowKit Go.Shelf
attribute [local go_sem] Oper.semAt_some

set_option maxRecDepth 100000 in
set_option maxHeartbeats 4000000 in
theorem layers_iter_nil (B m l Be : Nat) (O1 : Blocks) (W1 : World) (hB : B ≤ W1.heap.size) (hBe : W1.cell? ⟨Be, 0, none⟩ = some .nilIface) :
    Iter B m Tryd.prog 36 #[.pointer (some ⟨Be, 0, none⟩)] (fun x : Err => #[x.val]) (fun _ => False) (· = []) O1 l W1 := by
  intro J Jx hJs _ hO _ hJ
  show CallsIn Fence.wide m Tryd.prog 36 #[.func (.yield l) #[] #[], .pointer (some ⟨Be, 0, none⟩)] W1 _
  have hBl : Be < W1.heap.size := lt_of_cell hBe
  refine callsIn_of_wp_marks Tryd.func36 rfl trivial ?_ rfl
  simp only [Tryd.ntmps36, List.size_toArray, List.length_cons, List.length_nil, Nat.reduceAdd, Nat.reduceSub, Array.replicate_succ, Array.replicate_zero, List.push_toArray, List.append_toArray, List.nil_append, List.cons_append]
  gi_wp2_with (fail)
  refine ⟨trivial, fun h => (by simp [Fence.wide] at h), (callsW (newGate_any W1)).mono ?_⟩
  rintro ev Wg ⟨rfl, rfl⟩
  have hs2 : ((W1.alloc (.map #[] 0)).alloc (.cells #[.map (some W1.heap.size)] 110)).heap.size = W1.heap.size + 1 + 1 := by simp
  have hs3 : (((W1.alloc (.map #[] 0)).alloc (.cells #[.map (some W1.heap.size)] 110)).alloc (.cells #[.int .i64 0] 3)).heap.size = W1.heap.size + 1 + 1 + 1 := by simp
  have hBg : (((W1.alloc (.map #[] 0)).alloc (.cells #[.map (some W1.heap.size)] 110)).alloc (.cells #[.int .i64 0] 3)).cell? ⟨Be, 0, none⟩ = some .nilIface :=
    (cOld (by rw [hs2]; omega)).trans ((cOld (by simp; omega)).trans ((cOld hBl).trans hBe))
  have k3 : Kept noBlock W1 (((W1.alloc (.map #[] 0)).alloc (.cells #[.map (some W1.heap.size)] 110)).alloc (.cells #[.int .i64 0] 3)) := (((Kept.refl _ W1).alloc _).alloc _).alloc _
  generalize ((W1.alloc (.map #[] 0)).alloc (.cells #[.map (some W1.heap.size)] 110)).alloc (.cells #[.int .i64 0] 3) = Wg at hBg k3 hs3 ⊢
  clear hs2
  have hs3' : W1.heap.size ≤ Wg.heap.size := by omega
  clear hs3
  have cA : ((Wg.alloc (.cells #[.nilIface] 27)).alloc (.cells #[.slice (some ⟨Wg.heap.size, 0, none⟩) 1 1] 84)).cell? ⟨Wg.heap.size, 0, none⟩ = some .nilIface := (cOld (by simp)).trans (by rw [cNew rfl]; rfl)
  have cL : ((Wg.alloc (.cells #[.nilIface] 27)).alloc (.cells #[.slice (some ⟨Wg.heap.size, 0, none⟩) 1 1] 84)).cell? ⟨Wg.heap.size + 1, 0, none⟩ = some (.slice (some ⟨Wg.heap.size, 0, none⟩) 1 1) := by rw [cNew (by simp)]; rfl
  have fL : ((Wg.alloc (.cells #[.nilIface] 27)).alloc (.cells #[.slice (some ⟨Wg.heap.size, 0, none⟩) 1 1] 84)).frozen? ⟨Wg.heap.size + 1, 0, none⟩ = false := by rw [fNew (by simp)]
  gi_wp2_with (fail)
  have k4 : Kept noBlock W1 ((Wg.alloc (.cells #[.nilIface] 27)).alloc (.cells #[.slice (some ⟨Wg.heap.size, 0, none⟩) 1 1] 84)) := (k3.alloc _).alloc _
  generalize (Wg.alloc (.cells #[.nilIface] 27)).alloc (.cells #[.slice (some ⟨Wg.heap.size, 0, none⟩) 1 1] 84) = Wh at cA cL fL k4 ⊢
  refine wpIn_loop_rounds 2 ?_
  rw [roundsIn_succ]
  gi_wp2_with (fail)
  refine ⟨trivial, fun h => (by simp [Fence.wide] at h), (callsW (gate_nil _ _ _)).mono ?_⟩
  rintro ev Wk ⟨rfl, rfl⟩
  have cE : (Wh.setCell ⟨Wg.heap.size + 1, 0, none⟩ (.slice (some ⟨Wg.heap.size, 0, none⟩) 0 1)).cell? ⟨Wg.heap.size + 1, 0, none⟩ = some (.slice (some ⟨Wg.heap.size, 0, none⟩) 0 1) := cSet cL
  have k6 : Kept noBlock W1 (Wh.setCell ⟨Wg.heap.size + 1, 0, none⟩ (.slice (some ⟨Wg.heap.size, 0, none⟩) 0 1)) := k4.setCell (p := ⟨Wg.heap.size + 1, 0, none⟩) (fun h => by have h' : Wg.heap.size + 1 < W1.heap.size := h; omega) _
  generalize Wh.setCell ⟨Wg.heap.size + 1, 0, none⟩ (.slice (some ⟨Wg.heap.size, 0, none⟩) 0 1) = Wn at cE k6 ⊢
  gi_wp2_with (fail)
  rw [roundsIn_succ]
  gi_wp2_with (fail)
  have key : ∀ tmps : Array Value, LeavesInM Fence.wide m Tryd.prog Tryd.f36 tmps (fun e_1 W' => (∃ v, e_1 = .returned v) ∧ ∃ O', Ext O1 O' W1 W' ∧ ((∃ xs, xs = [] ∧ J xs O' W') ∨ (∃ pre : List Err, False ∧ Jx pre O' W'))) [] .returning Wn :=
    fun _ => ⟨_, results_none rfl _ _ _, ⟨_, rfl⟩, O1, ⟨k6.mono (fun _ _ h => h.elim), fun k hk => ⟨.inl hk, by have := hO k hk; have := k6.size; omega⟩⟩, .inl ⟨[], rfl, hJs _ _ _ _ hJ k6.size (fun k hk => k6.block k (by rcases hk with h | h; exact hO k h; omega) (fun h => h))⟩⟩
  exact key _
end Go.Proofs.YtoobblofblodnaaDoor
