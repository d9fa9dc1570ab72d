/-
  calm(ask): what ask answers, where it does not panic.
-/
import Derived.Test.YtoobblofblodnaaDoorBase
import Derived.Test.YtoobblofblodnaaDoorKept
import Derived.Defers
import Derived.Recover
namespace Go.Proofs.YtoobblofblodnaaDoor
open Go.RowKit Go.Extern.Stop Go.Stop Go.Extern

theorem catch_idle (p : Addr) (w : World) :
    CallsD Tryd.prog 40 #[.pointer (some p)] .returning w fun e u' w' => e = .returned (.tuple #[]) ∧ u' = .returning ∧ w' = w := by
  have hq : ∀ w : World, (binOp .neq 20 .nilIface .nilIface).run Tryd.prog w = .ok (.bool false) w := fun w => by kernel_rfl
  refine callsD_of_wpS Tryd.func40 rfl fun c₀ cs hu => ?_
  apply wpS_seq
  apply wpS_region
  simp [wpOpsS, go_sem, recoverD, hu, Tryd.ntmps40, Exit.thenS, hq]
  refine wpS_cond (t := false) (by simp [Act.eval, Array.replicate]) ?_
  simp only [Bool.false_eq_true, if_false]
  refine wpS_of_wp (wp_skip ?_)
  cases c₀
  simp_all [bodyPostS, results, Tryd.results40]

theorem calm_any (f : Nat) (caps : Array Value) (w : World) (R : Bool → World → Prop) (ent : ∀ args w, (callFunc f args).run Tryd.prog w = .ok (.enter f args) w)
    (h : Calls Tryd.prog f caps (w.alloc (.cells #[.bool false] 4)) fun e w' => ∃ b, e = .returned (.bool b) ∧ (w'.cell? ⟨w.heap.size, 0, none⟩ = some (.bool false) ∧ w'.frozen? ⟨w.heap.size, 0, none⟩ = false) ∧ R b w') :
    Calls Tryd.prog 21 #[.func (.func f) #[] caps] w fun e w' => ∃ b w2, e = .returned (.bool b) ∧ R b w2 ∧ w' = w2.setCell ⟨w.heap.size, 0, none⟩ (.bool b) := by
  have hmf : ∀ (fn : Fn) (first cap : Array Value) (w : World), (Instr.makeFunc fn first cap).run Tryd.prog w = .ok (.func fn first cap) w := fun _ _ _ _ => rfl
  go_enter_defers Tryd.func21, Tryd.ntmps21
  go_wp2_with (fail)
  refine h.mono ?_
  rintro e w' ⟨b, rfl, ⟨hc, hf⟩, hR⟩
  go_wp2
  refine leaves_cons (f := 40) (args := #[.pointer (some ⟨w.heap.size, 0, none⟩)]) (by simp) (by simp [go_sem]) ?_
  refine (catch_idle ⟨w.heap.size, 0, none⟩ _).mono ?_
  rintro e u' w'' ⟨rfl, rfl, rfl⟩
  have hs := World.cell?_setCell_same' w' ⟨w.heap.size, 0, none⟩ (.bool b) (by rw [hc]; rfl)
  simp [Leaves, settle, results, Tryd.results21, go_sem, hs]
  cases b
  · exact Or.inl ⟨rfl, w', hR, rfl⟩
  · exact Or.inr ⟨rfl, w', hR, rfl⟩
end Go.Proofs.YtoobblofblodnaaDoor
