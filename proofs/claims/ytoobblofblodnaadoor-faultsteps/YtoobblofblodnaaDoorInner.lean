/-
  inner(e): what e wraps.
-/
import Derived.Test.YtoobblofblodnaaDoorFacts
import Derived.Test.YtoobblofblodnaaDoorCalm
import Derived.Test.YtoobblofblodnaaDoorErr
import Derived.Shelf.Abstract
namespace Go.Proofs.YtoobblofblodnaaDoor
open Go.RowKit Go.Extern.Stop Go.Stop Go.Extern Go.Shelf

theorem methodUnwrap40 (v : Value) (w : World) : (Go.method 260 40 v "Unwrap").run Tryd.prog w = .ok (79, v) w := by kernel_rfl
theorem methodUnwrap43 (v : Value) (w : World) : (Go.method 260 43 v "Unwrap").run Tryd.prog w = .ok (81, v) w := by kernel_rfl

theorem inner1_step (b Be Bf : Nat) (T : TypeId) (y old : Value) (w : World) (hb : w.cell? ⟨b, 2, none⟩ = some (.iface T y)) (he : w.cell? ⟨Be, 0, none⟩ = some (.iface 40 (.pointer (some ⟨b, 0, none⟩))))
    (hf : w.cell? ⟨Bf, 0, none⟩ = some old) (hz : w.frozen? ⟨Bf, 0, none⟩ = false) :
    Calls Tryd.prog 47 #[.pointer (some ⟨Be, 0, none⟩), .pointer (some ⟨Bf, 0, none⟩)] w fun e w' => e = .returned (.bool true) ∧ w' = (w.setCell ⟨Bf, 0, none⟩ (.slice (some ⟨w.heap.size, 0, none⟩) 1 1)).alloc (.cells #[.iface T y] 27) := by
  have q := tA40_89
  have m := methodUnwrap40
  have hfl : Bf < w.heap.size := lt_of_cell hf
  have hf1 : (w.alloc (.cells #[.iface T y] 27)).cell? ⟨Bf, 0, none⟩ = some old := (World.cell?_alloc_lt _ _ ⟨Bf, 0, none⟩ hfl).trans hf
  have hz1 : (w.alloc (.cells #[.iface T y] 27)).frozen? ⟨Bf, 0, none⟩ = false := (World.frozen?_alloc_old _ _ ⟨Bf, 0, none⟩ (Nat.ne_of_lt hfl)).trans hz
  go_enter Tryd.func47, Tryd.ntmps47
  go_wp2_with (go_at_call 79; refine (stepUnwrap b (.iface T y) _ hb).mono ?_; rintro e w' ⟨rfl, rfl⟩)
  go_ret
  exact ⟨rfl, rfl⟩

theorem inner1_other (Be Bf : Nat) (T : TypeId) (y old : Value) (w : World) (he : w.cell? ⟨Be, 0, none⟩ = some (.iface 43 (.agg #[.iface T y])))
    (hf : w.cell? ⟨Bf, 0, none⟩ = some old) (hz : w.frozen? ⟨Bf, 0, none⟩ = false) :
    Calls Tryd.prog 47 #[.pointer (some ⟨Be, 0, none⟩), .pointer (some ⟨Bf, 0, none⟩)] w fun e w' => e = .returned (.bool true) ∧ w' = ((w.setCell ⟨Bf, 0, none⟩ (.slice (some ⟨w.heap.size + 1, 0, none⟩) 1 1)).alloc (.cells #[.iface T y] 43)).alloc (.cells #[.iface T y] 27) := by
  have q := tA43_89
  have m := methodUnwrap43
  have hfl : Bf < w.heap.size := lt_of_cell hf
  have hf1 : ((w.alloc (.cells #[.iface T y] 43)).alloc (.cells #[.iface T y] 27)).cell? ⟨Bf, 0, none⟩ = some old := (World.cell?_alloc_lt _ _ ⟨Bf, 0, none⟩ (by simp; omega)).trans ((World.cell?_alloc_lt _ _ ⟨Bf, 0, none⟩ hfl).trans hf)
  have hz1 : ((w.alloc (.cells #[.iface T y] 43)).alloc (.cells #[.iface T y] 27)).frozen? ⟨Bf, 0, none⟩ = false := (World.frozen?_alloc_old _ _ ⟨Bf, 0, none⟩ (by simp; omega)).trans ((World.frozen?_alloc_old _ _ ⟨Bf, 0, none⟩ (Nat.ne_of_lt hfl)).trans hz)
  go_enter Tryd.func47, Tryd.ntmps47
  go_wp2_with (go_at_call 81; refine (otherUnwrap (.iface T y) _).mono ?_; rintro e w' ⟨rfl, rfl⟩)
  go_ret
  exact ⟨rfl, rfl⟩

theorem inner1_leaf24 (Be Bf : Nat) (x : Value) (w : World) (he : w.cell? ⟨Be, 0, none⟩ = some (.iface 24 x)) :
    Calls Tryd.prog 47 #[.pointer (some ⟨Be, 0, none⟩), .pointer (some ⟨Bf, 0, none⟩)] w fun e w' => e = .returned (.bool true) ∧ w = w' := by
  have q := tA24_89
  have q2 := tA24_91
  go_enter Tryd.func47, Tryd.ntmps47
  go_wp2
  go_ret
  exact ⟨rfl, rfl⟩

theorem inner1_leaf94 (Be Bf : Nat) (x : Value) (w : World) (he : w.cell? ⟨Be, 0, none⟩ = some (.iface 94 x)) :
    Calls Tryd.prog 47 #[.pointer (some ⟨Be, 0, none⟩), .pointer (some ⟨Bf, 0, none⟩)] w fun e w' => e = .returned (.bool true) ∧ w = w' := by
  have q := tA94_89
  have q2 := tA94_91
  go_enter Tryd.func47, Tryd.ntmps47
  go_wp2
  go_ret
  exact ⟨rfl, rfl⟩

theorem enters47 (args : Array Value) (w : World) : (callFunc 47 args).run Tryd.prog w = .ok (.enter 47 args) w := enters_of Tryd.func47 (by kernel_rfl) rfl args w

/-- What inner answers of an error that wraps x. -/
def Gives (w : World) (x : Value) (e : Ending) (w' : World) : Prop := ∃ A, e = .returned (.slice (some ⟨A, 0, none⟩) 1 1) ∧ w.heap.size ≤ A ∧ A < w'.heap.size ∧ w'.cell? ⟨A, 0, none⟩ = some x ∧ Below w.heap.size w w'

/-- The world in which inner's closure is called. -/
def inW (v : Value) (w : World) : World := ((w.alloc (.cells #[v] 27)).alloc (.cells #[.slice none 0 0] 84)).alloc (.cells #[.bool false] 4)
theorem inW_below (v : Value) (w : World) : Below w.heap.size w (inW v w) :=
  (((Below.refl _ w).alloc (Nat.le_refl _) _).alloc (by simp) _).alloc (by simp; omega) _
theorem inW_size (v : Value) (w : World) : (inW v w).heap.size = w.heap.size + 1 + 1 + 1 := by simp [inW]

theorem inner_of (T0 : TypeId) (x0 r : Value) (w : World) (Q : World → Prop)
    (h : Calls Tryd.prog 47 #[.pointer (some ⟨w.heap.size, 0, none⟩), .pointer (some ⟨w.heap.size + 1, 0, none⟩)] (inW (.iface T0 x0) w)
      fun e w' => e = .returned (.bool true) ∧ w'.cell? ⟨w.heap.size + 1, 0, none⟩ = some r ∧ (w'.cell? ⟨w.heap.size + 1 + 1, 0, none⟩ = some (.bool false) ∧ w'.frozen? ⟨w.heap.size + 1 + 1, 0, none⟩ = false) ∧ Below w.heap.size w w' ∧ Q w') :
    Calls Tryd.prog 39 #[.iface T0 x0] w fun e w' => e = .returned r ∧ ∃ w2, w' = w2.setCell ⟨w.heap.size + 1 + 1, 0, none⟩ (.bool true) ∧ Q w2 ∧ Below w.heap.size w w' := by
  have hmf : ∀ (fn : Fn) (first cap : Array Value) (w : World), (Instr.makeFunc fn first cap).run Tryd.prog w = .ok (.func fn first cap) w := fun _ _ _ _ => rfl
  have h2 := calm_any 47 #[.pointer (some ⟨w.heap.size, 0, none⟩), .pointer (some ⟨w.heap.size + 1, 0, none⟩)] ((w.alloc (.cells #[.iface T0 x0] 27)).alloc (.cells #[.slice none 0 0] 84))
    (fun b w' => b = true ∧ w'.cell? ⟨w.heap.size + 1, 0, none⟩ = some r ∧ Below w.heap.size w w' ∧ Q w') enters47
    (h.mono (by rintro e w' ⟨rfl, h1, h2, h3, h4⟩; exact ⟨true, rfl, by simpa using h2, rfl, h1, h3, h4⟩))
  clear h
  go_enter Tryd.func39, Tryd.ntmps39
  go_wp2_with (fail)
  refine h2.mono ?_
  rintro e w' ⟨b, w2, rfl, ⟨rfl, hr, hb, hq⟩, rfl⟩
  have hr' : (w2.setCell ⟨w.heap.size + 1 + 1, 0, none⟩ (.bool true)).cell? ⟨w.heap.size + 1, 0, none⟩ = some r := (World.cell?_setCell_other _ _ _ _ (by simp)).trans hr
  have HB := hb.setCell (p := ⟨w.heap.size + 1 + 1, 0, none⟩) (by simp; omega) (.bool true)
  simp only [World.size_alloc]
  go_wp2
  go_ret
  exact ⟨rfl, w2, rfl, hq, HB⟩
theorem inW_0 (v : Value) (w : World) : (inW v w).cell? ⟨w.heap.size, 0, none⟩ = some v := by
  unfold inW
  rw [World.cell?_alloc_lt _ _ ⟨w.heap.size, 0, none⟩ (by simp; omega), World.cell?_alloc_lt _ _ ⟨w.heap.size, 0, none⟩ (by simp)]; simp
theorem inW_1 (v : Value) (w : World) : (inW v w).cell? ⟨w.heap.size + 1, 0, none⟩ = some (.slice none 0 0) ∧ (inW v w).frozen? ⟨w.heap.size + 1, 0, none⟩ = false := by
  unfold inW
  rw [World.cell?_alloc_lt _ _ ⟨w.heap.size + 1, 0, none⟩ (by simp), World.frozen?_alloc_old _ _ ⟨w.heap.size + 1, 0, none⟩ (by simp)]; simp
theorem inW_2 (v : Value) (w : World) : (inW v w).cell? ⟨w.heap.size + 1 + 1, 0, none⟩ = some (.bool false) ∧ (inW v w).frozen? ⟨w.heap.size + 1 + 1, 0, none⟩ = false := by
  unfold inW
  rw [cNew (by simp), fNew (by simp)]
  exact ⟨rfl, rfl⟩

theorem inner_step (b : Nat) (T : TypeId) (y : Value) (w : World) (hb : w.cell? ⟨b, 2, none⟩ = some (.iface T y)) :
    Calls Tryd.prog 39 #[.iface 40 (.pointer (some ⟨b, 0, none⟩))] w (Gives w (.iface T y)) := by
  have hI := inner_of 40 (.pointer (some ⟨b, 0, none⟩)) (.slice (some ⟨(inW (.iface 40 (.pointer (some ⟨b, 0, none⟩))) w).heap.size, 0, none⟩) 1 1) w (fun w2 => (inW (.iface 40 (.pointer (some ⟨b, 0, none⟩))) w).heap.size < w2.heap.size ∧ w2.cell? ⟨(inW (.iface 40 (.pointer (some ⟨b, 0, none⟩))) w).heap.size, 0, none⟩ = some (.iface T y))
  have hs := inW_size (.iface 40 (.pointer (some ⟨b, 0, none⟩))) w
  have hB := inW_below (.iface 40 (.pointer (some ⟨b, 0, none⟩))) w
  have h0 := inW_0 (.iface 40 (.pointer (some ⟨b, 0, none⟩))) w
  have h1 := inW_1 (.iface 40 (.pointer (some ⟨b, 0, none⟩))) w
  have h2 := inW_2 (.iface 40 (.pointer (some ⟨b, 0, none⟩))) w
  have hbl : b < w.heap.size := lt_of_cell hb
  generalize inW (.iface 40 (.pointer (some ⟨b, 0, none⟩))) w = W at *
  refine (hI ((inner1_step b w.heap.size (w.heap.size + 1) T y (.slice none 0 0) W ((hB.cell (p := ⟨b, 2, none⟩) hbl).trans hb) h0 h1.1 h1.2).mono ?_)).mono ?_
  · rintro e w' ⟨rfl, rfl⟩
    have hz : (W.setCell ⟨w.heap.size + 1, 0, none⟩ (.slice (some ⟨W.heap.size, 0, none⟩) 1 1)).heap.size = W.heap.size := by simp
    refine ⟨rfl, ?_, ⟨?_, ?_⟩, ?_, by simp, ?_⟩
    · rw [cOld (by omega)]; exact cSet h1.1
    · rw [cOld (by omega), cFar (by simp)]; exact h2.1
    · rw [fOld (by omega), fSet]; exact h2.2
    · exact (hB.setCell (p := ⟨w.heap.size + 1, 0, none⟩) (by simp) _).alloc (by omega) _
    · rw [cNew (by omega)]; rfl
  · rintro e w' ⟨rfl, w2, rfl, ⟨hl, hc⟩, hb'⟩
    exact ⟨W.heap.size, rfl, by omega, by simpa using hl, (cFar (by simp; omega)).trans hc, hb'⟩

theorem inner_other (T : TypeId) (y : Value) (w : World) :
    Calls Tryd.prog 39 #[.iface 43 (.agg #[.iface T y])] w (Gives w (.iface T y)) := by
  have hI := inner_of 43 (.agg #[.iface T y]) (.slice (some ⟨(inW (.iface 43 (.agg #[.iface T y])) w).heap.size + 1, 0, none⟩) 1 1) w (fun w2 => (inW (.iface 43 (.agg #[.iface T y])) w).heap.size + 1 < w2.heap.size ∧ w2.cell? ⟨(inW (.iface 43 (.agg #[.iface T y])) w).heap.size + 1, 0, none⟩ = some (.iface T y))
  have hs := inW_size (.iface 43 (.agg #[.iface T y])) w
  have hB := inW_below (.iface 43 (.agg #[.iface T y])) w
  have h0 := inW_0 (.iface 43 (.agg #[.iface T y])) w
  have h1 := inW_1 (.iface 43 (.agg #[.iface T y])) w
  have h2 := inW_2 (.iface 43 (.agg #[.iface T y])) w
  generalize inW (.iface 43 (.agg #[.iface T y])) w = W at *
  refine (hI ((inner1_other w.heap.size (w.heap.size + 1) T y (.slice none 0 0) W h0 h1.1 h1.2).mono ?_)).mono ?_
  · rintro e w' ⟨rfl, rfl⟩
    have hz : (W.setCell ⟨w.heap.size + 1, 0, none⟩ (.slice (some ⟨W.heap.size + 1, 0, none⟩) 1 1)).heap.size = W.heap.size := by simp
    have hz2 : ((W.setCell ⟨w.heap.size + 1, 0, none⟩ (.slice (some ⟨W.heap.size + 1, 0, none⟩) 1 1)).alloc (.cells #[.iface T y] 43)).heap.size = W.heap.size + 1 := by simp
    refine ⟨rfl, ?_, ⟨?_, ?_⟩, ?_, by simp, ?_⟩
    · rw [cOld (by omega), cOld (by omega)]; exact cSet h1.1
    · rw [cOld (by omega), cOld (by omega), cFar (by simp)]; exact h2.1
    · rw [fOld (by omega), fOld (by omega), fSet]; exact h2.2
    · exact ((hB.setCell (p := ⟨w.heap.size + 1, 0, none⟩) (by simp) _).alloc (by omega) _).alloc (by omega) _
    · rw [cNew (by omega)]; rfl
  · rintro e w' ⟨rfl, w2, rfl, ⟨hl, hc⟩, hb'⟩
    exact ⟨W.heap.size + 1, rfl, by omega, by simpa using hl, (cFar (by simp; omega)).trans hc, hb'⟩

theorem inner_24 (x : Value) (w : World) : Calls Tryd.prog 39 #[.iface 24 x] w fun e w' => e = .returned (.slice none 0 0) ∧ Below w.heap.size w w' := by
  refine (inner_of 24 x (.slice none 0 0) w (fun _ => True) ((inner1_leaf24 w.heap.size (w.heap.size + 1) x _ (inW_0 _ w)).mono ?_)).mono ?_
  · rintro e w' ⟨rfl, rfl⟩
    exact ⟨rfl, (inW_1 _ w).1, inW_2 _ w, inW_below _ w, trivial⟩
  · rintro e w' ⟨rfl, w2, rfl, _, hb'⟩
    exact ⟨rfl, hb'⟩

theorem inner_94 (x : Value) (w : World) : Calls Tryd.prog 39 #[.iface 94 x] w fun e w' => e = .returned (.slice none 0 0) ∧ Below w.heap.size w w' := by
  refine (inner_of 94 x (.slice none 0 0) w (fun _ => True) ((inner1_leaf94 w.heap.size (w.heap.size + 1) x _ (inW_0 _ w)).mono ?_)).mono ?_
  · rintro e w' ⟨rfl, rfl⟩
    exact ⟨rfl, (inW_1 _ w).1, inW_2 _ w, inW_below _ w, trivial⟩
  · rintro e w' ⟨rfl, w2, rfl, _, hb'⟩
    exact ⟨rfl, hb'⟩
end Go.Proofs.YtoobblofblodnaaDoor
