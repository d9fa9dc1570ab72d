/-
  Bases of nodes in memory; what New returns, and the calls on a nil one: no condition. They only make memory of their own.
-/
import Derived.Test.YtolkpjbbfopmnaaDoorMapS
import Derived.Test.YtolkpjbbfopmnaaDoorTlNdBack
import Derived.Test.YtolkpjbbfopmnaaDoorFindA
import Derived.Laws.Tables
import Derived.Shelf.Abstract
namespace Go.Proofs.YtolkpjbbfopmnaaDoor
open Go.RowKit Go.Shelf
open Tr

/-- Block pb is a base: its map is block M, with these pairs. -/
def BAt (w : World) (pb M : Nat) (ms : List (List UInt8 × Value)) : Prop := Whole w pb 96 #[.map (some M)] ∧ MAt w M ms ∧ pb ≠ M
theorem MAt.block {w w' : World} {M : Nat} {ms : List (List UInt8 × Value)} (h : MAt w M ms) (hk : w'.heap[M]? = w.heap[M]?) : MAt w' M ms := by
  obtain ⟨es, c, h1, h2⟩ := h
  exact ⟨es, c, hk.trans h1, h2⟩
theorem MAt.lt {w : World} {M : Nat} {ms : List (List UInt8 × Value)} (h : MAt w M ms) : M < w.heap.size := by
  obtain ⟨es, c, h1, _⟩ := h
  exact (Array.getElem?_eq_some_iff.1 h1).1
theorem BAt.below {w w' : World} {pb M : Nat} {ms : List (List UInt8 × Value)} (h : BAt w pb M ms) (hb : Below w.heap.size w w') : BAt w' pb M ms :=
  ⟨h.1.below hb h.1.lt, h.2.1.block (hb.block M h.2.1.lt), h.2.2⟩
theorem built_base (M : Nat) (w : World) : (Instr.build 96 #[(0, .map (some M))]).run Tryd.prog w = .ok (.agg #[.map (some M)]) w := run_build w 96 #[(0, .map (some M))] #[.map (some M)] (by kernel_rfl)
theorem mat_made (w : World) : MAt (w.alloc (.map #[] 0)) w.heap.size [] := ⟨#[], 0, heap_alloc_last w _, rfl, rfl, fun p hp => by simp at hp⟩

set_option maxRecDepth 100000 in
theorem base_new (w : World) : Calls Tryd.prog 19 #[] w fun e w' => ∃ pb M, e = .returned (ptr (some pb)) ∧ BAt w' pb M [] ∧ w.heap.size ≤ pb ∧ w.heap.size ≤ M ∧ Below w.heap.size w w' := by
  have hmm := @run_makeMap Tryd.prog
  have hbb := built_base
  go_enter Tryd.func19, Tryd.ntmps19
  go_wp2
  go_ret
  have hm := mat_made w
  have hb : Below w.heap.size w ((w.alloc (.map #[] 0)).alloc (.cells #[.map (some w.heap.size)] 96)) := ((Below.refl _ _).alloc (Nat.le_refl _) _).alloc (by simp) _
  have hw := Whole.made (w.alloc (.map #[] 0)) 96 #[.map (some w.heap.size)]
  rw [size_alloc] at hw
  refine ⟨w.heap.size + 1, w.heap.size, rfl, ⟨hw, hm.block ?_, by omega⟩, by omega, Nat.le_refl _, hb⟩
  exact Below.heap_alloc (w.alloc (.map #[] 0)) _ w.heap.size (by simp)

set_option maxRecDepth 100000 in
theorem save_nil (b : Option Nat) (p : Option Nat) (h : b = none ∨ p = none) (w : World) : Calls Tryd.prog 16 #[ptr b, ptr p] w fun e w' => e = .returned (.tuple #[.agg (zb 32), .int .i64 1]) ∧ Below w.heap.size w w' := by
  have hz49 := zero49
  have hb : Below w.heap.size w (w.alloc (.cells (zb 32) 29)) := (Below.refl _ _).alloc (Nat.le_refl _) _
  have hw := Whole.made w 29 (zb 32)
  have hw2 := hw.setAll (vs := zb 32) rfl
  have hb2 := below_setCells w w.heap.size (zb 32).toList 0 hb (Nat.le_refl _)
  have HF := Lib.hid (And.intro hw2 hb2)
  have HT := Lib.hid hw.there_
  clear hb hw hw2 hb2
  have key : ∀ (x y : Value), ((x = .pointer none) ∨ (∃ g, x = .pointer (some ⟨g, 0, none⟩)) ∧ y = .pointer none) → Calls Tryd.prog 16 #[x, y] w fun e w' => e = .returned (.tuple #[.agg (zb 32), .int .i64 1]) ∧ Below w.heap.size w w' := by
    rintro x y (rfl | ⟨⟨g, rfl⟩, rfl⟩)
    all_goals
      go_enter Tryd.func16, Tryd.ntmps16
      go_upto_region 2 with (fail)
      generalize w.alloc (.cells (zb 32) 29) = w1 at *
      refine wp_region_lit ?_
      iterate 3 go_step
      refine wpList_store_mid rfl 29 (.tmp 4) (.tmp 13) rfl w.heap.size 0 (zb 32) rfl rfl HT.out (by rw [zb_size]; exact info49) (Sh.bcells_one z32) ?_
      generalize w1.setCells w.heap.size 0 (zb 32).toList = w5 at *
      go_wp2_with fail
      refine bodyPost_ret (results_cell2 Tryd.results16 _ _ _ ⟨w.heap.size, 0, none⟩ _ rfl (load_whole HF.out.1 29 _ Tryd.underlying29 rfl (by rw [zb_size]; exact info49))) rfl ?_
      exact ⟨rfl, HF.out.2⟩
  cases b with
  | none => exact key _ _ (Or.inl rfl)
  | some g =>
    have hp : p = none := by rcases h with h | h; · cases h
                             · exact h
    subst hp
    exact key _ _ (Or.inr ⟨⟨g, rfl⟩, rfl⟩)
theorem get_nil (h : List UInt8) (w : World) : Calls Tryd.prog 18 #[.pointer none, .agg (Sh.bcells h)] w fun e w' => e = .returned (.tuple #[.slice none 0 0, .bool false]) ∧ Below w.heap.size w w' := by
  have hb : Below w.heap.size w (w.alloc (.cells (Sh.bcells h) 29)) := (Below.refl _ _).alloc (Nat.le_refl _) _
  have HB := Lib.hid hb
  clear hb
  go_enter Tryd.func18, Tryd.ntmps18
  go_wp2_with fail
  go_ret2
  exact ⟨rfl, HB.out⟩
theorem len_nil (w : World) : Calls Tryd.prog 21 #[.pointer none] w fun e w' => e = .returned (.int .i64 0) ∧ w = w' := by
  go_enter Tryd.func21, Tryd.ntmps21
  go_wp2_with fail
  go_ret
  exact ⟨rfl, rfl⟩
theorem keep_nil (A : Option Addr) (n c : Nat) (w : World) : Calls Tryd.prog 22 #[.pointer none, .slice A n c] w fun e w' => e = .returned (.int .i64 0) ∧ w = w' := by
  go_enter Tryd.func22, Tryd.ntmps22
  go_wp2_with fail
  go_ret
  exact ⟨rfl, rfl⟩
end Go.Proofs.YtolkpjbbfopmnaaDoor
