/-
  Awake, and the errors that the laws make.
-/
import Derived.Test.YtoobblofblodnaaDoorCode
import Derived.Test.YtoobblofblodnaaDoorWhere
namespace Go.Proofs.YtoobblofblodnaaDoor
open Go.RowKit Go.Shelf

theorem Laid.below {w w' : World} (h : Laid w) (hb : Below w.heap.size w w') : Laid w' := (hb.cell (p := ⟨0, 0, none⟩) (lt_of_cell h)).trans h

theorem step_in {w : World} {s : ByteArray} {n : Int} {e : Err} (he : e.In w) : (Err.step w.heap.size s n e).In (w.alloc (.cells #[.string s, .int .i64 n, e.val] 46)) :=
  ⟨World.alloc_heap_new w _, he.top_le, he.below ((Below.refl w.heap.size w).alloc (Nat.le_refl _) _) he.top_le⟩

theorem row_cells {w : World} {b n : Nat} {e : TypeId} {v : Value} {xs : List Value} (h : w.ownsRow b e 1 v n xs) (hn : 0 < n) :
    ∃ g cap, v = .slice (some ⟨g, 0, none⟩) n cap ∧ g < w.heap.size ∧ n ≤ cap ∧ ∀ (j : Nat) u, xs[j]? = some u → w.cell? ⟨g, j, none⟩ = some u := by
  obtain ⟨A, cap, rfl, h1, _, h | ⟨g, rfl, h2, h3⟩⟩ := slice_of_row h
  · omega
  · exact ⟨g, cap, rfl, h2, h1, h3⟩

set_option maxRecDepth 100000 in
set_option maxHeartbeats 1000000 in
theorem awake_any (w : World) (hg : Laid w) : Calls Tryd.prog 9 #[] w fun e w' => e = .returned (.bool true) ∧ Below w.heap.size w w' := by
  have i1 : (Err.step w.heap.size ⟨#[98]⟩ 2 (.num 40)).In (w.alloc (.cells #[.string ⟨#[98]⟩, .int .i64 2, .iface 24 (.int .i64 40)] 46)) := step_in (e := .num 40) trivial
  have hs1 : (w.alloc (.cells #[.string ⟨#[98]⟩, .int .i64 2, .iface 24 (.int .i64 40)] 46)).heap.size = w.heap.size + 1 := by simp
  have i2 : (Err.step (w.heap.size + 1) ⟨#[97]⟩ 1 (.step w.heap.size ⟨#[98]⟩ 2 (.num 40))).In ((w.alloc (.cells #[.string ⟨#[98]⟩, .int .i64 2, .iface 24 (.int .i64 40)] 46)).alloc (.cells #[.string ⟨#[97]⟩, .int .i64 1, .iface 40 (.pointer (some ⟨w.heap.size, 0, none⟩))] 46)) := by
    have := step_in (s := ⟨#[97]⟩) (n := 1) i1
    rw [hs1] at this
    exact this
  have hb2 : Below w.heap.size w ((w.alloc (.cells #[.string ⟨#[98]⟩, .int .i64 2, .iface 24 (.int .i64 40)] 46)).alloc (.cells #[.string ⟨#[97]⟩, .int .i64 1, .iface 40 (.pointer (some ⟨w.heap.size, 0, none⟩))] 46)) := ((Below.refl _ w).alloc (Nat.le_refl _) _).alloc (by simp) _
  have hw := where_any _ _ i2 (by simp [Err.depth])
  have hc := fun W (h : Below _ _ W) => code_any (Err.step (w.heap.size + 1) ⟨#[97]⟩ 1 (.step w.heap.size ⟨#[98]⟩ 2 (.num 40))) W ((hg.below hb2).below h) (i2.below h i2.top_le) (by simp [Err.depth])
  go_enter Tryd.func9, Tryd.ntmps9
  go_wp2_with (go_at_call 16; refine (at_some _ _ _ _ _).mono ?_; rintro e w' ⟨rfl, rfl⟩)
  refine hw.mono ?_
  rintro ev W3 ⟨v, rfl, hrow, hb3⟩
  have hc3 := hc W3 hb3
  clear hc hw
  obtain ⟨g, cap, rfl, hgl, hcap, hcells⟩ := row_cells hrow (by simp [Err.places])
  have d0 : W3.cell? ⟨g, 0, none⟩ = some (.string ⟨#[97]⟩) := hcells 0 _ rfl
  have d1 : W3.cell? ⟨g, 1, none⟩ = some (.string ⟨#[98]⟩) := hcells 1 _ rfl
  clear hcells
  dsimp only [Err.places, List.length_cons, List.length_nil] at hcap ⊢
  go_wp2_with (fail)
  refine hc3.mono ?_
  rintro ev W4 ⟨rfl, hb4⟩
  have d0' : W4.cell? ⟨g, 0, none⟩ = some (.string ⟨#[97]⟩) := (hb4.cell (p := ⟨g, 0, none⟩) hgl).trans d0
  have d1' : W4.cell? ⟨g, 1, none⟩ = some (.string ⟨#[98]⟩) := (hb4.cell (p := ⟨g, 1, none⟩) hgl).trans d1
  dsimp only [Err.code]
  go_wp2
  go_ret
  exact ⟨rfl, (hb2.trans (hb3.mono hb2.size)).trans (hb4.mono (by have := hb2.size; have := hb3.size; omega))⟩
end Go.Proofs.YtoobblofblodnaaDoor
