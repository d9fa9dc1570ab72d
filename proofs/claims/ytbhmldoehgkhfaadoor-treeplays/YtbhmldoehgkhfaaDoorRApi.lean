/-
  What the document's Api and Sum return: a node as it is answered, and its sum; conditions: the tree lies in memory, there are no more than 4294967296 leaves, the document's table holds its words. They only make memory of their own.
-/
import Derived.Test.YtbhmldoehgkhfaaDoorRNode
import Derived.Test.YtbhmldoehgkhfaaDoorRefA
namespace Go.Proofs.YtbhmldoehgkhfaaDoor
open Go.RowKit
open Tr

def RApiPost (t : T) (b : Nat) (w : World) (e : Ending) (w' : World) : Prop := ∃ A n c A' n' c' x y, RHas w w.heap.size t b A n c A' n' c' x y ∧ e = .returned (.agg (acells (.slice A n c) (.slice A' n' c') t.h t.n t.lsum t.rsum).toArray) ∧ Below w.heap.size w w'
def RSumPost (t : T) (w : World) (e : Ending) (w' : World) : Prop := e = .returned (.agg (Sh.bcells t.sum)) ∧ Below w.heap.size w w'
section
variable {w : World} {g : Nat} {t : TypeId} {kv vv : Value} {h : Int} {z : Nat} {l r : List UInt8}
theorem acells_lstore {l' : List UInt8} (hw : Whole w g t (acells kv vv h z l r).toArray) (hl : l.length = 32) (hl' : l'.length = 32) : Whole (w.setCells g 4 (l'.map V8)) g t (acells kv vv h z l' r).toArray := by
  have e : ∀ l : List UInt8, acells kv vv h z l r = [kv, vv, .int .i64 h, .int .u64 z] ++ (l.map V8 ++ r.map V8) := fun l => by simp [acells]
  rw [e] at hw ⊢
  exact Whole.setCells (l'.map V8) [kv, vv, .int .i64 h, .int .u64 z] (l.map V8) _ hw (by simp [hl, hl'])
theorem acells_rstore {r' : List UInt8} (hw : Whole w g t (acells kv vv h z l r).toArray) (hl : l.length = 32) (hr : r.length = 32) (hr' : r'.length = 32) : Whole (w.setCells g 36 (r'.map V8)) g t (acells kv vv h z l r').toArray := by
  have e : ∀ r : List UInt8, acells kv vv h z l r = ([kv, vv, .int .i64 h, .int .u64 z] ++ l.map V8) ++ (r.map V8 ++ []) := fun r => by simp [acells]
  rw [e] at hw ⊢
  have := Whole.setCells (r'.map V8) ([kv, vv, .int .i64 h, .int .u64 z] ++ l.map V8) (r.map V8) _ hw (by simp [hr, hr'])
  rwa [show ([kv, vv, .int .i64 h, .int .u64 z] ++ l.map V8).length = 36 by simp [hl]] at this
end

set_option maxRecDepth 100000 in
set_option maxHeartbeats 1000000 in
theorem rapi_leaf (k v : List UInt8) (b : Nat) (w : World) (h : RIn w w.heap.size (.leaf k v) b) : Calls Tryd.prog 32 #[ptr (some b)] w (RApiPost (.leaf k v) b w) := by
  obtain ⟨A, n, c, A', n', c', hh⟩ := h
  obtain ⟨x, hx⟩ : ∃ x : Option Nat, none = x := ⟨_, rfl⟩
  obtain ⟨y, hy⟩ : ∃ y : Option Nat, none = y := ⟨_, rfl⟩
  have HH : Hid (RHas w w.heap.size (.leaf k v) b A n c A' n' c' x y) := Lib.hid (by rw [← hx, ← hy]; exact hh)
  have hlb := hh.lt
  have c0 := hh.cells.1
  have c1 := hh.cells.2.1
  have c2 : w.cell? ⟨b, 2, none⟩ = some (.int .i64 0) := hh.cells.2.2.1
  have c3 : w.cell? ⟨b, 3, none⟩ = some (.int .u64 1) := hh.cells.2.2.2.1
  clear hh hx hy
  rw [ptr_some]
  have hz64 := zero64
  go_enter Tryd.func32, Tryd.ntmps32
  go_upto_region 1 with (fail)
  have hb1 : Below w.heap.size w (w.alloc (.cells z64 64)) := (Below.refl _ _).alloc (Nat.le_refl _) _
  have hw1 := Whole.made w 64 z64
  have hs1 : (w.alloc (.cells z64 64)).heap.size = w.heap.size + 1 := size_alloc _ _
  have hS0 : (w.alloc (.cells z64 64)).drew.cell? ⟨b, 0, none⟩ = some (.slice A n c) ∧ (w.alloc (.cells z64 64)).drew.cell? ⟨b, 1, none⟩ = some (.slice A' n' c') ∧ (w.alloc (.cells z64 64)).drew.cell? ⟨b, 2, none⟩ = some (.int .i64 0) ∧ (w.alloc (.cells z64 64)).drew.cell? ⟨b, 3, none⟩ = some (.int .u64 1) :=
    ⟨(hb1.cell (p := ⟨b, 0, none⟩) hlb).trans c0, (hb1.cell (p := ⟨b, 1, none⟩) hlb).trans c1, (hb1.cell (p := ⟨b, 2, none⟩) hlb).trans c2, (hb1.cell (p := ⟨b, 3, none⟩) hlb).trans c3⟩
  refine wp_region_held_drew (S := fun u => u.cell? ⟨b, 0, none⟩ = some (.slice A n c) ∧ u.cell? ⟨b, 1, none⟩ = some (.slice A' n' c') ∧ u.cell? ⟨b, 2, none⟩ = some (.int .i64 0) ∧ u.cell? ⟨b, 3, none⟩ = some (.int .u64 1)) (by kernel_rfl) hS0 (fun hHeld => ?_)
  refine wpAnyH_take (i := 0) (oi := { dst := some 4, op := Op.move (Operand.tmp 0), type := 26, pos := "ref.go:37", after := #[], guard := none }) (v := ?_) rfl (by kernel_rfl) (by kernel_rfl) (by kernel_rfl) (fun _ _ _ h => h) (Or.inl ⟨by rfl, ?_⟩) (by assumption) ?_
  rotate_left
  · first | (intro w hSw; (try dsimp only at hSw); go_simp; done) | (intro w hSw; (try dsimp only at hSw); go_simp; with_reducible rfl)
  simp only [Act.put, List.setIfInBounds_toArray, List.set_cons_zero, List.set_cons_succ]
  refine wpAnyH_take (i := 1) (oi := { dst := some 5, op := Op.nilCheck (Operand.tmp 4), type := 0, pos := "ref.go:37", after := #[{ on := 0, ground := Ground.data }], guard := none }) (v := ?_) rfl (by kernel_rfl) (by kernel_rfl) (by kernel_rfl) (fun _ _ _ h => h) (Or.inl ⟨by rfl, ?_⟩) (by assumption) ?_
  rotate_left
  · first | (intro w hSw; (try dsimp only at hSw); go_simp; done) | (intro w hSw; (try dsimp only at hSw); go_simp; with_reducible rfl)
  simp only [Act.put, List.setIfInBounds_toArray, List.set_cons_zero, List.set_cons_succ]
  refine wpAnyH_take (i := 2) (oi := { dst := some 6, op := Op.fieldAddr 62 (Operand.tmp 5) 0, type := 0, pos := "ref.go:37", after := #[{ on := 1, ground := Ground.data }], guard := none }) (v := ?_) rfl (by kernel_rfl) (by kernel_rfl) (by kernel_rfl) (fun _ _ _ h => h) (Or.inl ⟨by rfl, ?_⟩) (by assumption) ?_
  rotate_left
  · first | (intro w hSw; (try dsimp only at hSw); go_simp; done) | (intro w hSw; (try dsimp only at hSw); go_simp; with_reducible rfl)
  simp only [Act.put, List.setIfInBounds_toArray, List.set_cons_zero, List.set_cons_succ]
  refine wpAnyH_take (i := 3) (oi := { dst := some 7, op := Op.load 27 (Operand.tmp 6), type := 27, pos := "ref.go:37", after := #[{ on := 2, ground := Ground.data }], guard := none }) (v := ?_) rfl (by kernel_rfl) (by kernel_rfl) (by kernel_rfl) (fun _ _ _ h => h) (Or.inl ⟨by rfl, ?_⟩) (by assumption) ?_
  rotate_left
  · first | (intro w hSw; (try dsimp only at hSw); go_simp; done) | (intro w hSw; (try dsimp only at hSw); go_simp; with_reducible rfl)
  simp only [Act.put, List.setIfInBounds_toArray, List.set_cons_zero, List.set_cons_succ]
  refine wpAnyH_take (i := 4) (oi := { dst := some 8, op := Op.move (Operand.tmp 0), type := 26, pos := "ref.go:37", after := #[], guard := none }) (v := ?_) rfl (by kernel_rfl) (by kernel_rfl) (by kernel_rfl) (fun _ _ _ h => h) (Or.inl ⟨by rfl, ?_⟩) (by assumption) ?_
  rotate_left
  · first | (intro w hSw; (try dsimp only at hSw); go_simp; done) | (intro w hSw; (try dsimp only at hSw); go_simp; with_reducible rfl)
  simp only [Act.put, List.setIfInBounds_toArray, List.set_cons_zero, List.set_cons_succ]
  refine wpAnyH_take (i := 5) (oi := { dst := some 9, op := Op.nilCheck (Operand.tmp 8), type := 0, pos := "ref.go:37", after := #[{ on := 4, ground := Ground.data }], guard := none }) (v := ?_) rfl (by kernel_rfl) (by kernel_rfl) (by kernel_rfl) (fun _ _ _ h => h) (Or.inl ⟨by rfl, ?_⟩) (by assumption) ?_
  rotate_left
  · first | (intro w hSw; (try dsimp only at hSw); go_simp; done) | (intro w hSw; (try dsimp only at hSw); go_simp; with_reducible rfl)
  simp only [Act.put, List.setIfInBounds_toArray, List.set_cons_zero, List.set_cons_succ]
  refine wpAnyH_take (i := 6) (oi := { dst := some 10, op := Op.fieldAddr 62 (Operand.tmp 9) 1, type := 0, pos := "ref.go:37", after := #[{ on := 5, ground := Ground.data }], guard := none }) (v := ?_) rfl (by kernel_rfl) (by kernel_rfl) (by kernel_rfl) (fun _ _ _ h => h) (Or.inl ⟨by rfl, ?_⟩) (by assumption) ?_
  rotate_left
  · first | (intro w hSw; (try dsimp only at hSw); go_simp; done) | (intro w hSw; (try dsimp only at hSw); go_simp; with_reducible rfl)
  simp only [Act.put, List.setIfInBounds_toArray, List.set_cons_zero, List.set_cons_succ]
  refine wpAnyH_take (i := 7) (oi := { dst := some 11, op := Op.load 27 (Operand.tmp 10), type := 27, pos := "ref.go:37", after := #[{ on := 6, ground := Ground.data }], guard := none }) (v := ?_) rfl (by kernel_rfl) (by kernel_rfl) (by kernel_rfl) (fun _ _ _ h => h) (Or.inl ⟨by rfl, ?_⟩) (by assumption) ?_
  rotate_left
  · first | (intro w hSw; (try dsimp only at hSw); go_simp; done) | (intro w hSw; (try dsimp only at hSw); go_simp; with_reducible rfl)
  simp only [Act.put, List.setIfInBounds_toArray, List.set_cons_zero, List.set_cons_succ]
  refine wpAnyH_take (i := 8) (oi := { dst := some 12, op := Op.move (Operand.tmp 0), type := 26, pos := "ref.go:37", after := #[], guard := none }) (v := ?_) rfl (by kernel_rfl) (by kernel_rfl) (by kernel_rfl) (fun _ _ _ h => h) (Or.inl ⟨by rfl, ?_⟩) (by assumption) ?_
  rotate_left
  · first | (intro w hSw; (try dsimp only at hSw); go_simp; done) | (intro w hSw; (try dsimp only at hSw); go_simp; with_reducible rfl)
  simp only [Act.put, List.setIfInBounds_toArray, List.set_cons_zero, List.set_cons_succ]
  refine wpAnyH_take (i := 9) (oi := { dst := some 13, op := Op.nilCheck (Operand.tmp 12), type := 0, pos := "ref.go:37", after := #[{ on := 8, ground := Ground.data }], guard := none }) (v := ?_) rfl (by kernel_rfl) (by kernel_rfl) (by kernel_rfl) (fun _ _ _ h => h) (Or.inl ⟨by rfl, ?_⟩) (by assumption) ?_
  rotate_left
  · first | (intro w hSw; (try dsimp only at hSw); go_simp; done) | (intro w hSw; (try dsimp only at hSw); go_simp; with_reducible rfl)
  simp only [Act.put, List.setIfInBounds_toArray, List.set_cons_zero, List.set_cons_succ]
  refine wpAnyH_take (i := 10) (oi := { dst := some 14, op := Op.fieldAddr 62 (Operand.tmp 13) 2, type := 0, pos := "ref.go:37", after := #[{ on := 9, ground := Ground.data }], guard := none }) (v := ?_) rfl (by kernel_rfl) (by kernel_rfl) (by kernel_rfl) (fun _ _ _ h => h) (Or.inl ⟨by rfl, ?_⟩) (by assumption) ?_
  rotate_left
  · first | (intro w hSw; (try dsimp only at hSw); go_simp; done) | (intro w hSw; (try dsimp only at hSw); go_simp; with_reducible rfl)
  simp only [Act.put, List.setIfInBounds_toArray, List.set_cons_zero, List.set_cons_succ]
  refine wpAnyH_take (i := 11) (oi := { dst := some 15, op := Op.load 3 (Operand.tmp 14), type := 3, pos := "ref.go:37", after := #[{ on := 10, ground := Ground.data }], guard := none }) (v := ?_) rfl (by kernel_rfl) (by kernel_rfl) (by kernel_rfl) (fun _ _ _ h => h) (Or.inl ⟨by rfl, ?_⟩) (by assumption) ?_
  rotate_left
  · first | (intro w hSw; (try dsimp only at hSw); go_simp; done) | (intro w hSw; (try dsimp only at hSw); go_simp; with_reducible rfl)
  simp only [Act.put, List.setIfInBounds_toArray, List.set_cons_zero, List.set_cons_succ]
  refine wpAnyH_take (i := 12) (oi := { dst := some 16, op := Op.move (Operand.tmp 0), type := 26, pos := "ref.go:37", after := #[], guard := none }) (v := ?_) rfl (by kernel_rfl) (by kernel_rfl) (by kernel_rfl) (fun _ _ _ h => h) (Or.inl ⟨by rfl, ?_⟩) (by assumption) ?_
  rotate_left
  · first | (intro w hSw; (try dsimp only at hSw); go_simp; done) | (intro w hSw; (try dsimp only at hSw); go_simp; with_reducible rfl)
  simp only [Act.put, List.setIfInBounds_toArray, List.set_cons_zero, List.set_cons_succ]
  refine wpAnyH_take (i := 13) (oi := { dst := some 17, op := Op.nilCheck (Operand.tmp 16), type := 0, pos := "ref.go:37", after := #[{ on := 12, ground := Ground.data }], guard := none }) (v := ?_) rfl (by kernel_rfl) (by kernel_rfl) (by kernel_rfl) (fun _ _ _ h => h) (Or.inl ⟨by rfl, ?_⟩) (by assumption) ?_
  rotate_left
  · first | (intro w hSw; (try dsimp only at hSw); go_simp; done) | (intro w hSw; (try dsimp only at hSw); go_simp; with_reducible rfl)
  simp only [Act.put, List.setIfInBounds_toArray, List.set_cons_zero, List.set_cons_succ]
  refine wpAnyH_take (i := 14) (oi := { dst := some 18, op := Op.fieldAddr 62 (Operand.tmp 17) 3, type := 0, pos := "ref.go:37", after := #[{ on := 13, ground := Ground.data }], guard := none }) (v := ?_) rfl (by kernel_rfl) (by kernel_rfl) (by kernel_rfl) (fun _ _ _ h => h) (Or.inl ⟨by rfl, ?_⟩) (by assumption) ?_
  rotate_left
  · first | (intro w hSw; (try dsimp only at hSw); go_simp; done) | (intro w hSw; (try dsimp only at hSw); go_simp; with_reducible rfl)
  simp only [Act.put, List.setIfInBounds_toArray, List.set_cons_zero, List.set_cons_succ]
  refine wpAnyH_take (i := 15) (oi := { dst := some 19, op := Op.load 60 (Operand.tmp 18), type := 60, pos := "ref.go:37", after := #[{ on := 14, ground := Ground.data }], guard := none }) (v := ?_) rfl (by kernel_rfl) (by kernel_rfl) (by kernel_rfl) (fun _ _ _ h => h) (Or.inl ⟨by rfl, ?_⟩) (by assumption) ?_
  rotate_left
  · first | (intro w hSw; (try dsimp only at hSw); go_simp; done) | (intro w hSw; (try dsimp only at hSw); go_simp; with_reducible rfl)
  simp only [Act.put, List.setIfInBounds_toArray, List.set_cons_zero, List.set_cons_succ]
  have hzs : z64.size = 68 := z64_size
  have hze : ¬ (z64 = #[]) := fun e => by rw [e] at hzs; cases hzs
  refine wpAnyH_take (i := 16) (oi := { dst := some 20, op := Op.build 64 #[(0, Operand.tmp 7), (1, Operand.tmp 11), (2, Operand.tmp 15), (3, Operand.tmp 19)], type := 64, pos := "ref.go:37", after := #[{ on := 3, ground := Ground.data }, { on := 7, ground := Ground.data }, { on := 11, ground := Ground.data }, { on := 15, ground := Ground.data }], guard := none }) (v := ?_) rfl (by kernel_rfl) (by kernel_rfl) (by kernel_rfl) (fun _ _ _ h => h) (Or.inl ⟨by rfl, ?_⟩) (by assumption) ?_
  rotate_left
  · first | (intro w hSw; (try dsimp only at hSw); go_simp; done) | (intro w hSw; (try dsimp only at hSw); go_simp; with_reducible rfl)
  simp only [Act.put, List.setIfInBounds_toArray, List.set_cons_zero, List.set_cons_succ]
  have e64 : (((z64.setIfInBounds 0 (.slice A n c)).setIfInBounds 1 (.slice A' n' c')).setIfInBounds 2 (.int .i64 0)).setIfInBounds 3 (.int .u64 1) = (acells (.slice A n c) (.slice A' n' c') 0 1 z32 z32).toArray := by rfl
  rw [e64]
  clear e64 hze hHeld
  have hb2 : Below w.heap.size w (w.alloc (.cells z64 64)).drew := hb1.drew
  have hw2 : Whole (w.alloc (.cells z64 64)).drew w.heap.size 64 z64 := hw1
  have hs2 : (w.alloc (.cells z64 64)).drew.heap.size = w.heap.size + 1 := hs1
  clear hb1 hw1 hs1 c0 c1 c2 c3
  generalize (w.alloc (.cells z64 64)).drew = w1 at *
  refine wpAnyH_ready (rs := [17]) (by kernel_rfl) (by simp) ?_
  refine AllReadyH.cons rfl (fun K hK => ?_) AllReadyH.nil
  go_simp
  have hw3 := Whole.made w1 64 z64
  have hb3 : Below w1.heap.size w1 (w1.alloc (.cells z64 64)) := (Below.refl _ _).alloc (Nat.le_refl _) _
  have hcS : ∀ u, Below w1.heap.size w1 u → u.cell? ⟨b, 0, none⟩ = some (.slice A n c) ∧ u.cell? ⟨b, 1, none⟩ = some (.slice A' n' c') ∧ u.cell? ⟨b, 2, none⟩ = some (.int .i64 0) ∧ u.cell? ⟨b, 3, none⟩ = some (.int .u64 1) := fun u hu =>
    ⟨(hu.cell (p := ⟨b, 0, none⟩) (by show b < _; omega)).trans hS0.1, (hu.cell (p := ⟨b, 1, none⟩) (by show b < _; omega)).trans hS0.2.1, (hu.cell (p := ⟨b, 2, none⟩) (by show b < _; omega)).trans hS0.2.2.1, (hu.cell (p := ⟨b, 3, none⟩) (by show b < _; omega)).trans hS0.2.2.2⟩
  refine hK.out _ _ (hcS _ hb3) (fun _ => ?_)
  clear hK K
  have hX68 : (acells (.slice A n c) (.slice A' n' c') 0 1 z32 z32).toArray.size = 68 := by rw [List.size_toArray, acells_len _ _ _ _ _ _ rfl rfl]
  refine wpAnyH_ready (rs := [18]) (by kernel_rfl) (by simp) ?_
  refine AllReadyH.cons rfl (fun K hK => ?_) AllReadyH.nil
  refine Eq.mpr (if_pos (by rfl)) ?_
  rw [hs2] at hw3 hb3
  try rw [hs2]
  refine wp_store_none (by rfl) 64 (.tmp 3) (.tmp 20) rfl (w.heap.size + 1) 0 (acells (.slice A n c) (.slice A' n' c') 0 1 z32 z32).toArray rfl rfl ?_ ?_ (acells_one ..) ?_
  · rw [hX68]; exact hw3.there_
  · rw [hX68]; exact info64
  have hw4 := hw3.setAll (vs := (acells (.slice A n c) (.slice A' n' c') 0 1 z32 z32).toArray) (by rw [hX68]; rfl)
  have hb4 : Below (w.heap.size + 1) w1 ((w1.alloc (.cells z64 64)).setCells (w.heap.size + 1) 0 (acells (.slice A n c) (.slice A' n' c') 0 1 z32 z32).toArray.toList) := below_setCells w1 (w.heap.size + 1) _ 0 hb3 (Nat.le_refl _)
  refine hK.out _ _ (hcS _ (by rw [hs2]; exact hb4)) (fun hHeld => ?_)
  clear hK K hHeld hcS hw3 hb3
  generalize (w1.alloc (.cells z64 64)).setCells (w.heap.size + 1) 0 (acells (.slice A n c) (.slice A' n' c') 0 1 z32 z32).toArray.toList = w4 at *
  have hs4 : w.heap.size + 1 < w4.heap.size := hw4.lt
  have HW4 := Lib.hid hw4
  have HR4 := Lib.hid (hw2.below hb4 (Nat.lt_succ_self _))
  have HB4 := Lib.hid (hb2.trans (hb4.mono (Nat.le_succ _)))
  have c2' : w4.cell? ⟨b, 2, none⟩ = some (.int .i64 0) := (hb4.cell (p := ⟨b, 2, none⟩) (by show b < _; omega)).trans hS0.2.2.1
  clear hw4 hb4 hw2 hb2 hS0 hs2 hzs
  refine wpAnyH_done (by kernel_rfl) ?_ _
  clear hz64
  go_upto_region 5 with (fail)
  have hlF : (acells (.slice A n c) (.slice A' n' c') (0 : Int) 1 z32 z32).length = 68 := acells_len _ _ _ _ _ _ rfl rfl
  have hzF : (acells (.slice A n c) (.slice A' n' c') (0 : Int) 1 z32 z32).toArray.size = 68 := by rw [List.size_toArray, hlF]
  refine wp_region_lit ?_
  refine wpList_load_mid rfl 64 (.tmp 3) rfl (w.heap.size + 1) 0 rfl _ _ HW4.out.range Tryd.underlying64 rfl (by rw [hlF]; exact info64) ?_
  refine wpList_store_mid rfl 64 (.tmp 2) (.tmp 38) rfl w.heap.size 0 (acells (.slice A n c) (.slice A' n' c') (0 : Int) 1 z32 z32).toArray rfl rfl ?_ ?_ (acells_one ..) ?_
  · rw [hzF]; exact HR4.out.there_
  · rw [hzF]; exact info64
  have HW9 := Lib.hid (HR4.out.setAll (vs := (acells (.slice A n c) (.slice A' n' c') (0 : Int) 1 z32 z32).toArray) (by rw [hzF]; rfl))
  have HB9 := Lib.hid (below_setCells w w.heap.size (acells (.slice A n c) (.slice A' n' c') (0 : Int) 1 z32 z32).toArray.toList 0 HB4.out (Nat.le_refl _))
  show wpList _ _ _ _ _ (w4.setCells w.heap.size 0 (acells (.slice A n c) (.slice A' n' c') (0 : Int) 1 z32 z32).toArray.toList)
  generalize w4.setCells w.heap.size 0 (acells (.slice A n c) (.slice A' n' c') (0 : Int) 1 z32 z32).toArray.toList = w9 at *
  go_wp2_with fail
  refine bodyPost_ret (results_cell1 Tryd.results32 _ _ _ ⟨w.heap.size, 0, none⟩ _ rfl (load_whole HW9.out 64 _ Tryd.underlying64 rfl (by rw [hzF]; exact info64))) rfl ⟨A, n, c, A', n', c', x, y, HH.out, rfl, HB9.out⟩

set_option maxRecDepth 100000 in
set_option maxHeartbeats 2000000 in
theorem rapi_node (l r : T) (HSL : ∀ x w, RIn w w.heap.size l x → Sh.Tab w 0 → 1 < w.heap.size → Calls Tryd.prog 24 #[ptr (some x)] w (RSumPost l w)) (HSR : ∀ x w, RIn w w.heap.size r x → Sh.Tab w 0 → 1 < w.heap.size → Calls Tryd.prog 24 #[ptr (some x)] w (RSumPost r w))
    (b : Nat) (w : World) (h : RIn w w.heap.size (.node l r) b) (ht : Sh.Tab w 0) (hw : 1 < w.heap.size) : Calls Tryd.prog 32 #[ptr (some b)] w (RApiPost (.node l r) b w) := by
  obtain ⟨A, n, c, A', n', c', x0, y0, hh, hx, hy⟩ := h
  obtain ⟨x, hxe⟩ : ∃ x : Option Nat, some x0 = x := ⟨_, rfl⟩
  obtain ⟨y, hye⟩ : ∃ y : Option Nat, some y0 = y := ⟨_, rfl⟩
  have HH : Hid (RHas w w.heap.size (.node l r) b A n c A' n' c' x y) := Lib.hid (by rw [← hxe, ← hye]; exact hh)
  have HSD : Hid (∀ u, Below w.heap.size w u → u.cell? ⟨b, 4, none⟩ = some (.pointer (some ⟨x0, 0, none⟩)) ∧ u.cell? ⟨b, 5, none⟩ = some (.pointer (some ⟨y0, 0, none⟩))) := Lib.hid (fun u hu => hh.sides hu)
  have HX := Lib.hid hx
  have HY := Lib.hid hy
  have HT := Lib.hid ht
  have HSL' := Lib.hid HSL
  have HSR' := Lib.hid HSR
  have hlb := hh.lt
  have c0 := hh.cells.1
  have c1 := hh.cells.2.1
  have c2 := hh.cells.2.2.1
  have c3 := hh.cells.2.2.2.1
  have hpos : 0 < (T.node l r).h := by have := h_ne l r; omega
  obtain ⟨H, hH⟩ : ∃ H, (T.node l r).h = H := ⟨_, rfl⟩
  obtain ⟨N, hN⟩ : ∃ N, (T.node l r).n = N := ⟨_, rfl⟩
  rw [hH] at c2 hpos
  rw [hN] at c3
  have HHN := Lib.hid (And.intro hH hN)
  clear hh hx hy hxe hye ht hH hN HSL HSR
  rw [ptr_some]
  have hz64 := zero64
  go_enter Tryd.func32, Tryd.ntmps32
  go_upto_region 1 with (fail)
  have hb1 : Below w.heap.size w (w.alloc (.cells z64 64)) := (Below.refl _ _).alloc (Nat.le_refl _) _
  have hw1 := Whole.made w 64 z64
  have hs1 : (w.alloc (.cells z64 64)).heap.size = w.heap.size + 1 := size_alloc _ _
  have hS0 : (w.alloc (.cells z64 64)).drew.cell? ⟨b, 0, none⟩ = some (.slice A n c) ∧ (w.alloc (.cells z64 64)).drew.cell? ⟨b, 1, none⟩ = some (.slice A' n' c') ∧ (w.alloc (.cells z64 64)).drew.cell? ⟨b, 2, none⟩ = some (.int .i64 (H : Int)) ∧ (w.alloc (.cells z64 64)).drew.cell? ⟨b, 3, none⟩ = some (.int .u64 N) :=
    ⟨(hb1.cell (p := ⟨b, 0, none⟩) hlb).trans c0, (hb1.cell (p := ⟨b, 1, none⟩) hlb).trans c1, (hb1.cell (p := ⟨b, 2, none⟩) hlb).trans c2, (hb1.cell (p := ⟨b, 3, none⟩) hlb).trans c3⟩
  refine wp_region_held_drew (S := fun u => u.cell? ⟨b, 0, none⟩ = some (.slice A n c) ∧ u.cell? ⟨b, 1, none⟩ = some (.slice A' n' c') ∧ u.cell? ⟨b, 2, none⟩ = some (.int .i64 (H : Int)) ∧ u.cell? ⟨b, 3, none⟩ = some (.int .u64 N)) (by kernel_rfl) hS0 (fun hHeld => ?_)
  refine wpAnyH_take (i := 0) (oi := { dst := some 4, op := Op.move (Operand.tmp 0), type := 26, pos := "ref.go:37", after := #[], guard := none }) (v := ?_) rfl (by kernel_rfl) (by kernel_rfl) (by kernel_rfl) (fun _ _ _ h => h) (Or.inl ⟨by rfl, ?_⟩) (by assumption) ?_
  rotate_left
  · first | (intro w hSw; (try dsimp only at hSw); go_simp; done) | (intro w hSw; (try dsimp only at hSw); go_simp; with_reducible rfl)
  simp only [Act.put, List.setIfInBounds_toArray, List.set_cons_zero, List.set_cons_succ]
  refine wpAnyH_take (i := 1) (oi := { dst := some 5, op := Op.nilCheck (Operand.tmp 4), type := 0, pos := "ref.go:37", after := #[{ on := 0, ground := Ground.data }], guard := none }) (v := ?_) rfl (by kernel_rfl) (by kernel_rfl) (by kernel_rfl) (fun _ _ _ h => h) (Or.inl ⟨by rfl, ?_⟩) (by assumption) ?_
  rotate_left
  · first | (intro w hSw; (try dsimp only at hSw); go_simp; done) | (intro w hSw; (try dsimp only at hSw); go_simp; with_reducible rfl)
  simp only [Act.put, List.setIfInBounds_toArray, List.set_cons_zero, List.set_cons_succ]
  refine wpAnyH_take (i := 2) (oi := { dst := some 6, op := Op.fieldAddr 62 (Operand.tmp 5) 0, type := 0, pos := "ref.go:37", after := #[{ on := 1, ground := Ground.data }], guard := none }) (v := ?_) rfl (by kernel_rfl) (by kernel_rfl) (by kernel_rfl) (fun _ _ _ h => h) (Or.inl ⟨by rfl, ?_⟩) (by assumption) ?_
  rotate_left
  · first | (intro w hSw; (try dsimp only at hSw); go_simp; done) | (intro w hSw; (try dsimp only at hSw); go_simp; with_reducible rfl)
  simp only [Act.put, List.setIfInBounds_toArray, List.set_cons_zero, List.set_cons_succ]
  refine wpAnyH_take (i := 3) (oi := { dst := some 7, op := Op.load 27 (Operand.tmp 6), type := 27, pos := "ref.go:37", after := #[{ on := 2, ground := Ground.data }], guard := none }) (v := ?_) rfl (by kernel_rfl) (by kernel_rfl) (by kernel_rfl) (fun _ _ _ h => h) (Or.inl ⟨by rfl, ?_⟩) (by assumption) ?_
  rotate_left
  · first | (intro w hSw; (try dsimp only at hSw); go_simp; done) | (intro w hSw; (try dsimp only at hSw); go_simp; with_reducible rfl)
  simp only [Act.put, List.setIfInBounds_toArray, List.set_cons_zero, List.set_cons_succ]
  refine wpAnyH_take (i := 4) (oi := { dst := some 8, op := Op.move (Operand.tmp 0), type := 26, pos := "ref.go:37", after := #[], guard := none }) (v := ?_) rfl (by kernel_rfl) (by kernel_rfl) (by kernel_rfl) (fun _ _ _ h => h) (Or.inl ⟨by rfl, ?_⟩) (by assumption) ?_
  rotate_left
  · first | (intro w hSw; (try dsimp only at hSw); go_simp; done) | (intro w hSw; (try dsimp only at hSw); go_simp; with_reducible rfl)
  simp only [Act.put, List.setIfInBounds_toArray, List.set_cons_zero, List.set_cons_succ]
  refine wpAnyH_take (i := 5) (oi := { dst := some 9, op := Op.nilCheck (Operand.tmp 8), type := 0, pos := "ref.go:37", after := #[{ on := 4, ground := Ground.data }], guard := none }) (v := ?_) rfl (by kernel_rfl) (by kernel_rfl) (by kernel_rfl) (fun _ _ _ h => h) (Or.inl ⟨by rfl, ?_⟩) (by assumption) ?_
  rotate_left
  · first | (intro w hSw; (try dsimp only at hSw); go_simp; done) | (intro w hSw; (try dsimp only at hSw); go_simp; with_reducible rfl)
  simp only [Act.put, List.setIfInBounds_toArray, List.set_cons_zero, List.set_cons_succ]
  refine wpAnyH_take (i := 6) (oi := { dst := some 10, op := Op.fieldAddr 62 (Operand.tmp 9) 1, type := 0, pos := "ref.go:37", after := #[{ on := 5, ground := Ground.data }], guard := none }) (v := ?_) rfl (by kernel_rfl) (by kernel_rfl) (by kernel_rfl) (fun _ _ _ h => h) (Or.inl ⟨by rfl, ?_⟩) (by assumption) ?_
  rotate_left
  · first | (intro w hSw; (try dsimp only at hSw); go_simp; done) | (intro w hSw; (try dsimp only at hSw); go_simp; with_reducible rfl)
  simp only [Act.put, List.setIfInBounds_toArray, List.set_cons_zero, List.set_cons_succ]
  refine wpAnyH_take (i := 7) (oi := { dst := some 11, op := Op.load 27 (Operand.tmp 10), type := 27, pos := "ref.go:37", after := #[{ on := 6, ground := Ground.data }], guard := none }) (v := ?_) rfl (by kernel_rfl) (by kernel_rfl) (by kernel_rfl) (fun _ _ _ h => h) (Or.inl ⟨by rfl, ?_⟩) (by assumption) ?_
  rotate_left
  · first | (intro w hSw; (try dsimp only at hSw); go_simp; done) | (intro w hSw; (try dsimp only at hSw); go_simp; with_reducible rfl)
  simp only [Act.put, List.setIfInBounds_toArray, List.set_cons_zero, List.set_cons_succ]
  refine wpAnyH_take (i := 8) (oi := { dst := some 12, op := Op.move (Operand.tmp 0), type := 26, pos := "ref.go:37", after := #[], guard := none }) (v := ?_) rfl (by kernel_rfl) (by kernel_rfl) (by kernel_rfl) (fun _ _ _ h => h) (Or.inl ⟨by rfl, ?_⟩) (by assumption) ?_
  rotate_left
  · first | (intro w hSw; (try dsimp only at hSw); go_simp; done) | (intro w hSw; (try dsimp only at hSw); go_simp; with_reducible rfl)
  simp only [Act.put, List.setIfInBounds_toArray, List.set_cons_zero, List.set_cons_succ]
  refine wpAnyH_take (i := 9) (oi := { dst := some 13, op := Op.nilCheck (Operand.tmp 12), type := 0, pos := "ref.go:37", after := #[{ on := 8, ground := Ground.data }], guard := none }) (v := ?_) rfl (by kernel_rfl) (by kernel_rfl) (by kernel_rfl) (fun _ _ _ h => h) (Or.inl ⟨by rfl, ?_⟩) (by assumption) ?_
  rotate_left
  · first | (intro w hSw; (try dsimp only at hSw); go_simp; done) | (intro w hSw; (try dsimp only at hSw); go_simp; with_reducible rfl)
  simp only [Act.put, List.setIfInBounds_toArray, List.set_cons_zero, List.set_cons_succ]
  refine wpAnyH_take (i := 10) (oi := { dst := some 14, op := Op.fieldAddr 62 (Operand.tmp 13) 2, type := 0, pos := "ref.go:37", after := #[{ on := 9, ground := Ground.data }], guard := none }) (v := ?_) rfl (by kernel_rfl) (by kernel_rfl) (by kernel_rfl) (fun _ _ _ h => h) (Or.inl ⟨by rfl, ?_⟩) (by assumption) ?_
  rotate_left
  · first | (intro w hSw; (try dsimp only at hSw); go_simp; done) | (intro w hSw; (try dsimp only at hSw); go_simp; with_reducible rfl)
  simp only [Act.put, List.setIfInBounds_toArray, List.set_cons_zero, List.set_cons_succ]
  refine wpAnyH_take (i := 11) (oi := { dst := some 15, op := Op.load 3 (Operand.tmp 14), type := 3, pos := "ref.go:37", after := #[{ on := 10, ground := Ground.data }], guard := none }) (v := ?_) rfl (by kernel_rfl) (by kernel_rfl) (by kernel_rfl) (fun _ _ _ h => h) (Or.inl ⟨by rfl, ?_⟩) (by assumption) ?_
  rotate_left
  · first | (intro w hSw; (try dsimp only at hSw); go_simp; done) | (intro w hSw; (try dsimp only at hSw); go_simp; with_reducible rfl)
  simp only [Act.put, List.setIfInBounds_toArray, List.set_cons_zero, List.set_cons_succ]
  refine wpAnyH_take (i := 12) (oi := { dst := some 16, op := Op.move (Operand.tmp 0), type := 26, pos := "ref.go:37", after := #[], guard := none }) (v := ?_) rfl (by kernel_rfl) (by kernel_rfl) (by kernel_rfl) (fun _ _ _ h => h) (Or.inl ⟨by rfl, ?_⟩) (by assumption) ?_
  rotate_left
  · first | (intro w hSw; (try dsimp only at hSw); go_simp; done) | (intro w hSw; (try dsimp only at hSw); go_simp; with_reducible rfl)
  simp only [Act.put, List.setIfInBounds_toArray, List.set_cons_zero, List.set_cons_succ]
  refine wpAnyH_take (i := 13) (oi := { dst := some 17, op := Op.nilCheck (Operand.tmp 16), type := 0, pos := "ref.go:37", after := #[{ on := 12, ground := Ground.data }], guard := none }) (v := ?_) rfl (by kernel_rfl) (by kernel_rfl) (by kernel_rfl) (fun _ _ _ h => h) (Or.inl ⟨by rfl, ?_⟩) (by assumption) ?_
  rotate_left
  · first | (intro w hSw; (try dsimp only at hSw); go_simp; done) | (intro w hSw; (try dsimp only at hSw); go_simp; with_reducible rfl)
  simp only [Act.put, List.setIfInBounds_toArray, List.set_cons_zero, List.set_cons_succ]
  refine wpAnyH_take (i := 14) (oi := { dst := some 18, op := Op.fieldAddr 62 (Operand.tmp 17) 3, type := 0, pos := "ref.go:37", after := #[{ on := 13, ground := Ground.data }], guard := none }) (v := ?_) rfl (by kernel_rfl) (by kernel_rfl) (by kernel_rfl) (fun _ _ _ h => h) (Or.inl ⟨by rfl, ?_⟩) (by assumption) ?_
  rotate_left
  · first | (intro w hSw; (try dsimp only at hSw); go_simp; done) | (intro w hSw; (try dsimp only at hSw); go_simp; with_reducible rfl)
  simp only [Act.put, List.setIfInBounds_toArray, List.set_cons_zero, List.set_cons_succ]
  refine wpAnyH_take (i := 15) (oi := { dst := some 19, op := Op.load 60 (Operand.tmp 18), type := 60, pos := "ref.go:37", after := #[{ on := 14, ground := Ground.data }], guard := none }) (v := ?_) rfl (by kernel_rfl) (by kernel_rfl) (by kernel_rfl) (fun _ _ _ h => h) (Or.inl ⟨by rfl, ?_⟩) (by assumption) ?_
  rotate_left
  · first | (intro w hSw; (try dsimp only at hSw); go_simp; done) | (intro w hSw; (try dsimp only at hSw); go_simp; with_reducible rfl)
  simp only [Act.put, List.setIfInBounds_toArray, List.set_cons_zero, List.set_cons_succ]
  have hzs : z64.size = 68 := z64_size
  have hze : ¬ (z64 = #[]) := fun e => by rw [e] at hzs; cases hzs
  refine wpAnyH_take (i := 16) (oi := { dst := some 20, op := Op.build 64 #[(0, Operand.tmp 7), (1, Operand.tmp 11), (2, Operand.tmp 15), (3, Operand.tmp 19)], type := 64, pos := "ref.go:37", after := #[{ on := 3, ground := Ground.data }, { on := 7, ground := Ground.data }, { on := 11, ground := Ground.data }, { on := 15, ground := Ground.data }], guard := none }) (v := ?_) rfl (by kernel_rfl) (by kernel_rfl) (by kernel_rfl) (fun _ _ _ h => h) (Or.inl ⟨by rfl, ?_⟩) (by assumption) ?_
  rotate_left
  · first | (intro w hSw; (try dsimp only at hSw); go_simp; done) | (intro w hSw; (try dsimp only at hSw); go_simp; with_reducible rfl)
  simp only [Act.put, List.setIfInBounds_toArray, List.set_cons_zero, List.set_cons_succ]
  have e64 : (((z64.setIfInBounds 0 (.slice A n c)).setIfInBounds 1 (.slice A' n' c')).setIfInBounds 2 (.int .i64 (H : Int))).setIfInBounds 3 (.int .u64 N) = (acells (.slice A n c) (.slice A' n' c') (H : Int) N z32 z32).toArray := by rfl
  rw [e64]
  clear e64 hze hHeld
  have hb2 : Below w.heap.size w (w.alloc (.cells z64 64)).drew := hb1.drew
  have hw2 : Whole (w.alloc (.cells z64 64)).drew w.heap.size 64 z64 := hw1
  have hs2 : (w.alloc (.cells z64 64)).drew.heap.size = w.heap.size + 1 := hs1
  clear hb1 hw1 hs1 c0 c1 c2 c3
  generalize (w.alloc (.cells z64 64)).drew = w1 at *
  refine wpAnyH_ready (rs := [17]) (by kernel_rfl) (by simp) ?_
  refine AllReadyH.cons rfl (fun K hK => ?_) AllReadyH.nil
  go_simp
  have hw3 := Whole.made w1 64 z64
  have hb3 : Below w1.heap.size w1 (w1.alloc (.cells z64 64)) := (Below.refl _ _).alloc (Nat.le_refl _) _
  have hcS : ∀ u, Below w1.heap.size w1 u → u.cell? ⟨b, 0, none⟩ = some (.slice A n c) ∧ u.cell? ⟨b, 1, none⟩ = some (.slice A' n' c') ∧ u.cell? ⟨b, 2, none⟩ = some (.int .i64 (H : Int)) ∧ u.cell? ⟨b, 3, none⟩ = some (.int .u64 N) := fun u hu =>
    ⟨(hu.cell (p := ⟨b, 0, none⟩) (by show b < _; omega)).trans hS0.1, (hu.cell (p := ⟨b, 1, none⟩) (by show b < _; omega)).trans hS0.2.1, (hu.cell (p := ⟨b, 2, none⟩) (by show b < _; omega)).trans hS0.2.2.1, (hu.cell (p := ⟨b, 3, none⟩) (by show b < _; omega)).trans hS0.2.2.2⟩
  refine hK.out _ _ (hcS _ hb3) (fun _ => ?_)
  clear hK K
  have hX68 : (acells (.slice A n c) (.slice A' n' c') (H : Int) N z32 z32).toArray.size = 68 := by rw [List.size_toArray, acells_len _ _ _ _ _ _ rfl rfl]
  refine wpAnyH_ready (rs := [18]) (by kernel_rfl) (by simp) ?_
  refine AllReadyH.cons rfl (fun K hK => ?_) AllReadyH.nil
  refine Eq.mpr (if_pos (by rfl)) ?_
  rw [hs2] at hw3 hb3
  try rw [hs2]
  refine wp_store_none (by rfl) 64 (.tmp 3) (.tmp 20) rfl (w.heap.size + 1) 0 (acells (.slice A n c) (.slice A' n' c') (H : Int) N z32 z32).toArray rfl rfl ?_ ?_ (acells_one ..) ?_
  · rw [hX68]; exact hw3.there_
  · rw [hX68]; exact info64
  have hw4 := hw3.setAll (vs := (acells (.slice A n c) (.slice A' n' c') (H : Int) N z32 z32).toArray) (by rw [hX68]; rfl)
  have hb4 : Below (w.heap.size + 1) w1 ((w1.alloc (.cells z64 64)).setCells (w.heap.size + 1) 0 (acells (.slice A n c) (.slice A' n' c') (H : Int) N z32 z32).toArray.toList) := below_setCells w1 (w.heap.size + 1) _ 0 hb3 (Nat.le_refl _)
  refine hK.out _ _ (hcS _ (by rw [hs2]; exact hb4)) (fun hHeld => ?_)
  clear hK K hHeld hcS hw3 hb3
  generalize (w1.alloc (.cells z64 64)).setCells (w.heap.size + 1) 0 (acells (.slice A n c) (.slice A' n' c') (H : Int) N z32 z32).toArray.toList = w4 at *
  have hs4 : w.heap.size + 1 < w4.heap.size := hw4.lt
  have HW4 := Lib.hid hw4
  have HR4 := Lib.hid (hw2.below hb4 (Nat.lt_succ_self _))
  have HB4 := Lib.hid (hb2.trans (hb4.mono (Nat.le_succ _)))
  have c2' : w4.cell? ⟨b, 2, none⟩ = some (.int .i64 (H : Int)) := (hb4.cell (p := ⟨b, 2, none⟩) (by show b < _; omega)).trans hS0.2.2.1
  clear hw4 hb4 hw2 hb2 hS0 hs2 hzs
  refine wpAnyH_done (by kernel_rfl) ?_ _
  clear hz64
  obtain ⟨c4, c5⟩ := HSD.out w4 HB4.out
  have HC1 := Lib.hid (HSL'.out x0 w4 (HX.out.on HB4.out) (tab0_below HT.out HB4.out hw) (by omega))
  rw [ptr_some] at HC1
  go_wp2_with fail
  refine HC1.out.mono ?_
  rintro e w5 ⟨rfl, hb5⟩
  have hs5 := hb5.size
  have HW5 := Lib.hid (HW4.out.below hb5 HW4.out.lt)
  have HR5 := Lib.hid (HR4.out.below hb5 HR4.out.lt)
  have HB5 := Lib.hid (HB4.out.trans (hb5.mono HB4.out.size))
  clear hb5 HC1 c4 c5 c2' HW4 HR4 HB4
  have hone1 := Sh.bcells_one l.sum
  have hsz1 : (Sh.bcells l.sum).size = 32 := (Sh.bcells_size _).trans (sum32 l)
  simp only []
  iterate 4 go_step
  refine wpList_store_mid rfl 49 (.tmp 31) (.tmp 30) rfl (w.heap.size + 1) 4 (Sh.bcells l.sum) rfl rfl ?_ ?_ hone1 ?_
  · rw [hsz1]; exact HW5.out.midthere 4 32 (by rw [hX68]; omega)
  · rw [hsz1]; exact info49
  have HW6 := Lib.hid (acells_lstore (l' := l.sum) HW5.out rfl (sum32 l))
  have HB6 := Lib.hid (below_setCells w (w.heap.size + 1) (l.sum.map V8) 4 HB5.out (by omega))
  have HR6 := Lib.hid (HR5.out.setOther (b := w.heap.size + 1) (by omega) (l.sum.map V8) 4)
  have hs6 := size_setCells (w.heap.size + 1) (l.sum.map V8) 4 w5
  show wpList _ _ _ _ _ (w5.setCells (w.heap.size + 1) 4 (l.sum.map V8))
  generalize w5.setCells (w.heap.size + 1) 4 (l.sum.map V8) = w6 at *
  clear HW5 HR5 HB5 hone1 hsz1
  obtain ⟨c4, c5⟩ := HSD.out w6 HB6.out
  have HC2 := Lib.hid (HSR'.out y0 w6 (HY.out.on HB6.out) (tab0_below HT.out HB6.out hw) (by omega))
  rw [ptr_some] at HC2
  go_wp2_with fail
  refine HC2.out.mono ?_
  rintro e w7 ⟨rfl, hb7⟩
  have hs7 := hb7.size
  have HW7 := Lib.hid (HW6.out.below hb7 HW6.out.lt)
  have HR7 := Lib.hid (HR6.out.below hb7 HR6.out.lt)
  have HB7 := Lib.hid (HB6.out.trans (hb7.mono HB6.out.size))
  clear hb7 HC2 c4 c5 HW6 HR6 HB6
  have hone1 := Sh.bcells_one r.sum
  have hsz1 : (Sh.bcells r.sum).size = 32 := (Sh.bcells_size _).trans (sum32 r)
  simp only []
  iterate 4 go_step
  refine wpList_store_mid rfl 49 (.tmp 37) (.tmp 36) rfl (w.heap.size + 1) 36 (Sh.bcells r.sum) rfl rfl ?_ ?_ hone1 ?_
  · rw [hsz1]; exact HW7.out.midthere 36 32 (by rw [List.size_toArray, acells_len _ _ _ _ _ _ (sum32 l) rfl]; omega)
  · rw [hsz1]; exact info49
  have HW8 := Lib.hid (acells_rstore (r' := r.sum) HW7.out (sum32 l) rfl (sum32 r))
  have HB8 := Lib.hid (below_setCells w (w.heap.size + 1) (r.sum.map V8) 36 HB7.out (by omega))
  have HR8 := Lib.hid (HR7.out.setOther (b := w.heap.size + 1) (by omega) (r.sum.map V8) 36)
  show wpList _ _ _ _ _ (w7.setCells (w.heap.size + 1) 36 (r.sum.map V8))
  generalize w7.setCells (w.heap.size + 1) 36 (r.sum.map V8) = w8 at *
  clear HW7 HR7 HB7 hone1 hsz1
  go_upto_region 5 with (fail)
  have hlF : (acells (.slice A n c) (.slice A' n' c') (H : Int) N l.sum r.sum).length = 68 := acells_len _ _ _ _ _ _ (sum32 l) (sum32 r)
  have hzF : (acells (.slice A n c) (.slice A' n' c') (H : Int) N l.sum r.sum).toArray.size = 68 := by rw [List.size_toArray, hlF]
  refine wp_region_lit ?_
  refine wpList_load_mid rfl 64 (.tmp 3) rfl (w.heap.size + 1) 0 rfl _ _ HW8.out.range Tryd.underlying64 rfl (by rw [hlF]; exact info64) ?_
  refine wpList_store_mid rfl 64 (.tmp 2) (.tmp 38) rfl w.heap.size 0 (acells (.slice A n c) (.slice A' n' c') (H : Int) N l.sum r.sum).toArray rfl rfl ?_ ?_ (acells_one ..) ?_
  · rw [hzF]; exact HR8.out.there_
  · rw [hzF]; exact info64
  have HW9 := Lib.hid (HR8.out.setAll (vs := (acells (.slice A n c) (.slice A' n' c') (H : Int) N l.sum r.sum).toArray) (by rw [hzF]; rfl))
  have HB9 := Lib.hid (below_setCells w w.heap.size (acells (.slice A n c) (.slice A' n' c') (H : Int) N l.sum r.sum).toArray.toList 0 HB8.out (Nat.le_refl _))
  show wpList _ _ _ _ _ (w8.setCells w.heap.size 0 (acells (.slice A n c) (.slice A' n' c') (H : Int) N l.sum r.sum).toArray.toList)
  generalize w8.setCells w.heap.size 0 (acells (.slice A n c) (.slice A' n' c') (H : Int) N l.sum r.sum).toArray.toList = w9 at *
  go_wp2_with fail
  refine bodyPost_ret (results_cell1 Tryd.results32 _ _ _ ⟨w.heap.size, 0, none⟩ _ rfl (load_whole HW9.out 64 _ Tryd.underlying64 rfl (by rw [hzF]; exact info64))) rfl ⟨A, n, c, A', n', c', x, y, HH.out, by rw [HHN.out.1, HHN.out.2]; rfl, HB9.out⟩

set_option maxRecDepth 100000 in
set_option maxHeartbeats 1000000 in
theorem rsum_of (t : T) (b : Nat) (w : World) (HA : Calls Tryd.prog 32 #[ptr (some b)] (w.alloc (.cells (zb 32) 49)) (RApiPost t b (w.alloc (.cells (zb 32) 49)))) (hn : t.n ≤ 4294967296) (ht : Sh.Tab w 0) (hw : 1 < w.heap.size) : Calls Tryd.prog 24 #[ptr (some b)] w (RSumPost t w) := by
  have hz49 := zero49
  have hb1 : Below w.heap.size w (w.alloc (.cells (zb 32) 49)) := (Below.refl _ _).alloc (Nat.le_refl _) _
  have hs1 : (w.alloc (.cells (zb 32) 49)).heap.size = w.heap.size + 1 := size_alloc _ _
  have HW1 := Lib.hid (Whole.made w 49 (zb 32))
  have HB1 := Lib.hid hb1
  have HA' := Lib.hid HA
  have HT1 := Lib.hid (tab0_below ht hb1 hw)
  rw [ptr_some] at HA' ⊢
  clear hb1 ht HA
  go_enter Tryd.func24, Tryd.ntmps24
  go_wp2_with fail
  refine HA'.out.mono ?_
  generalize w.alloc (.cells (zb 32) 49) = w1 at *
  rintro e w2 ⟨A, n, c, A', n', c', x, y, hh, rfl, hb2⟩
  have hs2 := hb2.size
  have hk := (hh.key.below hb2 (Nat.le_refl _)).more hs2
  have hv := (hh.val.below hb2 (Nat.le_refl _)).more hs2
  have hT2 := tab0_below HT1.out hb2 (by omega)
  have HC : Hid (Calls Tryd.prog 53 #[.agg (acells (.slice A n c) (.slice A' n' c') t.h t.n t.lsum t.rsum).toArray] w2 (RSumPost t w2)) := Lib.hid (by
    cases t with
    | leaf k v => exact refHash_leaf A n c A' n' c' 1 z32 z32 k v w2 hk hv (by have := hh.kle; omega) (by have := hh.vle; omega) hT2 (by omega)
    | node l r =>
      have hz : (UInt64.ofNat (T.node l r).n).toNat = (T.node l r).n := by
        rw [UInt64.toNat_ofNat_of_lt']
        show _ < 18446744073709551616
        omega
      have h := refHash_inner (.slice A n c) (.slice A' n' c') ((T.node l r).h : Int) (UInt8.ofNat (T.node l r).h) (UInt64.ofNat (T.node l r).n) l.sum r.sum w2 (by have := h_ne l r; omega) (u8_len _) (sum32 l) (sum32 r) hT2 (by omega)
      rw [hz] at h
      exact h)
  have HW2 := Lib.hid (HW1.out.below hb2 (by omega))
  have HB2 := Lib.hid (HB1.out.trans (hb2.mono (by omega)))
  clear hk hv hT2 hh hb2 HA' HW1 HB1 HT1
  generalize (acells (.slice A n c) (.slice A' n' c') t.h t.n t.lsum t.rsum).toArray = X at *
  go_wp2_with fail
  refine HC.out.mono ?_
  rintro e w3 ⟨rfl, hb3⟩
  have HW3 := Lib.hid (HW2.out.below hb3 (by omega))
  have HB3 := Lib.hid (HB2.out.trans (hb3.mono HB2.out.size))
  clear hb3 HC HW2 HB2 hz49
  obtain ⟨Y, hY⟩ : ∃ Y, Sh.bcells t.sum = Y := ⟨_, rfl⟩
  have hsizeY : Y.size = 32 := by rw [← hY, Sh.bcells_size, sum32]
  have honeY : Y.all (·.oneCell') = true := by rw [← hY]; exact Sh.bcells_one _
  rw [hY]
  have HY := Lib.hid hY
  clear hY
  simp only []
  go_step
  refine wpList_store_mid rfl 49 (.tmp 2) (.tmp 8) rfl w.heap.size 0 Y rfl rfl ?_ ?_ honeY ?_
  · rw [hsizeY]; have := HW3.out.there_; rw [zb_size] at this; exact this
  · rw [hsizeY]; exact info49
  have HW8 := Lib.hid (HW3.out.setAll (vs := Y) (by rw [zb_size, hsizeY]))
  have HB8 := Lib.hid (below_setCells w w.heap.size Y.toList 0 HB3.out (Nat.le_refl _))
  generalize w3.setCells w.heap.size 0 Y.toList = w8 at *
  go_wp2_with fail
  refine bodyPost_ret (results_cell1 Tryd.results24 _ _ _ ⟨w.heap.size, 0, none⟩ _ rfl (load_whole HW8.out 49 _ Tryd.underlying49 rfl (by rw [hsizeY]; exact info49))) rfl ⟨by rw [HY.out], HB8.out⟩

theorem rsum_any : ∀ (t : T) (b : Nat) (w : World) (_ : RIn w w.heap.size t b) (_ : t.n ≤ 4294967296) (_ : Sh.Tab w 0) (_ : 1 < w.heap.size), Calls Tryd.prog 24 #[ptr (some b)] w (RSumPost t w)
  | .leaf k v, b, w, h, hn, ht, hw => rsum_of _ b w (rapi_leaf k v b _ (h.on ((Below.refl _ _).alloc (Nat.le_refl _) _))) hn ht hw
  | .node l r, b, w, h, hn, ht, hw => by
    have e : (T.node l r).n = l.n + r.n := rfl
    have hb : Below w.heap.size w (w.alloc (.cells (zb 32) 49)) := (Below.refl _ _).alloc (Nat.le_refl _) _
    exact rsum_of _ b w (rapi_node l r (fun x u hx hu1 hu2 => rsum_any l x u hx (by omega) hu1 hu2) (fun x u hx hu1 hu2 => rsum_any r x u hx (by omega) hu1 hu2) b _ (h.on hb) (tab0_below ht hb hw) (by rw [size_alloc]; omega)) hn ht hw
theorem rapi_any (t : T) (b : Nat) (w : World) (h : RIn w w.heap.size t b) (hn : t.n ≤ 4294967296) (ht : Sh.Tab w 0) (hw : 1 < w.heap.size) : Calls Tryd.prog 32 #[ptr (some b)] w (RApiPost t b w) := by
  cases t with
  | leaf k v => exact rapi_leaf k v b w h
  | node l r =>
    have e : (T.node l r).n = l.n + r.n := rfl
    exact rapi_node l r (fun x u hx hu1 hu2 => rsum_any l x u hx (by omega) hu1 hu2) (fun x u hx hu1 hu2 => rsum_any r x u hx (by omega) hu1 hu2) b w h ht hw
end Go.Proofs.YtbhmldoehgkhfaaDoor
