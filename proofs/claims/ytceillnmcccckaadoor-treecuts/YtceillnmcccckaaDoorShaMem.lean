/-
  A block of memory that is known cell by cell: small facts that the walks lean on; bytes and words as cells: no condition.
-/
import Derived.Test.YtceillnmcccckaaDoorProg
import Derived.Test.YtceillnmcccckaaDoorShaWords
import Derived.WalkKit
import Derived.WalkSpells
import Derived.Lib.Hide
import Derived.Deep.WholeRow
import Derived.Deep.MidRow
import Derived.Deep.Draws
namespace Go.Proofs.YtceillnmcccckaaDoor.Sh
open Go.RowKit

/-- Block g is just the cells cs, of element type t, and none of them is frozen. -/
def Whole (w : World) (g : Nat) (t : TypeId) (cs : Array Value) : Prop := w.heap[g]? = some (.cells cs t (0, 0))

section
variable {w w' : World} {g : Nat} {t : TypeId} {cs : Array Value}
theorem Whole.lt (h : Whole w g t cs) : g < w.heap.size := (Array.getElem?_eq_some_iff.1 h).1
theorem Whole.at_ (h : Whole w g t cs) {i : Nat} {v : Value} (hv : cs[i]? = some v) : w.cell? ⟨g, i, none⟩ = some v :=
  (cell_of_row w g i cs t (0, 0) h).trans hv
theorem Whole.free (h : Whole w g t cs) (i : Nat) : w.frozen? ⟨g, i, none⟩ = false := by
  have h' : w.heap[g]? = some (.cells cs t (0, 0)) := h
  simp [World.frozen?, h']
theorem Whole.made (w : World) (t : TypeId) (cs : Array Value) : Whole (w.alloc (.cells cs t)) w.heap.size t cs := heap_alloc_last w _
theorem Whole.drew (h : Whole w g t cs) : Whole w.drew g t cs := h
theorem Whole.drewN (h : Whole w g t cs) (n : Nat) : Whole (w.drewN n) g t cs := h
theorem Whole.alloc (h : Whole w g t cs) (o : Obj) : Whole (w.alloc o) g t cs := (Below.heap_alloc w o g h.lt).trans h
theorem Whole.set (h : Whole w g t cs) (i : Nat) (u : Value) : Whole (w.setCell ⟨g, i, none⟩ u) g t (cs.setIfInBounds i u) :=
  heap_setCell_same w g i cs t u h
theorem Whole.other (h : Whole w g t cs) {p : Addr} (hp : g ≠ p.block) (u : Value) : Whole (w.setCell p u) g t cs := (Below.heap_setCell w p u g hp).trans h
theorem Whole.range (h : Whole w g t cs) : w.rangeAt g 0 cs.toList := by
  have := World.rangeAt_of_block (w := w) (b := g) (C := cs) h 0 cs.size
  rwa [Nat.zero_add, Array.extract_size] at this
theorem Whole.there_ (h : Whole w g t cs) : w.there g 0 cs.size := fun j hj => by
  rw [Nat.zero_add]
  exact ⟨by rw [h.at_ (Array.getElem?_eq_getElem hj)]; rfl, h.free j⟩
theorem Whole.below {B : Nat} (h : Whole w g t cs) (hb : Below B w w') (hg : g < B) : Whole w' g t cs := (hb.block g hg).trans h
end

theorem results_cell1 {fn : Func} {p : Tmp} {ty : TypeId} (h : fn.results = #[.cell p ty]) (tmps : Array Value) (P : Program) (w : World) :
    (results fn tmps).run P w = ((asAddr (tmps.getD p undef)).run P w).andThen fun a w₁ => (loadVar ty a).run P w₁ := by
  simp only [results, h]
  simp [Sem.run_bind, Result.andThen]
theorem below_setCells {B : Nat} (w : World) (b : Nat) (vs : List Value) : ∀ (o : Nat) {w' : World}, Below B w w' → B ≤ b → Below B w (w'.setCells b o vs) := by
  induction vs with
  | nil => intro o w' h _; exact h
  | cons v r ih => intro o w' h hb; exact ih (o + 1) (h.setCell (p := ⟨b, o, none⟩) hb v) hb

/-- A whole array stored into the block that was made last. -/
theorem wpList_store_made {P : Program} {ops : Array Oper} {rest : List Oper} {op : Oper} {a : Act} {w : World} {Q : Exit → Act → World → Prop} (hgd : op.guard = none) (ty : TypeId) (x y : Operand) (ho : op.op = .store ty x y)
    (c c' : Array Value) (hx : a.eval x = .pointer (some ⟨w.heap.size, 0, none⟩)) (hy : a.eval y = .agg c')
    (hi : (P.info? ty).map (·.size) = some c'.size) (hc : c.size = c'.size) (h1 : c'.all (·.oneCell') = true)
    (h : wpList P ops Q rest (a.put op.dst undef) (w.alloc (.cells c' ty))) : wpList P ops Q (op :: rest) a (w.alloc (.cells c ty)) :=
  wpList_plain hgd fun _ hK => by
    unfold Oper.wp execOp
    simp only [ho, hx, hy, Instr.storeAt, Instr.sureAddr, Sem.run_bind, Sem.run_pure, Result.andThen_ok, run_storeVar_new w ty c c' hi hc h1]
    exact hK _ _ h

def bcells (bs : List UInt8) : Array Value := (bs.map fun b => Value.int .u8 b.toNat).toArray
def wcells (ws : List UInt32) : Array Value := (ws.map fun x => Value.int .u32 x.toNat).toArray

theorem bcells_size (bs : List UInt8) : (bcells bs).size = bs.length := by simp [bcells]
theorem wcells_size (ws : List UInt32) : (wcells ws).size = ws.length := by simp [wcells]
theorem bcells_at (bs : List UInt8) (i : Nat) (h : i < bs.length) : (bcells bs)[i]? = some (.int .u8 (bs.getD i 0).toNat) := by
  simp [bcells, List.getD_eq_getElem?_getD, h]
theorem wcells_at (ws : List UInt32) (i : Nat) (h : i < ws.length) : (wcells ws)[i]? = some (.int .u32 (ws.getD i 0).toNat) := by
  simp [wcells, List.getD_eq_getElem?_getD, h]
theorem wcells_set (ws : List UInt32) (i : Nat) (x : UInt32) : (wcells ws).setIfInBounds i (.int .u32 x.toNat) = wcells (ws.set i x) := by
  simp [wcells, List.map_set]
theorem bcells_set (bs : List UInt8) (i : Nat) (x : UInt8) : (bcells bs).setIfInBounds i (.int .u8 x.toNat) = bcells (bs.set i x) := by
  simp [bcells, List.map_set]
theorem wcells_one (ws : List UInt32) : (wcells ws).all (·.oneCell') = true := by
  simp [wcells, Value.oneCell']
theorem bcells_one (bs : List UInt8) : (bcells bs).all (·.oneCell') = true := by
  simp [bcells, Value.oneCell']

theorem info35 : (Tryd.prog.info? 105).map (·.size) = some 8 := by kernel_rfl
theorem info36 : (Tryd.prog.info? 106).map (·.size) = some 64 := by kernel_rfl
theorem info46 : (Tryd.prog.info? 100).map (·.size) = some 64 := by kernel_rfl

namespace Sha
theorem fill_length (b : List UInt8) (n : Nat) : (fill b n).length = 64 := by
  induction n with
  | zero => simp [fill]
  | succ n ih => simp [fill, ih]
end Sha
end Go.Proofs.YtceillnmcccckaaDoor.Sh
