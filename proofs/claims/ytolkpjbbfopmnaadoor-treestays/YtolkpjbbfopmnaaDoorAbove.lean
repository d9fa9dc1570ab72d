/-
  What above returns: a new inner node above two; conditions: both lie in memory, their leaves are no more than 4294967296, the table holds its words. It only makes memory of its own.
-/
import Derived.Test.YtolkpjbbfopmnaaDoorHashA
namespace Go.Proofs.YtolkpjbbfopmnaaDoor
open Go.RowKit
open Tr
variable {G : Nat → Prop}

section
variable {w : World} {g : Nat} {t : TypeId} {kv vv x y : Value} {h : Int} {z : Nat} {l r s : List UInt8}
theorem ncells_srange (hw : Whole w g t (ncells kv vv h z l r s x y).toArray) (hl : l.length = 32) (hr : r.length = 32) : w.rangeAt g 68 (s.map V8) := fun j v hv =>
  hw.at_ (by
    have hj := (List.getElem?_eq_some_iff.1 hv).1
    rw [List.getElem?_toArray, ncells, List.getElem?_append_right (by rw [acells_len _ _ _ _ _ _ hl hr]; omega), acells_len _ _ _ _ _ _ hl hr, Nat.add_sub_cancel_left, List.getElem?_append_left hj, hv])
theorem ncells_lstore {l' : List UInt8} (hw : Whole w g t (ncells kv vv h z l r s x y).toArray) (hl : l.length = 32) (hl' : l'.length = 32) : Whole (w.setCells g 4 (l'.map V8)) g t (ncells kv vv h z l' r s x y).toArray := by
  have e : ∀ l : List UInt8, ncells kv vv h z l r s x y = [kv, vv, .int .i64 h, .int .u64 z] ++ (l.map V8 ++ (r.map V8 ++ (s.map V8 ++ [x, y]))) := fun l => by simp [ncells, acells]
  rw [e] at hw ⊢
  exact Whole.setCells (l'.map V8) [kv, vv, .int .i64 h, .int .u64 z] (l.map V8) _ hw (by simp [hl, hl'])
theorem ncells_rstore {r' : List UInt8} (hw : Whole w g t (ncells kv vv h z l r s x y).toArray) (hl : l.length = 32) (hr : r.length = 32) (hr' : r'.length = 32) : Whole (w.setCells g 36 (r'.map V8)) g t (ncells kv vv h z l r' s x y).toArray := by
  have e : ∀ r : List UInt8, ncells kv vv h z l r s x y = ([kv, vv, .int .i64 h, .int .u64 z] ++ l.map V8) ++ (r.map V8 ++ (s.map V8 ++ [x, y])) := fun r => by simp [ncells, acells]
  rw [e] at hw ⊢
  have := Whole.setCells (r'.map V8) ([kv, vv, .int .i64 h, .int .u64 z] ++ l.map V8) (r.map V8) _ hw (by simp [hr, hr'])
  rwa [show ([kv, vv, .int .i64 h, .int .u64 z] ++ l.map V8).length = 36 by simp [hl]] at this
end
theorem wp_store_none {op : Oper} {a : Act} {w : World} {K : Act → World → Prop} {Q : Exit → Act → World → Prop} (hd : op.dst = none) (ty : TypeId) (x y : Operand) (ho : op.op = .store ty x y)
    (b o : Nat) (cells : Array Value) (hx : a.eval x = .pointer (some ⟨b, o, none⟩)) (hy : a.eval y = .agg cells)
    (ht : w.there b o cells.size) (hi : (Tryd.prog.info? ty).map (·.size) = some cells.size) (h1 : cells.all (·.oneCell') = true)
    (h : K a (w.setCells b o cells.toList)) : op.wp Tryd.prog a w K Q :=
  wp_store_mid ty x y ho b o cells hx hy ht hi h1 (by rw [hd]; exact h)
theorem sumsize (t : T) : (t.sum.map V8).toArray.size = 32 := by rw [List.size_toArray, List.length_map, sum32]
/-- What is read of a node when one is made above it. -/
theorem above_reads {w w' : World} {t : T} {b : Nat} (h : NIn G w w.heap.size t b) (hb : Below w.heap.size w w') :
    w'.cell? ⟨b, 2, none⟩ = some (.int .i64 t.h) ∧ w'.cell? ⟨b, 3, none⟩ = some (.int .u64 t.n) ∧ w'.rangeAt b 68 (t.sum.map V8) := by
  obtain ⟨A, n, c, A', n', c', x, y, hh⟩ := (h.below hb (Nat.le_refl _)).has
  obtain ⟨_, _, c2, c3, _, _⟩ := hh.cells
  exact ⟨c2, c3, ncells_srange hh.whole (lsum32 t) (rsum32 t)⟩
theorem i64_node (l r : T) (hn : l.n + r.n ≤ 4294967296) : IntKind.i64.wrap (1 + if l.h < r.h then (r.h : Int) else (l.h : Int)) = ((T.node l r).h : Int) := by
  have h1 := T.h_lt l
  have h2 := T.h_lt r
  rw [IntWalk.i64_in _ (by split <;> omega)]
  show _ = ((1 + max l.h r.h : Nat) : Int)
  split <;> omega
theorem u64_node (l r : T) (hn : l.n + r.n ≤ 4294967296) : IntKind.u64.wrap ((l.n : Int) + (r.n : Int)) = ((T.node l r).n : Int) := by
  rw [IntWalk.u64_in _ (by omega)]
  show _ = ((l.n + r.n : Nat) : Int)
  omega

set_option maxRecDepth 100000 in
set_option maxHeartbeats 1000000 in
theorem above_any (l r : T) (bl br : Nat) (w : World) (hl : NIn G w w.heap.size l bl) (hr : NIn G w w.heap.size r br) (hn : l.n + r.n ≤ 4294967296) (ht : Sh.Tab w 1) (hw : Room G w) :
    Calls Tryd.prog 83 #[ptr (some bl), ptr (some br)] w (NodePost G (.node l r) w) := by
  have hw1 := hw.1
  have HG := Lib.hid hw
  clear hw
  have hz88 := zero88
  have HL := Lib.hid hl
  have HR := Lib.hid hr
  have HT := Lib.hid ht
  have hll := hl.lt
  have hrl := hr.lt
  clear hl hr ht
  rw [ptr_some, ptr_some]
  go_enter Tryd.func83, Tryd.ntmps83
  go_upto_region 2 with (fail)
  have e88 : (z88.setIfInBounds 100 (Value.pointer (some ⟨bl, 0, none⟩))).setIfInBounds 101 (Value.pointer (some ⟨br, 0, none⟩))
      = (ncells (.slice none 0 0) (.slice none 0 0) 0 0 z32 z32 z32 (ptr (some bl)) (ptr (some br))).toArray := by kernel_rfl
  rw [e88]
  clear hz88 e88
  have hw3 := Whole.made w 82 (ncells (.slice none 0 0) (.slice none 0 0) 0 0 z32 z32 z32 (ptr (some bl)) (ptr (some br))).toArray
  have hb3 : Below w.heap.size w (w.alloc (.cells (ncells (.slice none 0 0) (.slice none 0 0) 0 0 z32 z32 z32 (ptr (some bl)) (ptr (some br))).toArray 82)) := (Below.refl _ _).alloc (Nat.le_refl _) _
  generalize hX : (ncells (.slice none 0 0) (.slice none 0 0) 0 0 z32 z32 z32 (ptr (some bl)) (ptr (some br))).toArray = X at *
  generalize w.alloc (.cells X 82) = w3 at *
  have HX := Lib.hid hX
  have hs3 : w.heap.size < w3.heap.size := hw3.lt
  have HW3 := Lib.hid hw3
  have HB3 := Lib.hid hb3
  have HLE := Lib.hid (least_any r br w.heap.size w3 (HR.out.below hb3 (Nat.le_refl _)))
  rw [ptr_some] at HLE
  clear hX hw3 hb3
  have f0 := HW3.out.free 0
  have k0 : ∃ u, w3.cell? ⟨w.heap.size, 0, none⟩ = some u := ⟨.slice none 0 0, HW3.out.at_ (by rw [← HX.out]; rfl)⟩
  obtain ⟨u0, k0⟩ := k0
  go_wp2_with fail
  refine HLE.out.mono ?_
  rintro e w3' ⟨A, n, c, rfl, hrd, hnc, hn96, hgA, rfl⟩
  have HGA := Lib.hid hgA
  clear hgA
  have HRD3 := Lib.hid hrd
  clear hrd HLE
  go_upto_region 3 with (fail)
  have hw4 : Whole (w3.setCell ⟨w.heap.size, 0, none⟩ (.slice A n c)) w.heap.size 82 (ncells (.slice A n c) (.slice none 0 0) 0 0 z32 z32 z32 (ptr (some bl)) (ptr (some br))).toArray := by
    have := HW3.out.set 0 (.slice A n c)
    rw [← HX.out] at this
    exact this
  have hb4 : Below w.heap.size w (w3.setCell ⟨w.heap.size, 0, none⟩ (.slice A n c)) := HB3.out.setCell (Nat.le_refl _) _
  have hrd4 : Rd (w3.setCell ⟨w.heap.size, 0, none⟩ (.slice A n c)) w.heap.size A n r.least := HRD3.out.below ((Below.refl w.heap.size w3).setCell (p := ⟨w.heap.size, 0, none⟩) (Nat.le_refl _) _) (Nat.le_refl _)
  generalize w3.setCell ⟨w.heap.size, 0, none⟩ (.slice A n c) = w4 at *
  have HW4 := Lib.hid hw4
  have HB4 := Lib.hid hb4
  have HRD4 := Lib.hid hrd4
  clear hw4 hb4 hrd4 HW3 HB3 HRD3 f0 k0 hs3
  obtain ⟨l2, -, -⟩ := above_reads HL.out HB4.out.drew
  obtain ⟨r2, -, -⟩ := above_reads HR.out HB4.out.drew
  have hmx := i64_node l r hn
  have hS0 : w4.drew.cell? ⟨bl, 2, none⟩ = some (.int .i64 l.h) ∧ w4.drew.cell? ⟨br, 2, none⟩ = some (.int .i64 r.h) := ⟨l2, r2⟩
  refine wp_region_held_drew (S := fun w' => w'.cell? ⟨bl, 2, none⟩ = some (.int .i64 l.h) ∧ w'.cell? ⟨br, 2, none⟩ = some (.int .i64 r.h)) (by kernel_rfl) hS0 (fun hHeld => ?_)
  clear l2 r2
  refine wpAnyH_take (i := 0) (oi := { dst := some 16, op := Op.move (Operand.tmp 5), type := 79, pos := "node.go:27", after := #[], guard := none }) (v := ?_) rfl (by kernel_rfl) (by kernel_rfl) (by kernel_rfl) (fun _ _ _ h => h) (Or.inl ⟨by rfl, ?_⟩) (by assumption) ?_
  rotate_left
  · first | (intro w hSw; (try dsimp only at hSw); go_simp; done) | (intro w hSw; (try dsimp only at hSw); go_simp; with_reducible rfl)
  simp only [Act.put, List.setIfInBounds_toArray, List.set_cons_zero, List.set_cons_succ]
  refine wpAnyH_take (i := 1) (oi := { dst := some 17, op := Op.move (Operand.tmp 0), type := 79, pos := "node.go:27", after := #[], guard := none }) (v := ?_) rfl (by kernel_rfl) (by kernel_rfl) (by kernel_rfl) (fun _ _ _ h => h) (Or.inl ⟨by rfl, ?_⟩) (by assumption) ?_
  rotate_left
  · first | (intro w hSw; (try dsimp only at hSw); go_simp; done) | (intro w hSw; (try dsimp only at hSw); go_simp; with_reducible rfl)
  simp only [Act.put, List.setIfInBounds_toArray, List.set_cons_zero, List.set_cons_succ]
  refine wpAnyH_take (i := 2) (oi := { dst := some 18, op := Op.nilCheck (Operand.tmp 17), type := 0, pos := "node.go:27", after := #[{ on := 1, ground := Ground.data }], guard := none }) (v := ?_) rfl (by kernel_rfl) (by kernel_rfl) (by kernel_rfl) (fun _ _ _ h => h) (Or.inl ⟨by rfl, ?_⟩) (by assumption) ?_
  rotate_left
  · first | (intro w hSw; (try dsimp only at hSw); go_simp; done) | (intro w hSw; (try dsimp only at hSw); go_simp; with_reducible rfl)
  simp only [Act.put, List.setIfInBounds_toArray, List.set_cons_zero, List.set_cons_succ]
  refine wpAnyH_take (i := 3) (oi := { dst := some 19, op := Op.fieldAddr 82 (Operand.tmp 18) 0, type := 0, pos := "node.go:27", after := #[{ on := 2, ground := Ground.data }], guard := none }) (v := ?_) rfl (by kernel_rfl) (by kernel_rfl) (by kernel_rfl) (fun _ _ _ h => h) (Or.inl ⟨by rfl, ?_⟩) (by assumption) ?_
  rotate_left
  · first | (intro w hSw; (try dsimp only at hSw); go_simp; done) | (intro w hSw; (try dsimp only at hSw); go_simp; with_reducible rfl)
  simp only [Act.put, List.setIfInBounds_toArray, List.set_cons_zero, List.set_cons_succ]
  refine wpAnyH_take (i := 4) (oi := { dst := some 20, op := Op.fieldAddr 47 (Operand.tmp 19) 2, type := 0, pos := "node.go:27", after := #[{ on := 3, ground := Ground.data }], guard := none }) (v := ?_) rfl (by kernel_rfl) (by kernel_rfl) (by kernel_rfl) (fun _ _ _ h => h) (Or.inl ⟨by rfl, ?_⟩) (by assumption) ?_
  rotate_left
  · first | (intro w hSw; (try dsimp only at hSw); go_simp; done) | (intro w hSw; (try dsimp only at hSw); go_simp; with_reducible rfl)
  simp only [Act.put, List.setIfInBounds_toArray, List.set_cons_zero, List.set_cons_succ]
  refine wpAnyH_take (i := 5) (oi := { dst := some 21, op := Op.load 3 (Operand.tmp 20), type := 3, pos := "node.go:27", after := #[{ on := 4, ground := Ground.data }], guard := none }) (v := ?_) rfl (by kernel_rfl) (by kernel_rfl) (by kernel_rfl) (fun _ _ _ h => h) (Or.inl ⟨by rfl, ?_⟩) (by assumption) ?_
  rotate_left
  · first | (intro w hSw; (try dsimp only at hSw); go_simp; done) | (intro w hSw; (try dsimp only at hSw); go_simp; with_reducible rfl)
  simp only [Act.put, List.setIfInBounds_toArray, List.set_cons_zero, List.set_cons_succ]
  refine wpAnyH_take (i := 6) (oi := { dst := some 22, op := Op.move (Operand.tmp 1), type := 79, pos := "node.go:27", after := #[], guard := none }) (v := ?_) rfl (by kernel_rfl) (by kernel_rfl) (by kernel_rfl) (fun _ _ _ h => h) (Or.inl ⟨by rfl, ?_⟩) (by assumption) ?_
  rotate_left
  · first | (intro w hSw; (try dsimp only at hSw); go_simp; done) | (intro w hSw; (try dsimp only at hSw); go_simp; with_reducible rfl)
  simp only [Act.put, List.setIfInBounds_toArray, List.set_cons_zero, List.set_cons_succ]
  refine wpAnyH_take (i := 7) (oi := { dst := some 23, op := Op.nilCheck (Operand.tmp 22), type := 0, pos := "node.go:27", after := #[{ on := 6, ground := Ground.data }], guard := none }) (v := ?_) rfl (by kernel_rfl) (by kernel_rfl) (by kernel_rfl) (fun _ _ _ h => h) (Or.inl ⟨by rfl, ?_⟩) (by assumption) ?_
  rotate_left
  · first | (intro w hSw; (try dsimp only at hSw); go_simp; done) | (intro w hSw; (try dsimp only at hSw); go_simp; with_reducible rfl)
  simp only [Act.put, List.setIfInBounds_toArray, List.set_cons_zero, List.set_cons_succ]
  refine wpAnyH_take (i := 8) (oi := { dst := some 24, op := Op.fieldAddr 82 (Operand.tmp 23) 0, type := 0, pos := "node.go:27", after := #[{ on := 7, ground := Ground.data }], guard := none }) (v := ?_) rfl (by kernel_rfl) (by kernel_rfl) (by kernel_rfl) (fun _ _ _ h => h) (Or.inl ⟨by rfl, ?_⟩) (by assumption) ?_
  rotate_left
  · first | (intro w hSw; (try dsimp only at hSw); go_simp; done) | (intro w hSw; (try dsimp only at hSw); go_simp; with_reducible rfl)
  simp only [Act.put, List.setIfInBounds_toArray, List.set_cons_zero, List.set_cons_succ]
  refine wpAnyH_take (i := 9) (oi := { dst := some 25, op := Op.fieldAddr 47 (Operand.tmp 24) 2, type := 0, pos := "node.go:27", after := #[{ on := 8, ground := Ground.data }], guard := none }) (v := ?_) rfl (by kernel_rfl) (by kernel_rfl) (by kernel_rfl) (fun _ _ _ h => h) (Or.inl ⟨by rfl, ?_⟩) (by assumption) ?_
  rotate_left
  · first | (intro w hSw; (try dsimp only at hSw); go_simp; done) | (intro w hSw; (try dsimp only at hSw); go_simp; with_reducible rfl)
  simp only [Act.put, List.setIfInBounds_toArray, List.set_cons_zero, List.set_cons_succ]
  refine wpAnyH_take (i := 10) (oi := { dst := some 26, op := Op.load 3 (Operand.tmp 25), type := 3, pos := "node.go:27", after := #[{ on := 9, ground := Ground.data }], guard := none }) (v := ?_) rfl (by kernel_rfl) (by kernel_rfl) (by kernel_rfl) (fun _ _ _ h => h) (Or.inl ⟨by rfl, ?_⟩) (by assumption) ?_
  rotate_left
  · first | (intro w hSw; (try dsimp only at hSw); go_simp; done) | (intro w hSw; (try dsimp only at hSw); go_simp; with_reducible rfl)
  simp only [Act.put, List.setIfInBounds_toArray, List.set_cons_zero, List.set_cons_succ]
  refine wpAnyH_take (i := 11) (oi := { dst := some 27, op := Op.call { callee := Callee.builtin Builtin.max, args := #[Operand.tmp 21, Operand.tmp 26], argTypes := #[3, 3] }, type := 3, pos := "node.go:27", after := #[{ on := 5, ground := Ground.data }, { on := 10, ground := Ground.data }], guard := none }) (v := ?_) rfl (by kernel_rfl) (by kernel_rfl) (by kernel_rfl) (fun _ _ _ h => h) (Or.inl ⟨by rfl, ?_⟩) (by assumption) ?_
  rotate_left
  · first | (intro w hSw; (try dsimp only at hSw); go_simp; done) | (intro w hSw; (try dsimp only at hSw); go_simp; with_reducible rfl)
  simp only [Act.put, List.setIfInBounds_toArray, List.set_cons_zero, List.set_cons_succ]
  refine wpAnyH_take (i := 12) (oi := { dst := some 28, op := Op.binOp BinOp.add 3 (Operand.const (Value.int IntKind.i64 1)) (Operand.tmp 27) 3, type := 3, pos := "node.go:27", after := #[{ on := 11, ground := Ground.data }], guard := none }) (v := ?_) rfl (by kernel_rfl) (by kernel_rfl) (by kernel_rfl) (fun _ _ _ h => h) (Or.inl ⟨by rfl, ?_⟩) (by assumption) ?_
  rotate_left
  · first | (intro w hSw; (try dsimp only at hSw); go_simp; done) | (intro w hSw; (try dsimp only at hSw); go_simp; with_reducible rfl)
  simp only [Act.put, List.setIfInBounds_toArray, List.set_cons_zero, List.set_cons_succ]
  refine wpAnyH_take (i := 13) (oi := { dst := some 29, op := Op.nilCheck (Operand.tmp 16), type := 0, pos := "node.go:27", after := #[{ on := 0, ground := Ground.data }, { on := 0, ground := Ground.phase }, { on := 1, ground := Ground.phase }, { on := 2, ground := Ground.phase }, { on := 3, ground := Ground.phase }, { on := 4, ground := Ground.phase }, { on := 5, ground := Ground.phase }, { on := 6, ground := Ground.phase }, { on := 7, ground := Ground.phase }, { on := 8, ground := Ground.phase }, { on := 9, ground := Ground.phase }, { on := 10, ground := Ground.phase }, { on := 11, ground := Ground.phase }, { on := 12, ground := Ground.phase }], guard := none }) (v := ?_) rfl (by kernel_rfl) (by kernel_rfl) (by kernel_rfl) (fun _ _ _ h => h) (Or.inl ⟨by rfl, ?_⟩) (by assumption) ?_
  rotate_left
  · first | (intro w hSw; (try dsimp only at hSw); go_simp; done) | (intro w hSw; (try dsimp only at hSw); go_simp; with_reducible rfl)
  simp only [Act.put, List.setIfInBounds_toArray, List.set_cons_zero, List.set_cons_succ]
  refine wpAnyH_take (i := 14) (oi := { dst := some 30, op := Op.fieldAddr 82 (Operand.tmp 29) 0, type := 0, pos := "node.go:27", after := #[{ on := 13, ground := Ground.data }, { on := 0, ground := Ground.phase }, { on := 1, ground := Ground.phase }, { on := 2, ground := Ground.phase }, { on := 3, ground := Ground.phase }, { on := 4, ground := Ground.phase }, { on := 5, ground := Ground.phase }, { on := 6, ground := Ground.phase }, { on := 7, ground := Ground.phase }, { on := 8, ground := Ground.phase }, { on := 9, ground := Ground.phase }, { on := 10, ground := Ground.phase }, { on := 11, ground := Ground.phase }, { on := 12, ground := Ground.phase }], guard := none }) (v := ?_) rfl (by kernel_rfl) (by kernel_rfl) (by kernel_rfl) (fun _ _ _ h => h) (Or.inl ⟨by rfl, ?_⟩) (by assumption) ?_
  rotate_left
  · first | (intro w hSw; (try dsimp only at hSw); go_simp; done) | (intro w hSw; (try dsimp only at hSw); go_simp; with_reducible rfl)
  simp only [Act.put, List.setIfInBounds_toArray, List.set_cons_zero, List.set_cons_succ]
  refine wpAnyH_take (i := 15) (oi := { dst := some 31, op := Op.fieldAddr 47 (Operand.tmp 30) 2, type := 0, pos := "node.go:27", after := #[{ on := 14, ground := Ground.data }, { on := 0, ground := Ground.phase }, { on := 1, ground := Ground.phase }, { on := 2, ground := Ground.phase }, { on := 3, ground := Ground.phase }, { on := 4, ground := Ground.phase }, { on := 5, ground := Ground.phase }, { on := 6, ground := Ground.phase }, { on := 7, ground := Ground.phase }, { on := 8, ground := Ground.phase }, { on := 9, ground := Ground.phase }, { on := 10, ground := Ground.phase }, { on := 11, ground := Ground.phase }, { on := 12, ground := Ground.phase }], guard := none }) (v := ?_) rfl (by kernel_rfl) (by kernel_rfl) (by kernel_rfl) (fun _ _ _ h => h) (Or.inl ⟨by rfl, ?_⟩) (by assumption) ?_
  rotate_left
  · first | (intro w hSw; (try dsimp only at hSw); go_simp; done) | (intro w hSw; (try dsimp only at hSw); go_simp; with_reducible rfl)
  simp only [Act.put, List.setIfInBounds_toArray, List.set_cons_zero, List.set_cons_succ]
  clear hmx hS0 hHeld
  generalize (if l.h < r.h then (r.h : Int) else (l.h : Int)) = M at *
  have hwd : Whole w4.drew w.heap.size 82 _ := HW4.out
  have hbd := HB4.out.drew
  have hrdd := HRD4.out.drewN 1
  rw [show w4.drewN 1 = w4.drew from rfl] at hrdd
  generalize w4.drew = w4d at *
  have ff := hwd.free 2
  have kk : ∃ u, w4d.cell? ⟨w.heap.size, 2, none⟩ = some u := ⟨_, hwd.at_ rfl⟩
  obtain ⟨u0, kk⟩ := kk
  have hw5 : Whole (w4d.setCell ⟨w.heap.size, 2, none⟩ (.int .i64 (T.node l r).h)) w.heap.size 82 (ncells (.slice A n c) (.slice none 0 0) (T.node l r).h 0 z32 z32 z32 (ptr (some bl)) (ptr (some br))).toArray := hwd.set 2 (.int .i64 (T.node l r).h)
  have hb5 : Below w.heap.size w (w4d.setCell ⟨w.heap.size, 2, none⟩ (.int .i64 (T.node l r).h)) := hbd.setCell (Nat.le_refl _) _
  have hrd5 : Rd (w4d.setCell ⟨w.heap.size, 2, none⟩ (.int .i64 (T.node l r).h)) w.heap.size A n r.least := hrdd.below ((Below.refl w.heap.size w4d).setCell (p := ⟨w.heap.size, 2, none⟩) (Nat.le_refl _) _) (Nat.le_refl _)
  have hS1 : (w4d.setCell ⟨w.heap.size, 2, none⟩ (.int .i64 (T.node l r).h)).cell? ⟨bl, 2, none⟩ = some (.int .i64 l.h) ∧ (w4d.setCell ⟨w.heap.size, 2, none⟩ (.int .i64 (T.node l r).h)).cell? ⟨br, 2, none⟩ = some (.int .i64 r.h) := by
    obtain ⟨l2, -, -⟩ := above_reads HL.out hb5
    obtain ⟨r2, -, -⟩ := above_reads HR.out hb5
    exact ⟨l2, r2⟩
  have HW5 := Lib.hid hw5
  have HB5 := Lib.hid hb5
  have HRD5 := Lib.hid hrd5
  clear hw5 hb5 hrd5 HW4 HB4 HRD4 hwd hbd hrdd
  refine wpAnyH_ready (rs := [16]) (by kernel_rfl) (by simp) ?_
  refine AllReadyH.cons rfl (fun K hK => ?_) AllReadyH.nil
  go_simp
  refine hK.out _ _ hS1 (fun _ => ?_)
  clear hK K hS1 ff kk
  generalize w4d.setCell ⟨w.heap.size, 2, none⟩ (.int .i64 (T.node l r).h) = w5 at *
  refine wpAnyH_done (by kernel_rfl) ?_ _
  go_upto_region 4 with (fail)
  obtain ⟨-, l2, -⟩ := above_reads HL.out HB5.out.drew
  obtain ⟨-, r2, -⟩ := above_reads HR.out HB5.out.drew
  have hmx := u64_node l r hn
  have hS0 : w5.drew.cell? ⟨bl, 3, none⟩ = some (.int .u64 l.n) ∧ w5.drew.cell? ⟨br, 3, none⟩ = some (.int .u64 r.n) := ⟨l2, r2⟩
  refine wp_region_held_drew (S := fun w' => w'.cell? ⟨bl, 3, none⟩ = some (.int .u64 l.n) ∧ w'.cell? ⟨br, 3, none⟩ = some (.int .u64 r.n)) (by kernel_rfl) hS0 (fun hHeld => ?_)
  clear l2 r2
  refine wpAnyH_take (i := 0) (oi := { dst := some 32, op := Op.move (Operand.tmp 5), type := 79, pos := "node.go:28", after := #[], guard := none }) (v := ?_) rfl (by kernel_rfl) (by kernel_rfl) (by kernel_rfl) (fun _ _ _ h => h) (Or.inl ⟨by rfl, ?_⟩) (by assumption) ?_
  rotate_left
  · first | (intro w hSw; (try dsimp only at hSw); go_simp; done) | (intro w hSw; (try dsimp only at hSw); go_simp; with_reducible rfl)
  simp only [Act.put, List.setIfInBounds_toArray, List.set_cons_zero, List.set_cons_succ]
  refine wpAnyH_take (i := 1) (oi := { dst := some 33, op := Op.move (Operand.tmp 0), type := 79, pos := "node.go:28", after := #[], guard := none }) (v := ?_) rfl (by kernel_rfl) (by kernel_rfl) (by kernel_rfl) (fun _ _ _ h => h) (Or.inl ⟨by rfl, ?_⟩) (by assumption) ?_
  rotate_left
  · first | (intro w hSw; (try dsimp only at hSw); go_simp; done) | (intro w hSw; (try dsimp only at hSw); go_simp; with_reducible rfl)
  simp only [Act.put, List.setIfInBounds_toArray, List.set_cons_zero, List.set_cons_succ]
  refine wpAnyH_take (i := 2) (oi := { dst := some 34, op := Op.nilCheck (Operand.tmp 33), type := 0, pos := "node.go:28", after := #[{ on := 1, ground := Ground.data }], guard := none }) (v := ?_) rfl (by kernel_rfl) (by kernel_rfl) (by kernel_rfl) (fun _ _ _ h => h) (Or.inl ⟨by rfl, ?_⟩) (by assumption) ?_
  rotate_left
  · first | (intro w hSw; (try dsimp only at hSw); go_simp; done) | (intro w hSw; (try dsimp only at hSw); go_simp; with_reducible rfl)
  simp only [Act.put, List.setIfInBounds_toArray, List.set_cons_zero, List.set_cons_succ]
  refine wpAnyH_take (i := 3) (oi := { dst := some 35, op := Op.fieldAddr 82 (Operand.tmp 34) 0, type := 0, pos := "node.go:28", after := #[{ on := 2, ground := Ground.data }], guard := none }) (v := ?_) rfl (by kernel_rfl) (by kernel_rfl) (by kernel_rfl) (fun _ _ _ h => h) (Or.inl ⟨by rfl, ?_⟩) (by assumption) ?_
  rotate_left
  · first | (intro w hSw; (try dsimp only at hSw); go_simp; done) | (intro w hSw; (try dsimp only at hSw); go_simp; with_reducible rfl)
  simp only [Act.put, List.setIfInBounds_toArray, List.set_cons_zero, List.set_cons_succ]
  refine wpAnyH_take (i := 4) (oi := { dst := some 36, op := Op.fieldAddr 47 (Operand.tmp 35) 3, type := 0, pos := "node.go:28", after := #[{ on := 3, ground := Ground.data }], guard := none }) (v := ?_) rfl (by kernel_rfl) (by kernel_rfl) (by kernel_rfl) (fun _ _ _ h => h) (Or.inl ⟨by rfl, ?_⟩) (by assumption) ?_
  rotate_left
  · first | (intro w hSw; (try dsimp only at hSw); go_simp; done) | (intro w hSw; (try dsimp only at hSw); go_simp; with_reducible rfl)
  simp only [Act.put, List.setIfInBounds_toArray, List.set_cons_zero, List.set_cons_succ]
  refine wpAnyH_take (i := 5) (oi := { dst := some 37, op := Op.load 45 (Operand.tmp 36), type := 45, pos := "node.go:28", after := #[{ on := 4, ground := Ground.data }], guard := none }) (v := ?_) rfl (by kernel_rfl) (by kernel_rfl) (by kernel_rfl) (fun _ _ _ h => h) (Or.inl ⟨by rfl, ?_⟩) (by assumption) ?_
  rotate_left
  · first | (intro w hSw; (try dsimp only at hSw); go_simp; done) | (intro w hSw; (try dsimp only at hSw); go_simp; with_reducible rfl)
  simp only [Act.put, List.setIfInBounds_toArray, List.set_cons_zero, List.set_cons_succ]
  refine wpAnyH_take (i := 6) (oi := { dst := some 38, op := Op.move (Operand.tmp 1), type := 79, pos := "node.go:28", after := #[], guard := none }) (v := ?_) rfl (by kernel_rfl) (by kernel_rfl) (by kernel_rfl) (fun _ _ _ h => h) (Or.inl ⟨by rfl, ?_⟩) (by assumption) ?_
  rotate_left
  · first | (intro w hSw; (try dsimp only at hSw); go_simp; done) | (intro w hSw; (try dsimp only at hSw); go_simp; with_reducible rfl)
  simp only [Act.put, List.setIfInBounds_toArray, List.set_cons_zero, List.set_cons_succ]
  refine wpAnyH_take (i := 7) (oi := { dst := some 39, op := Op.nilCheck (Operand.tmp 38), type := 0, pos := "node.go:28", after := #[{ on := 6, ground := Ground.data }], guard := none }) (v := ?_) rfl (by kernel_rfl) (by kernel_rfl) (by kernel_rfl) (fun _ _ _ h => h) (Or.inl ⟨by rfl, ?_⟩) (by assumption) ?_
  rotate_left
  · first | (intro w hSw; (try dsimp only at hSw); go_simp; done) | (intro w hSw; (try dsimp only at hSw); go_simp; with_reducible rfl)
  simp only [Act.put, List.setIfInBounds_toArray, List.set_cons_zero, List.set_cons_succ]
  refine wpAnyH_take (i := 8) (oi := { dst := some 40, op := Op.fieldAddr 82 (Operand.tmp 39) 0, type := 0, pos := "node.go:28", after := #[{ on := 7, ground := Ground.data }], guard := none }) (v := ?_) rfl (by kernel_rfl) (by kernel_rfl) (by kernel_rfl) (fun _ _ _ h => h) (Or.inl ⟨by rfl, ?_⟩) (by assumption) ?_
  rotate_left
  · first | (intro w hSw; (try dsimp only at hSw); go_simp; done) | (intro w hSw; (try dsimp only at hSw); go_simp; with_reducible rfl)
  simp only [Act.put, List.setIfInBounds_toArray, List.set_cons_zero, List.set_cons_succ]
  refine wpAnyH_take (i := 9) (oi := { dst := some 41, op := Op.fieldAddr 47 (Operand.tmp 40) 3, type := 0, pos := "node.go:28", after := #[{ on := 8, ground := Ground.data }], guard := none }) (v := ?_) rfl (by kernel_rfl) (by kernel_rfl) (by kernel_rfl) (fun _ _ _ h => h) (Or.inl ⟨by rfl, ?_⟩) (by assumption) ?_
  rotate_left
  · first | (intro w hSw; (try dsimp only at hSw); go_simp; done) | (intro w hSw; (try dsimp only at hSw); go_simp; with_reducible rfl)
  simp only [Act.put, List.setIfInBounds_toArray, List.set_cons_zero, List.set_cons_succ]
  refine wpAnyH_take (i := 10) (oi := { dst := some 42, op := Op.load 45 (Operand.tmp 41), type := 45, pos := "node.go:28", after := #[{ on := 9, ground := Ground.data }], guard := none }) (v := ?_) rfl (by kernel_rfl) (by kernel_rfl) (by kernel_rfl) (fun _ _ _ h => h) (Or.inl ⟨by rfl, ?_⟩) (by assumption) ?_
  rotate_left
  · first | (intro w hSw; (try dsimp only at hSw); go_simp; done) | (intro w hSw; (try dsimp only at hSw); go_simp; with_reducible rfl)
  simp only [Act.put, List.setIfInBounds_toArray, List.set_cons_zero, List.set_cons_succ]
  refine wpAnyH_take (i := 11) (oi := { dst := some 43, op := Op.binOp BinOp.add 45 (Operand.tmp 37) (Operand.tmp 42) 45, type := 45, pos := "node.go:28", after := #[{ on := 5, ground := Ground.data }, { on := 10, ground := Ground.data }], guard := none }) (v := ?_) rfl (by kernel_rfl) (by kernel_rfl) (by kernel_rfl) (fun _ _ _ h => h) (Or.inl ⟨by rfl, ?_⟩) (by assumption) ?_
  rotate_left
  · first | (intro w hSw; (try dsimp only at hSw); go_simp; done) | (intro w hSw; (try dsimp only at hSw); go_simp; with_reducible rfl)
  simp only [Act.put, List.setIfInBounds_toArray, List.set_cons_zero, List.set_cons_succ]
  refine wpAnyH_take (i := 12) (oi := { dst := some 44, op := Op.nilCheck (Operand.tmp 32), type := 0, pos := "node.go:28", after := #[{ on := 0, ground := Ground.data }, { on := 0, ground := Ground.phase }, { on := 1, ground := Ground.phase }, { on := 2, ground := Ground.phase }, { on := 3, ground := Ground.phase }, { on := 4, ground := Ground.phase }, { on := 5, ground := Ground.phase }, { on := 6, ground := Ground.phase }, { on := 7, ground := Ground.phase }, { on := 8, ground := Ground.phase }, { on := 9, ground := Ground.phase }, { on := 10, ground := Ground.phase }, { on := 11, ground := Ground.phase }], guard := none }) (v := ?_) rfl (by kernel_rfl) (by kernel_rfl) (by kernel_rfl) (fun _ _ _ h => h) (Or.inl ⟨by rfl, ?_⟩) (by assumption) ?_
  rotate_left
  · first | (intro w hSw; (try dsimp only at hSw); go_simp; done) | (intro w hSw; (try dsimp only at hSw); go_simp; with_reducible rfl)
  simp only [Act.put, List.setIfInBounds_toArray, List.set_cons_zero, List.set_cons_succ]
  refine wpAnyH_take (i := 13) (oi := { dst := some 45, op := Op.fieldAddr 82 (Operand.tmp 44) 0, type := 0, pos := "node.go:28", after := #[{ on := 12, ground := Ground.data }, { on := 0, ground := Ground.phase }, { on := 1, ground := Ground.phase }, { on := 2, ground := Ground.phase }, { on := 3, ground := Ground.phase }, { on := 4, ground := Ground.phase }, { on := 5, ground := Ground.phase }, { on := 6, ground := Ground.phase }, { on := 7, ground := Ground.phase }, { on := 8, ground := Ground.phase }, { on := 9, ground := Ground.phase }, { on := 10, ground := Ground.phase }, { on := 11, ground := Ground.phase }], guard := none }) (v := ?_) rfl (by kernel_rfl) (by kernel_rfl) (by kernel_rfl) (fun _ _ _ h => h) (Or.inl ⟨by rfl, ?_⟩) (by assumption) ?_
  rotate_left
  · first | (intro w hSw; (try dsimp only at hSw); go_simp; done) | (intro w hSw; (try dsimp only at hSw); go_simp; with_reducible rfl)
  simp only [Act.put, List.setIfInBounds_toArray, List.set_cons_zero, List.set_cons_succ]
  refine wpAnyH_take (i := 14) (oi := { dst := some 46, op := Op.fieldAddr 47 (Operand.tmp 45) 3, type := 0, pos := "node.go:28", after := #[{ on := 13, ground := Ground.data }, { on := 0, ground := Ground.phase }, { on := 1, ground := Ground.phase }, { on := 2, ground := Ground.phase }, { on := 3, ground := Ground.phase }, { on := 4, ground := Ground.phase }, { on := 5, ground := Ground.phase }, { on := 6, ground := Ground.phase }, { on := 7, ground := Ground.phase }, { on := 8, ground := Ground.phase }, { on := 9, ground := Ground.phase }, { on := 10, ground := Ground.phase }, { on := 11, ground := Ground.phase }], guard := none }) (v := ?_) rfl (by kernel_rfl) (by kernel_rfl) (by kernel_rfl) (fun _ _ _ h => h) (Or.inl ⟨by rfl, ?_⟩) (by assumption) ?_
  rotate_left
  · first | (intro w hSw; (try dsimp only at hSw); go_simp; done) | (intro w hSw; (try dsimp only at hSw); go_simp; with_reducible rfl)
  simp only [Act.put, List.setIfInBounds_toArray, List.set_cons_zero, List.set_cons_succ]
  clear hmx hS0 hHeld
  have hwd : Whole w5.drew w.heap.size 82 _ := HW5.out
  have hbd := HB5.out.drew
  have hrdd := HRD5.out.drewN 1
  rw [show w5.drewN 1 = w5.drew from rfl] at hrdd
  generalize w5.drew = w5d at *
  have ff := hwd.free 3
  have kk : ∃ u, w5d.cell? ⟨w.heap.size, 3, none⟩ = some u := ⟨_, hwd.at_ rfl⟩
  obtain ⟨u0, kk⟩ := kk
  have hw6 : Whole (w5d.setCell ⟨w.heap.size, 3, none⟩ (.int .u64 (T.node l r).n)) w.heap.size 82 (ncells (.slice A n c) (.slice none 0 0) (T.node l r).h (T.node l r).n z32 z32 z32 (ptr (some bl)) (ptr (some br))).toArray := hwd.set 3 (.int .u64 (T.node l r).n)
  have hb6 : Below w.heap.size w (w5d.setCell ⟨w.heap.size, 3, none⟩ (.int .u64 (T.node l r).n)) := hbd.setCell (Nat.le_refl _) _
  have hrd6 : Rd (w5d.setCell ⟨w.heap.size, 3, none⟩ (.int .u64 (T.node l r).n)) w.heap.size A n r.least := hrdd.below ((Below.refl w.heap.size w5d).setCell (p := ⟨w.heap.size, 3, none⟩) (Nat.le_refl _) _) (Nat.le_refl _)
  have hS1 : (w5d.setCell ⟨w.heap.size, 3, none⟩ (.int .u64 (T.node l r).n)).cell? ⟨bl, 3, none⟩ = some (.int .u64 l.n) ∧ (w5d.setCell ⟨w.heap.size, 3, none⟩ (.int .u64 (T.node l r).n)).cell? ⟨br, 3, none⟩ = some (.int .u64 r.n) := by
    obtain ⟨-, l2, -⟩ := above_reads HL.out hb6
    obtain ⟨-, r2, -⟩ := above_reads HR.out hb6
    exact ⟨l2, r2⟩
  have HW6 := Lib.hid hw6
  have HB6 := Lib.hid hb6
  have HRD6 := Lib.hid hrd6
  clear hw6 hb6 hrd6 HW5 HB5 HRD5 hwd hbd hrdd
  refine wpAnyH_ready (rs := [15]) (by kernel_rfl) (by simp) ?_
  refine AllReadyH.cons rfl (fun K hK => ?_) AllReadyH.nil
  go_simp
  refine hK.out _ _ hS1 (fun _ => ?_)
  clear hK K hS1 ff kk
  generalize w5d.setCell ⟨w.heap.size, 3, none⟩ (.int .u64 (T.node l r).n) = w6 at *
  refine wpAnyH_done (by kernel_rfl) ?_ _
  go_upto_region 5 with (fail)
  have hS0 : w6.drew.rangeAt bl 68 (l.sum.map V8) ∧ w6.drew.rangeAt br 68 (r.sum.map V8) := ⟨(above_reads HL.out HB6.out.drew).2.2, (above_reads HR.out HB6.out.drew).2.2⟩
  refine wp_region_held_drew (S := fun w' => w'.rangeAt bl 68 (l.sum.map V8) ∧ w'.rangeAt br 68 (r.sum.map V8)) (by kernel_rfl) hS0 (fun hHeld => ?_)
  refine wpAnyH_take (i := 0) (oi := { dst := some 47, op := Op.move (Operand.tmp 5), type := 79, pos := "node.go:29", after := #[], guard := none }) (v := ?_) rfl (by kernel_rfl) (by kernel_rfl) (by kernel_rfl) (fun _ _ _ h => h) (Or.inl ⟨by rfl, ?_⟩) (by assumption) ?_
  rotate_left
  · first | (intro w hSw; (try dsimp only at hSw); go_simp; done) | (intro w hSw; (try dsimp only at hSw); go_simp; with_reducible rfl)
  simp only [Act.put, List.setIfInBounds_toArray, List.set_cons_zero, List.set_cons_succ]
  refine wpAnyH_take (i := 1) (oi := { dst := some 48, op := Op.move (Operand.tmp 5), type := 79, pos := "node.go:29", after := #[{ on := 13, ground := Ground.gcOnly Departure.lateStores }], guard := none }) (v := ?_) rfl (by kernel_rfl) (by kernel_rfl) (by kernel_rfl) (fun _ _ _ h => h) (Or.inl ⟨by rfl, ?_⟩) (by assumption) ?_
  rotate_left
  · first | (intro w hSw; (try dsimp only at hSw); go_simp; done) | (intro w hSw; (try dsimp only at hSw); go_simp; with_reducible rfl)
  simp only [Act.put, List.setIfInBounds_toArray, List.set_cons_zero, List.set_cons_succ]
  refine wpAnyH_take (i := 2) (oi := { dst := some 49, op := Op.move (Operand.tmp 0), type := 79, pos := "node.go:29", after := #[], guard := none }) (v := ?_) rfl (by kernel_rfl) (by kernel_rfl) (by kernel_rfl) (fun _ _ _ h => h) (Or.inl ⟨by rfl, ?_⟩) (by assumption) ?_
  rotate_left
  · first | (intro w hSw; (try dsimp only at hSw); go_simp; done) | (intro w hSw; (try dsimp only at hSw); go_simp; with_reducible rfl)
  simp only [Act.put, List.setIfInBounds_toArray, List.set_cons_zero, List.set_cons_succ]
  refine wpAnyH_take (i := 3) (oi := { dst := some 50, op := Op.nilCheck (Operand.tmp 49), type := 0, pos := "node.go:29", after := #[{ on := 2, ground := Ground.data }], guard := none }) (v := ?_) rfl (by kernel_rfl) (by kernel_rfl) (by kernel_rfl) (fun _ _ _ h => h) (Or.inl ⟨by rfl, ?_⟩) (by assumption) ?_
  rotate_left
  · first | (intro w hSw; (try dsimp only at hSw); go_simp; done) | (intro w hSw; (try dsimp only at hSw); go_simp; with_reducible rfl)
  simp only [Act.put, List.setIfInBounds_toArray, List.set_cons_zero, List.set_cons_succ]
  refine wpAnyH_take (i := 4) (oi := { dst := some 51, op := Op.fieldAddr 82 (Operand.tmp 50) 1, type := 0, pos := "node.go:29", after := #[{ on := 3, ground := Ground.data }], guard := none }) (v := ?_) rfl (by kernel_rfl) (by kernel_rfl) (by kernel_rfl) (fun _ _ _ h => h) (Or.inl ⟨by rfl, ?_⟩) (by assumption) ?_
  rotate_left
  · first | (intro w hSw; (try dsimp only at hSw); go_simp; done) | (intro w hSw; (try dsimp only at hSw); go_simp; with_reducible rfl)
  simp only [Act.put, List.setIfInBounds_toArray, List.set_cons_zero, List.set_cons_succ]
  refine wpAnyH_take (i := 5) (oi := { dst := some 52, op := Op.load 29 (Operand.tmp 51), type := 29, pos := "node.go:29", after := #[{ on := 4, ground := Ground.data }], guard := none }) (v := .agg (l.sum.map V8).toArray) rfl (by kernel_rfl) (by kernel_rfl) (by kernel_rfl) (fun _ _ _ h => h) (yieldsIf_load_mid (by rfl) 29 (.tmp 51) rfl bl 68 rfl (l.sum.map V8) _ (fun _ h => h.1) Tryd.underlying29 rfl (by rw [List.length_map, sum32]; exact info49)) (by assumption) ?_
  simp only [Act.put, List.setIfInBounds_toArray, List.set_cons_zero, List.set_cons_succ]
  refine wpAnyH_take (i := 6) (oi := { dst := some 53, op := Op.move (Operand.tmp 1), type := 79, pos := "node.go:29", after := #[], guard := none }) (v := ?_) rfl (by kernel_rfl) (by kernel_rfl) (by kernel_rfl) (fun _ _ _ h => h) (Or.inl ⟨by rfl, ?_⟩) (by assumption) ?_
  rotate_left
  · first | (intro w hSw; (try dsimp only at hSw); go_simp; done) | (intro w hSw; (try dsimp only at hSw); go_simp; with_reducible rfl)
  simp only [Act.put, List.setIfInBounds_toArray, List.set_cons_zero, List.set_cons_succ]
  refine wpAnyH_take (i := 7) (oi := { dst := some 54, op := Op.nilCheck (Operand.tmp 53), type := 0, pos := "node.go:29", after := #[{ on := 6, ground := Ground.data }], guard := none }) (v := ?_) rfl (by kernel_rfl) (by kernel_rfl) (by kernel_rfl) (fun _ _ _ h => h) (Or.inl ⟨by rfl, ?_⟩) (by assumption) ?_
  rotate_left
  · first | (intro w hSw; (try dsimp only at hSw); go_simp; done) | (intro w hSw; (try dsimp only at hSw); go_simp; with_reducible rfl)
  simp only [Act.put, List.setIfInBounds_toArray, List.set_cons_zero, List.set_cons_succ]
  refine wpAnyH_take (i := 8) (oi := { dst := some 55, op := Op.fieldAddr 82 (Operand.tmp 54) 1, type := 0, pos := "node.go:29", after := #[{ on := 7, ground := Ground.data }], guard := none }) (v := ?_) rfl (by kernel_rfl) (by kernel_rfl) (by kernel_rfl) (fun _ _ _ h => h) (Or.inl ⟨by rfl, ?_⟩) (by assumption) ?_
  rotate_left
  · first | (intro w hSw; (try dsimp only at hSw); go_simp; done) | (intro w hSw; (try dsimp only at hSw); go_simp; with_reducible rfl)
  simp only [Act.put, List.setIfInBounds_toArray, List.set_cons_zero, List.set_cons_succ]
  refine wpAnyH_take (i := 9) (oi := { dst := some 56, op := Op.load 29 (Operand.tmp 55), type := 29, pos := "node.go:29", after := #[{ on := 8, ground := Ground.data }], guard := none }) (v := .agg (r.sum.map V8).toArray) rfl (by kernel_rfl) (by kernel_rfl) (by kernel_rfl) (fun _ _ _ h => h) (yieldsIf_load_mid (by rfl) 29 (.tmp 55) rfl br 68 rfl (r.sum.map V8) _ (fun _ h => h.2) Tryd.underlying29 rfl (by rw [List.length_map, sum32]; exact info49)) (by assumption) ?_
  simp only [Act.put, List.setIfInBounds_toArray, List.set_cons_zero, List.set_cons_succ]
  refine wpAnyH_take (i := 10) (oi := { dst := some 57, op := Op.nilCheck (Operand.tmp 47), type := 0, pos := "node.go:29", after := #[{ on := 0, ground := Ground.data }, { on := 0, ground := Ground.phase }, { on := 1, ground := Ground.textOnly Departure.lateStores }, { on := 2, ground := Ground.phase }, { on := 3, ground := Ground.phase }, { on := 4, ground := Ground.phase }, { on := 5, ground := Ground.phase }, { on := 6, ground := Ground.textOnly Departure.lateStores }, { on := 7, ground := Ground.textOnly Departure.lateStoresUnsure }, { on := 8, ground := Ground.textOnly Departure.lateStoresUnsure }, { on := 9, ground := Ground.phase }], guard := none }) (v := ?_) rfl (by kernel_rfl) (by kernel_rfl) (by kernel_rfl) (fun _ _ _ h => h) (Or.inl ⟨by rfl, ?_⟩) (by assumption) ?_
  rotate_left
  · first | (intro w hSw; (try dsimp only at hSw); go_simp; done) | (intro w hSw; (try dsimp only at hSw); go_simp; with_reducible rfl)
  simp only [Act.put, List.setIfInBounds_toArray, List.set_cons_zero, List.set_cons_succ]
  refine wpAnyH_take (i := 11) (oi := { dst := some 58, op := Op.fieldAddr 82 (Operand.tmp 57) 0, type := 0, pos := "node.go:29", after := #[{ on := 10, ground := Ground.data }, { on := 0, ground := Ground.phase }, { on := 1, ground := Ground.textOnly Departure.lateStores }, { on := 2, ground := Ground.phase }, { on := 3, ground := Ground.phase }, { on := 4, ground := Ground.phase }, { on := 5, ground := Ground.phase }, { on := 6, ground := Ground.textOnly Departure.lateStores }, { on := 7, ground := Ground.textOnly Departure.lateStoresUnsure }, { on := 8, ground := Ground.textOnly Departure.lateStoresUnsure }, { on := 9, ground := Ground.phase }], guard := none }) (v := ?_) rfl (by kernel_rfl) (by kernel_rfl) (by kernel_rfl) (fun _ _ _ h => h) (Or.inl ⟨by rfl, ?_⟩) (by assumption) ?_
  rotate_left
  · first | (intro w hSw; (try dsimp only at hSw); go_simp; done) | (intro w hSw; (try dsimp only at hSw); go_simp; with_reducible rfl)
  simp only [Act.put, List.setIfInBounds_toArray, List.set_cons_zero, List.set_cons_succ]
  refine wpAnyH_take (i := 12) (oi := { dst := some 59, op := Op.fieldAddr 47 (Operand.tmp 58) 4, type := 0, pos := "node.go:29", after := #[{ on := 11, ground := Ground.data }, { on := 0, ground := Ground.phase }, { on := 1, ground := Ground.textOnly Departure.lateStores }, { on := 2, ground := Ground.phase }, { on := 3, ground := Ground.phase }, { on := 4, ground := Ground.phase }, { on := 5, ground := Ground.phase }, { on := 6, ground := Ground.textOnly Departure.lateStores }, { on := 7, ground := Ground.textOnly Departure.lateStoresUnsure }, { on := 8, ground := Ground.textOnly Departure.lateStoresUnsure }, { on := 9, ground := Ground.phase }], guard := none }) (v := ?_) rfl (by kernel_rfl) (by kernel_rfl) (by kernel_rfl) (fun _ _ _ h => h) (Or.inl ⟨by rfl, ?_⟩) (by assumption) ?_
  rotate_left
  · first | (intro w hSw; (try dsimp only at hSw); go_simp; done) | (intro w hSw; (try dsimp only at hSw); go_simp; with_reducible rfl)
  simp only [Act.put, List.setIfInBounds_toArray, List.set_cons_zero, List.set_cons_succ]
  have HW6d : Hid (Whole w6.drew w.heap.size 82 _) := Lib.hid HW6.out
  have HB6d := Lib.hid HB6.out.drew
  have HRD6d := Lib.hid (HRD6.out.drewN 1)
  rw [show w6.drewN 1 = w6.drew from rfl] at HRD6d
  clear hHeld hS0 HW6 HB6 HRD6
  generalize w6.drew = w6d at *
  refine wpAnyH_ready (rs := [13]) (by kernel_rfl) (by simp) ?_
  refine AllReadyH.cons rfl (fun K hK => ?_) AllReadyH.nil
  refine Eq.mpr (if_pos (by rfl)) ?_
  refine wp_store_none (by rfl) 29 (.tmp 59) (.tmp 52) rfl w.heap.size 4 (l.sum.map V8).toArray rfl rfl ?_ ?_ (all_oneCell_toArray (one_bytes _)) ?_
  · rw [sumsize l]; exact HW6d.out.midthere 4 32 (by rw [List.size_toArray, ncells_len _ _ _ _ _ _ _ _ _ rfl rfl rfl]; omega)
  · rw [sumsize l]; exact info49
  have hw7 : Whole (w6d.setCells w.heap.size 4 (l.sum.map V8)) w.heap.size 82 (ncells (.slice A n c) (.slice none 0 0) (T.node l r).h (T.node l r).n l.sum z32 z32 (ptr (some bl)) (ptr (some br))).toArray := ncells_lstore HW6d.out rfl (sum32 l)
  have hb7 : Below w.heap.size w (w6d.setCells w.heap.size 4 (l.sum.map V8)) := below_setCells w w.heap.size _ 4 HB6d.out (Nat.le_refl _)
  have hrd7 : Rd (w6d.setCells w.heap.size 4 (l.sum.map V8)) w.heap.size A n r.least := HRD6d.out.below (below_setCells (B := w.heap.size) w6d w.heap.size _ 4 (Below.refl _ _) (Nat.le_refl _)) (Nat.le_refl _)
  have hS1 : (w6d.setCells w.heap.size 4 (l.sum.map V8)).rangeAt bl 68 (l.sum.map V8) ∧ (w6d.setCells w.heap.size 4 (l.sum.map V8)).rangeAt br 68 (r.sum.map V8) := ⟨(above_reads HL.out hb7).2.2, (above_reads HR.out hb7).2.2⟩
  have HW7 := Lib.hid hw7
  have HB7 := Lib.hid hb7
  have HRD7 := Lib.hid hrd7
  clear hw7 hb7 hrd7 HW6d HB6d HRD6d
  refine hK.out _ _ hS1 (fun _ => ?_)
  clear hK K
  show wpAnyH _ _ _ _ _ _ _ _ (w6d.setCells w.heap.size 4 (l.sum.map V8))
  generalize w6d.setCells w.heap.size 4 (l.sum.map V8) = w7 at *
  refine wpAnyH_take (i := 14) (oi := { dst := some 60, op := Op.nilCheck (Operand.tmp 48), type := 0, pos := "node.go:29", after := #[{ on := 1, ground := Ground.data }, { on := 0, ground := Ground.phase }, { on := 1, ground := Ground.phase }, { on := 2, ground := Ground.phase }, { on := 3, ground := Ground.phase }, { on := 4, ground := Ground.phase }, { on := 5, ground := Ground.phase }, { on := 6, ground := Ground.phase }, { on := 7, ground := Ground.phase }, { on := 8, ground := Ground.phase }, { on := 9, ground := Ground.phase }, { on := 10, ground := Ground.phase }, { on := 11, ground := Ground.phase }, { on := 12, ground := Ground.phase }, { on := 13, ground := Ground.phase }], guard := none }) (v := ?_) rfl (by kernel_rfl) (by kernel_rfl) (by kernel_rfl) (fun _ _ _ h => h) (Or.inl ⟨by rfl, ?_⟩) (by assumption) ?_
  rotate_left
  · first | (intro w hSw; (try dsimp only at hSw); go_simp; done) | (intro w hSw; (try dsimp only at hSw); go_simp; with_reducible rfl)
  simp only [Act.put, List.setIfInBounds_toArray, List.set_cons_zero, List.set_cons_succ]
  refine wpAnyH_take (i := 15) (oi := { dst := some 61, op := Op.fieldAddr 82 (Operand.tmp 60) 0, type := 0, pos := "node.go:29", after := #[{ on := 14, ground := Ground.data }, { on := 0, ground := Ground.phase }, { on := 1, ground := Ground.phase }, { on := 2, ground := Ground.phase }, { on := 3, ground := Ground.phase }, { on := 4, ground := Ground.phase }, { on := 5, ground := Ground.phase }, { on := 6, ground := Ground.phase }, { on := 7, ground := Ground.phase }, { on := 8, ground := Ground.phase }, { on := 9, ground := Ground.phase }, { on := 10, ground := Ground.phase }, { on := 11, ground := Ground.phase }, { on := 12, ground := Ground.phase }, { on := 13, ground := Ground.phase }], guard := none }) (v := ?_) rfl (by kernel_rfl) (by kernel_rfl) (by kernel_rfl) (fun _ _ _ h => h) (Or.inl ⟨by rfl, ?_⟩) (by assumption) ?_
  rotate_left
  · first | (intro w hSw; (try dsimp only at hSw); go_simp; done) | (intro w hSw; (try dsimp only at hSw); go_simp; with_reducible rfl)
  simp only [Act.put, List.setIfInBounds_toArray, List.set_cons_zero, List.set_cons_succ]
  refine wpAnyH_take (i := 16) (oi := { dst := some 62, op := Op.fieldAddr 47 (Operand.tmp 61) 5, type := 0, pos := "node.go:29", after := #[{ on := 15, ground := Ground.data }, { on := 0, ground := Ground.phase }, { on := 1, ground := Ground.phase }, { on := 2, ground := Ground.phase }, { on := 3, ground := Ground.phase }, { on := 4, ground := Ground.phase }, { on := 5, ground := Ground.phase }, { on := 6, ground := Ground.phase }, { on := 7, ground := Ground.phase }, { on := 8, ground := Ground.phase }, { on := 9, ground := Ground.phase }, { on := 10, ground := Ground.phase }, { on := 11, ground := Ground.phase }, { on := 12, ground := Ground.phase }, { on := 13, ground := Ground.phase }], guard := none }) (v := ?_) rfl (by kernel_rfl) (by kernel_rfl) (by kernel_rfl) (fun _ _ _ h => h) (Or.inl ⟨by rfl, ?_⟩) (by assumption) ?_
  rotate_left
  · first | (intro w hSw; (try dsimp only at hSw); go_simp; done) | (intro w hSw; (try dsimp only at hSw); go_simp; with_reducible rfl)
  simp only [Act.put, List.setIfInBounds_toArray, List.set_cons_zero, List.set_cons_succ]
  refine wpAnyH_ready (rs := [17]) (by kernel_rfl) (by simp) ?_
  refine AllReadyH.cons rfl (fun K hK => ?_) AllReadyH.nil
  refine Eq.mpr (if_pos (by rfl)) ?_
  refine wp_store_none (by rfl) 29 (.tmp 62) (.tmp 56) rfl w.heap.size 36 (r.sum.map V8).toArray rfl rfl ?_ ?_ (all_oneCell_toArray (one_bytes _)) ?_
  · rw [sumsize r]; exact HW7.out.midthere 36 32 (by rw [List.size_toArray, ncells_len _ _ _ _ _ _ _ _ _ (sum32 l) rfl rfl]; omega)
  · rw [sumsize r]; exact info49
  have hw8 : Whole (w7.setCells w.heap.size 36 (r.sum.map V8)) w.heap.size 82 (ncells (.slice A n c) (.slice none 0 0) (T.node l r).h (T.node l r).n l.sum r.sum z32 (ptr (some bl)) (ptr (some br))).toArray := ncells_rstore HW7.out (sum32 l) rfl (sum32 r)
  have hb8 : Below w.heap.size w (w7.setCells w.heap.size 36 (r.sum.map V8)) := below_setCells w w.heap.size _ 36 HB7.out (Nat.le_refl _)
  have hrd8 : Rd (w7.setCells w.heap.size 36 (r.sum.map V8)) w.heap.size A n r.least := HRD7.out.below (below_setCells (B := w.heap.size) w7 w.heap.size _ 36 (Below.refl _ _) (Nat.le_refl _)) (Nat.le_refl _)
  have hS1 : (w7.setCells w.heap.size 36 (r.sum.map V8)).rangeAt bl 68 (l.sum.map V8) ∧ (w7.setCells w.heap.size 36 (r.sum.map V8)).rangeAt br 68 (r.sum.map V8) := ⟨(above_reads HL.out hb8).2.2, (above_reads HR.out hb8).2.2⟩
  have HW8 := Lib.hid hw8
  have HB8 := Lib.hid hb8
  have HRD8 := Lib.hid hrd8
  clear hw8 hb8 hrd8 HW7 HB7 HRD7
  refine hK.out _ _ hS1 (fun _ => ?_)
  clear hK K
  show wpAnyH _ _ _ _ _ _ _ _ (w7.setCells w.heap.size 36 (r.sum.map V8))
  generalize w7.setCells w.heap.size 36 (r.sum.map V8) = w8 at *
  refine wpAnyH_done (by kernel_rfl) ?_ _
  go_upto_region 6 with (fail)
  have hz : (UInt64.ofNat (T.node l r).n).toNat = (T.node l r).n := by
    have h0 : (T.node l r).n = l.n + r.n := rfl
    rw [UInt64.toNat_ofNat_of_lt']
    show _ < 18446744073709551616
    omega
  have hsz : w.heap.size < w8.heap.size := HW8.out.lt
  have hH := hash_inner (.slice A n c) (.slice none 0 0) ((T.node l r).h : Int) (UInt8.ofNat (T.node l r).h) (UInt64.ofNat (T.node l r).n) l.sum r.sum w8 (by have := h_ne l r; omega) (u8_len _) (sum32 l) (sum32 r) (Sh.tab_below HT.out HB8.out hw1) (by omega)
  rw [hz] at hH
  have HH := Lib.hid hH
  clear hH hz hS1
  refine wp_region_lit ?_
  iterate 12 go_step
  refine wpList_load_mid rfl 47 (.tmp 66) rfl w.heap.size 0 rfl _ _ (ncells_arange HW8.out) Tryd.underlying47 rfl (by rw [acells_len _ _ _ _ _ _ (sum32 l) (sum32 r)]; exact info64) ?_
  go_wp2_with fail
  refine HH.out.mono ?_
  rintro e w9 ⟨rfl, hb9⟩
  have HW9 := Lib.hid (HW8.out.below hb9 HW8.out.lt)
  have HB9 := Lib.hid (HB8.out.trans (hb9.mono HB8.out.size))
  have HRD9 := Lib.hid (HRD8.out.below hb9 (Nat.le_of_lt HW8.out.lt))
  clear hb9 HH HW8 HB8 HRD8
  obtain ⟨S, hS⟩ : ∃ S, Sh.Sha.sum (innerText (UInt8.ofNat (T.node l r).h) (UInt64.ofNat (T.node l r).n) l.sum r.sum) = S := ⟨_, rfl⟩
  have hS32 : S.length = 32 := by rw [← hS]; exact Sh.sum_length _
  have hsizeY : (Sh.bcells S).size = 32 := (Sh.bcells_size S).trans hS32
  rw [hS]
  have HS := Lib.hid hS
  clear hS
  simp only []
  iterate 7 go_step
  refine wpList_store_mid rfl 29 (.tmp 70) (.tmp 68) rfl w.heap.size 68 (Sh.bcells S) rfl rfl ?_ ?_ (Sh.bcells_one S) ?_
  · rw [hsizeY]; exact HW9.out.midthere 68 32 (by rw [List.size_toArray, ncells_len _ _ _ _ _ _ _ _ _ (sum32 l) (sum32 r) rfl]; omega)
  · rw [hsizeY]; exact info49
  have HWA := Lib.hid (ncells_store HW9.out (sum32 l) (sum32 r) rfl hS32)
  have HBA := Lib.hid (below_setCells w w.heap.size (S.map V8) 68 HB9.out (Nat.le_refl _))
  have HRDA := Lib.hid (HRD9.out.below (below_setCells (B := w.heap.size) w9 w.heap.size (S.map V8) 68 (Below.refl _ _) (Nat.le_refl _)) (Nat.le_refl _))
  clear HW9 HB9 HRD9
  show wpList _ _ _ _ _ (w9.setCells w.heap.size 68 (S.map V8))
  generalize w9.setCells w.heap.size 68 (S.map V8) = wA at *
  go_wp2_with fail
  go_ret
  have hlt := HWA.out.lt
  have hle := Nat.le_of_lt hlt
  refine ⟨w.heap.size, rfl, ⟨A, n, c, none, 0, 0, bl, br, ⟨hlt, ?_, HRDA.out.more hle, hnc, hn96, Rd.nil, Nat.le_refl _, by omega, HG.out.2 _ (Nat.le_refl _), HGA.out, fun h => absurd h (by omega)⟩, (HL.out.below HBA.out (Nat.le_refl _)).more hle, (HR.out.below HBA.out (Nat.le_refl _)).more hle⟩, HBA.out⟩
  rw [← HS.out] at HWA
  exact HWA.out
end Go.Proofs.YtolkpjbbfopmnaaDoor
