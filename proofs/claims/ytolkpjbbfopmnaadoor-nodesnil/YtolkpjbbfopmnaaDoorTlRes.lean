/-
  Small facts on results that lie in cells, on rows of cells that are stored whole, and on arrays that are compared: no condition.
-/
import Derived.Test.YtolkpjbbfopmnaaDoorTlNum
namespace Go.Proofs.YtolkpjbbfopmnaaDoor.Tl
open Go.RowKit

/-- Two results: the first one lies in a block, the second one in a slot. -/
theorem results_cell2 {fn : Func} {p q : Tmp} {ty : TypeId} (h : fn.results = #[.cell p ty, .tmp q]) (tmps : Array Value) (P : Program) (w : World) (a : Addr) (v : Value) (hp : tmps.getD p undef = .pointer (some a))
    (hl : (loadVar ty a).run P w = .ok v w) : (results fn tmps).run P w = .ok (.tuple #[v, tmps.getD q undef]) w := by
  have hp' : tmps[p]?.getD undef = .pointer (some a) := by simpa using hp
  simp only [results, h]
  simp [Result.andThen, hp', asAddr, hl]
/-- One result, which lies in a block. -/
theorem results_cell1 {fn : Func} {p : Tmp} {ty : TypeId} (h : fn.results = #[.cell p ty]) (tmps : Array Value) (P : Program) (w : World) (a : Addr) (v : Value) (hp : tmps.getD p undef = .pointer (some a))
    (hl : (loadVar ty a).run P w = .ok v w) : (results fn tmps).run P w = .ok v w := by
  have hp' : tmps[p]?.getD undef = .pointer (some a) := by simpa using hp
  simp only [results, h]
  simp [hp', asAddr, hl]

section
variable {w w' : World} {g : Nat} {t : TypeId} {cs vs : Array Value}
theorem Whole.other (h : Whole w g t cs) {p : Addr} (hp : g ≠ p.block) (u : Value) : Whole (w.setCell p u) g t cs := (Below.heap_setCell w p u g hp).trans h
theorem Whole.range (h : Whole w g t cs) : w.rangeAt g 0 cs.toList := by
  have := World.rangeAt_of_block (w := w) (b := g) (C := cs) h 0 cs.size
  rwa [Nat.zero_add, Array.extract_size] at this
theorem Whole.there_ (h : Whole w g t cs) : w.there g 0 cs.size := fun j hj => by
  rw [Nat.zero_add]
  exact ⟨by rw [h.at_ (Array.getElem?_eq_getElem hj)]; rfl, h.free j⟩
theorem Whole.midthere (h : Whole w g t cs) (o n : Nat) (hn : o + n ≤ cs.size) : w.there g o n := fun j hj =>
  ⟨by rw [h.at_ (Array.getElem?_eq_getElem (by omega))]; rfl, h.free _⟩
theorem Whole.setOther {b : Nat} (h : Whole w g t cs) (hb : g ≠ b) : ∀ (vs : List Value) (o : Nat), Whole (w.setCells b o vs) g t cs := by
  intro vs
  induction vs generalizing w with
  | nil => intro o; exact h
  | cons v r ih => intro o; exact ih (h.other (p := ⟨b, o, none⟩) hb v) (o + 1)
end
/-- A stretch of a whole block, stored anew. -/
theorem Whole.setCells {g : Nat} {t : TypeId} : ∀ (vs : List Value) (pre old post : List Value) {w : World}, Whole w g t (pre ++ (old ++ post)).toArray → old.length = vs.length →
    Whole (w.setCells g pre.length vs) g t (pre ++ (vs ++ post)).toArray := by
  intro vs
  induction vs with
  | nil =>
    intro pre old post w h hl
    have : old = [] := List.eq_nil_of_length_eq_zero (by simpa using hl)
    subst this
    exact h
  | cons v r ih =>
    intro pre old post w h hl
    cases old with
    | nil => simp at hl
    | cons u old =>
      have h1 := h.set pre.length v
      have e : ((pre ++ (u :: old ++ post)).toArray).setIfInBounds pre.length v = ((pre ++ [v]) ++ (old ++ post)).toArray := by
        simp
      rw [e] at h1
      have h2 := ih (pre ++ [v]) old post h1 (by simpa using hl)
      simpa [World.setCells] using h2
theorem Whole.setAll {w : World} {g : Nat} {t : TypeId} {cs vs : Array Value} (h : Whole w g t cs) (hl : cs.size = vs.size) : Whole (w.setCells g 0 vs.toList) g t vs := by
  have h1 : Whole w g t ([] ++ (cs.toList ++ [])).toArray := by simpa using h
  have := Whole.setCells vs.toList [] cs.toList [] h1 (by simpa using hl)
  simpa using this
theorem below_setCells {B : Nat} (w : World) (b : Nat) (vs : List Value) : ∀ (o : Nat) {w' : World}, Below B w w' → B ≤ b → Below B w (w'.setCells b o vs) := by
  induction vs with
  | nil => intro o w' h _; exact h
  | cons v r ih => intro o w' h hb; exact ih (o + 1) (h.setCell (p := ⟨b, o, none⟩) hb v) hb
theorem size_setCells (b : Nat) (vs : List Value) : ∀ (o : Nat) (w : World), (w.setCells b o vs).heap.size = w.heap.size := by
  induction vs with
  | nil => intro o w; rfl
  | cons v r ih => intro o w; rw [World.setCells, ih]; simp
theorem bcells_size (bs : List UInt8) : (bcells bs).size = bs.length := by simp [bcells]
theorem bcells_one (bs : List UInt8) : (bcells bs).all (·.oneCell') = true := by
  simp [bcells, V8, Value.oneCell']
theorem bcells_zero (n : Nat) : bcells (List.replicate n 0) = zb n := rfl

/-- A whole block is read. -/
theorem load_whole {w : World} {g : Nat} {t : TypeId} {cs : Array Value} (h : Whole w g t cs) (ty : TypeId) (d : TypeDesc) (hu : Tryd.prog.underlying ty = some d) (hd : d.isRow = true) (hi : (Tryd.prog.info? ty).map (·.size) = some cs.size) :
    (loadVar ty ⟨g, 0, none⟩).run Tryd.prog w = .ok (.agg cs) w := by
  have := run_loadVar_mid (P := Tryd.prog) w g 0 ty cs.toList d h.range hu hd (by rw [hi, Array.length_toList])
  rwa [Array.toArray_toList] at this
/-- A whole block is loaded, by an operation that is wanted. -/
theorem wpList_load_g {ops : Array Oper} {rest : List Oper} {op : Oper} {a : Act} {w : World} {Q : Exit → Act → World → Prop} (hw : Region.wanted op (yielded ops a.tmps) = true) (ty : TypeId) (x : Operand) (ho : op.op = .load ty x)
    (g : Nat) (hx : a.eval x = .pointer (some ⟨g, 0, none⟩)) (t : TypeId) (cs : Array Value) (d : TypeDesc) (hc : Whole w g t cs)
    (hu : Tryd.prog.underlying ty = some d) (hd : d.isRow = true) (hi : (Tryd.prog.info? ty).map (·.size) = some cs.size)
    (h : wpList Tryd.prog ops Q rest (a.put op.dst (.agg cs)) w) : wpList Tryd.prog ops Q (op :: rest) a w :=
  wpList_step fun K hK => by
    rw [if_pos hw]
    refine wp_load_mid ty x ho g 0 hx cs.toList d hc.range hu hd (by rw [hi, Array.length_toList]) ?_
    rw [Array.toArray_toList]
    exact hK _ _ h
/-- A whole array stored into the block that was made last. -/
theorem wpList_store_made {P : Program} {ops : Array Oper} {rest : List Oper} {op : Oper} {a : Act} {w : World} {Q : Exit → Act → World → Prop} (hgd : op.guard = none) (ty : TypeId) (x y : Operand) (ho : op.op = .store ty x y)
    (c c' : Array Value) (hx : a.eval x = .pointer (some ⟨w.heap.size, 0, none⟩)) (hy : a.eval y = .agg c')
    (hi : (P.info? ty).map (·.size) = some c'.size) (hc : c.size = c'.size) (h1 : c'.all (·.oneCell') = true)
    (h : wpList P ops Q rest (a.put op.dst undef) (w.alloc (.cells c' ty))) : wpList P ops Q (op :: rest) a (w.alloc (.cells c ty)) :=
  wpList_plain hgd fun _ hK => by
    unfold Oper.wp execOp
    simp only [ho, hx, hy, Instr.storeAt, Instr.sureAddr, Sem.run_bind, Sem.run_pure, Result.andThen_ok, run_storeVar_new w ty c c' hi hc h1]
    exact hK _ _ h
theorem info29 : (Tryd.prog.info? 29).map (·.size) = some 32 := by kernel_rfl
theorem run_eq29 (a b : List UInt8) (ha : a.length = 32) (hb : b.length = 32) (w : World) : (Op.equalIn 10000 29 (.agg (bcells a)) (.agg (bcells b))).run Tryd.prog w = .ok (a == b) w :=
  run_equalIn_bytes w 9998 29 5 32 Tryd.underlying29 Tryd.underlying5 (fun w => by
    obtain ⟨i, hi, _, hs, _⟩ := info_of info5
    simp [sizeOf, typeInfo, hi, hs]) _ _ ha hb
end Go.Proofs.YtolkpjbbfopmnaaDoor.Tl
