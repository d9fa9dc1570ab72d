/-
  How lists of fields, and of bytes, lie in memory: small facts that the walks lean on: no condition.
-/
import Derived.Test.YtolkpjbbfopmnaaDoorTlCut
namespace Go.Proofs.YtolkpjbbfopmnaaDoor.Tl
open Go.RowKit

/-- Its bytes, if there are any, lie in a block that G holds of. -/
def BG (G : Nat → Prop) (A : Option Addr) (n : Nat) : Prop := 0 < n → ∀ b o, A = some ⟨b, o, none⟩ → G b
/-- The slice with address A and n elements reads as fields. -/
def FRd (G : Nat → Prop) (w : World) (B : Nat) (A : Option Addr) (n : Nat) (fs : List (UInt8 × List UInt8)) : Prop :=
  ∃ xs : List Value, RdV w B 2 A n xs ∧ fs.length = n ∧ ∀ (j : Nat) (f : UInt8 × List UInt8), fs[j]? = some f → ∃ A' n' c', xs[2 * j]? = some (V8 f.1) ∧ xs[2 * j + 1]? = some (.slice A' n' c') ∧ n' ≤ c' ∧ n' ≤ 9223372036854775807 ∧ Rd w B A' n' f.2 ∧ BG G A' n'
/-- It reads as lists of bytes. -/
def LRd (w : World) (B : Nat) (A : Option Addr) (n : Nat) (ls : List (List UInt8)) : Prop :=
  ∃ xs : List Value, RdV w B 1 A n xs ∧ ls.length = n ∧ ∀ (j : Nat) (l : List UInt8), ls[j]? = some l → ∃ A' n' c', xs[j]? = some (Value.slice A' n' c') ∧ n' ≤ c' ∧ n' ≤ 9223372036854775807 ∧ Rd w B A' n' l

section
variable {G : Nat → Prop} {w w' : World} {B B' n : Nat} {A : Option Addr} {fs : List (UInt8 × List UInt8)} {ls : List (List UInt8)}
theorem FRd.len (h : FRd G w B A n fs) : fs.length = n := by obtain ⟨_, _, h, _⟩ := h; exact h
theorem FRd.nil : FRd G w B A 0 [] := ⟨[], RdV.nil, rfl, fun j f h => by simp at h⟩
theorem FRd.below (h : FRd G w B A n fs) (hb : Below B' w w') (hB : B ≤ B') : FRd G w' B A n fs := by
  obtain ⟨xs, h1, h2, h3⟩ := h
  refine ⟨xs, h1.below hb hB, h2, fun j f hf => ?_⟩
  obtain ⟨A', n', c', k1, k2, k3, k4, k5, k6⟩ := h3 j f hf
  exact ⟨A', n', c', k1, k2, k3, k4, k5.below hb hB, k6⟩
theorem FRd.more (h : FRd G w B A n fs) (hB : B ≤ B') : FRd G w B' A n fs := by
  obtain ⟨xs, h1, h2, h3⟩ := h
  refine ⟨xs, h1.more hB, h2, fun j f hf => ?_⟩
  obtain ⟨A', n', c', k1, k2, k3, k4, k5, k6⟩ := h3 j f hf
  exact ⟨A', n', c', k1, k2, k3, k4, k5.more hB, k6⟩
/-- Its j-th field. -/
theorem FRd.at_ (h : FRd G w B A n fs) {j : Nat} {f : UInt8 × List UInt8} (hj : fs[j]? = some f) :
    ∃ b o A' n' c', A = some ⟨b, o, none⟩ ∧ b < B ∧ w.cell? ⟨b, o + 2 * j, none⟩ = some (.int .u8 f.1.toNat) ∧ w.cell? ⟨b, o + (2 * j + 1), none⟩ = some (.slice A' n' c') ∧ n' ≤ c' ∧ n' ≤ 9223372036854775807 ∧ Rd w B A' n' f.2 ∧ BG G A' n' := by
  obtain ⟨xs, h1, h2, h3⟩ := h
  obtain ⟨A', n', c', k1, k2, k3, k4, k5, k6⟩ := h3 j f hj
  have hn : 0 < n := by have := (List.getElem?_eq_some_iff.1 hj).1; omega
  obtain ⟨b, o, e, hb, hc⟩ := h1.2 hn
  exact ⟨b, o, A', n', c', e, hb, hc _ _ k1, hc _ _ k2, k3, k4, k5, k6⟩
theorem LRd.len (h : LRd w B A n ls) : ls.length = n := by obtain ⟨_, _, h, _⟩ := h; exact h
theorem LRd.nil : LRd w B A 0 [] := ⟨[], RdV.nil, rfl, fun j f h => by simp at h⟩
theorem LRd.below (h : LRd w B A n ls) (hb : Below B' w w') (hB : B ≤ B') : LRd w' B A n ls := by
  obtain ⟨xs, h1, h2, h3⟩ := h
  refine ⟨xs, h1.below hb hB, h2, fun j f hf => ?_⟩
  obtain ⟨A', n', c', k2, k3, k4, k5⟩ := h3 j f hf
  exact ⟨A', n', c', k2, k3, k4, k5.below hb hB⟩
theorem LRd.more (h : LRd w B A n ls) (hB : B ≤ B') : LRd w B' A n ls := by
  obtain ⟨xs, h1, h2, h3⟩ := h
  refine ⟨xs, h1.more hB, h2, fun j f hf => ?_⟩
  obtain ⟨A', n', c', k2, k3, k4, k5⟩ := h3 j f hf
  exact ⟨A', n', c', k2, k3, k4, k5.more hB⟩
theorem LRd.at_ (h : LRd w B A n ls) {j : Nat} {l : List UInt8} (hj : ls[j]? = some l) :
    ∃ b o A' n' c', A = some ⟨b, o, none⟩ ∧ b < B ∧ w.cell? ⟨b, o + j, none⟩ = some (.slice A' n' c') ∧ n' ≤ c' ∧ n' ≤ 9223372036854775807 ∧ Rd w B A' n' l := by
  obtain ⟨xs, h1, h2, h3⟩ := h
  obtain ⟨A', n', c', k2, k3, k4, k5⟩ := h3 j l hj
  have hn : 0 < n := by have := (List.getElem?_eq_some_iff.1 hj).1; omega
  obtain ⟨b, o, e, hb, hc⟩ := h1.2 hn
  exact ⟨b, o, A', n', c', e, hb, hc _ _ k2, k3, k4, k5⟩
end

/-- Bytes that are read, in another block than the row's. -/
def RdX (w : World) (B : Nat) (row : Option Nat) (A : Option Addr) (n : Nat) (bs : List UInt8) : Prop := Rd w B A n bs ∧ ∀ b o, A = some ⟨b, o, none⟩ → 0 < n → row ≠ some b
section
variable {w w' : World} {B B' n : Nat} {A : Option Addr} {bs : List UInt8} {row row' : Option Nat}
theorem RdX.below (h : RdX w B row A n bs) (hb : Below B' w w') (hB : B ≤ B') : RdX w' B row A n bs := ⟨h.1.below hb hB, h.2⟩
theorem RdX.more (h : RdX w B row A n bs) (hB : B ≤ B') : RdX w B' row A n bs := ⟨h.1.more hB, h.2⟩
theorem RdX.grown (h : RdX w B row A n bs) (hg : w.grownBy w' row) (hB : B ≤ w.heap.size) (hrow : row' = row ∨ row' = some w.heap.size) : RdX w' B row' A n bs := by
  refine ⟨⟨h.1.1, fun hn => ?_⟩, fun b o e hn => ?_⟩
  · obtain ⟨b, o, e, hb, hc⟩ := h.1.2 hn
    refine ⟨b, o, e, hb, fun j u hu => ?_⟩
    rw [World.cell?_of_block (w := w) (hg.block b (by omega) (fun e' => h.2 b o e hn e'.symm))]
    exact hc j u hu
  · rcases hrow with rfl | rfl
    · exact h.2 b o e hn
    · obtain ⟨b', o', e', hb, _⟩ := h.1.2 hn
      rw [e'] at e
      injection e with e
      injection e with e1 _
      subst e1
      intro e2
      injection e2 with e2
      omega
end
/-- The cells of fields in a row of the call's own. -/
def FCells (G : Nat → Prop) (w : World) (row : Option Nat) (xs : List Value) (fs : List (UInt8 × List UInt8)) : Prop :=
  xs.length = 2 * fs.length ∧ ∀ (j : Nat) (f : UInt8 × List UInt8), fs[j]? = some f → ∃ A' n' c', xs[2 * j]? = some (V8 f.1) ∧ xs[2 * j + 1]? = some (.slice A' n' c') ∧ n' ≤ c' ∧ n' ≤ 9223372036854775807 ∧ RdX w w.heap.size row A' n' f.2 ∧ BG G A' n'
def LCells (w : World) (row : Option Nat) (xs : List Value) (ls : List (List UInt8)) : Prop :=
  xs.length = ls.length ∧ ∀ (j : Nat) (l : List UInt8), ls[j]? = some l → ∃ A' n' c', xs[j]? = some (Value.slice A' n' c') ∧ n' ≤ c' ∧ n' ≤ 9223372036854775807 ∧ RdX w w.heap.size row A' n' l
section
variable {G : Nat → Prop} {w w' : World} {row row' : Option Nat} {xs : List Value} {fs : List (UInt8 × List UInt8)} {ls : List (List UInt8)}
theorem FCells.nil : FCells G w row [] [] := ⟨rfl, fun j f h => by simp at h⟩
theorem FCells.below (h : FCells G w row xs fs) (hb : Below w.heap.size w w') : FCells G w' row xs fs :=
  ⟨h.1, fun j f hf => by
    obtain ⟨A', n', c', k1, k2, k3, k4, k5, k6⟩ := h.2 j f hf
    exact ⟨A', n', c', k1, k2, k3, k4, (k5.below hb (Nat.le_refl _)).more hb.size, k6⟩⟩
theorem FCells.grown (h : FCells G w row xs fs) (hg : w.grownBy w' row) (hrow : row' = row ∨ row' = some w.heap.size) : FCells G w' row' xs fs :=
  ⟨h.1, fun j f hf => by
    obtain ⟨A', n', c', k1, k2, k3, k4, k5, k6⟩ := h.2 j f hf
    exact ⟨A', n', c', k1, k2, k3, k4, (k5.grown hg (Nat.le_refl _) hrow).more hg.size, k6⟩⟩
theorem FCells.snoc (h : FCells G w row xs fs) (f : UInt8 × List UInt8) (A : Option Addr) (n c : Nat) (hnc : n ≤ c) (hn : n ≤ 9223372036854775807) (hr : RdX w w.heap.size row A n f.2) (hG : BG G A n) : FCells G w row (xs ++ [V8 f.1, .slice A n c]) (fs ++ [f]) := by
  refine ⟨by rw [List.length_append, List.length_append, h.1]; simp; omega, fun j g hg => ?_⟩
  by_cases hj : j < fs.length
  · rw [List.getElem?_append_left hj] at hg
    obtain ⟨A', n', c', k1, k2, k3, k4, k5, k6⟩ := h.2 j g hg
    exact ⟨A', n', c', by rw [List.getElem?_append_left (by rw [h.1]; omega)]; exact k1, by rw [List.getElem?_append_left (by rw [h.1]; omega)]; exact k2, k3, k4, k5, k6⟩
  · rw [List.getElem?_append_right (by omega)] at hg
    have h1 : j - fs.length < 1 := (List.getElem?_eq_some_iff.1 hg).1
    obtain rfl : j = fs.length := by omega
    rw [Nat.sub_self] at hg
    simp at hg
    subst hg
    refine ⟨A, n, c, ?_, ?_, hnc, hn, hr, hG⟩
    · rw [List.getElem?_append_right (by rw [h.1]; omega), h.1, Nat.sub_self]; rfl
    · rw [List.getElem?_append_right (by rw [h.1]; omega), h.1, show 2 * fs.length + 1 - 2 * fs.length = 1 by omega]; rfl
theorem FCells.rd {base : Nat} {A : Option Addr} {n c : Nat} (h : FCells G w row xs fs) (ho : w.ownsRow base 102 2 (.slice A n c) n xs) : FRd G w w.heap.size A n fs := by
  have hl := ho.1
  rw [h.1] at hl
  refine ⟨xs, RdV.of_own ho, by omega, fun j f hf => ?_⟩
  obtain ⟨A', n', c', k1, k2, k3, k4, k5, k6⟩ := h.2 j f hf
  exact ⟨A', n', c', k1, k2, k3, k4, k5.1, k6⟩
theorem LCells.nil : LCells w row [] [] := ⟨rfl, fun j f h => by simp at h⟩
theorem LCells.below (h : LCells w row xs ls) (hb : Below w.heap.size w w') : LCells w' row xs ls :=
  ⟨h.1, fun j f hf => by
    obtain ⟨A', n', c', k2, k3, k4, k5⟩ := h.2 j f hf
    exact ⟨A', n', c', k2, k3, k4, (k5.below hb (Nat.le_refl _)).more hb.size⟩⟩
theorem LCells.grown (h : LCells w row xs ls) (hg : w.grownBy w' row) (hrow : row' = row ∨ row' = some w.heap.size) : LCells w' row' xs ls :=
  ⟨h.1, fun j f hf => by
    obtain ⟨A', n', c', k2, k3, k4, k5⟩ := h.2 j f hf
    exact ⟨A', n', c', k2, k3, k4, (k5.grown hg (Nat.le_refl _) hrow).more hg.size⟩⟩
theorem LCells.snoc (h : LCells w row xs ls) (l : List UInt8) (A : Option Addr) (n c : Nat) (hnc : n ≤ c) (hn : n ≤ 9223372036854775807) (hr : RdX w w.heap.size row A n l) : LCells w row (xs ++ [.slice A n c]) (ls ++ [l]) := by
  refine ⟨by rw [List.length_append, List.length_append, h.1]; rfl, fun j g hg => ?_⟩
  by_cases hj : j < ls.length
  · rw [List.getElem?_append_left hj] at hg
    obtain ⟨A', n', c', k2, k3, k4, k5⟩ := h.2 j g hg
    exact ⟨A', n', c', by rw [List.getElem?_append_left (by rw [h.1]; omega)]; exact k2, k3, k4, k5⟩
  · rw [List.getElem?_append_right (by omega)] at hg
    have h1 : j - ls.length < 1 := (List.getElem?_eq_some_iff.1 hg).1
    obtain rfl : j = ls.length := by omega
    rw [Nat.sub_self] at hg
    simp at hg
    subst hg
    refine ⟨A, n, c, ?_, hnc, hn, hr⟩
    rw [List.getElem?_append_right (by rw [h.1]; omega), h.1, Nat.sub_self]; rfl
theorem LCells.rd {base : Nat} {A : Option Addr} {n c : Nat} (h : LCells w row xs ls) (ho : w.ownsRow base 31 1 (.slice A n c) n xs) : LRd w w.heap.size A n ls := by
  have hl := ho.1
  rw [h.1] at hl
  refine ⟨xs, RdV.of_own ho, by omega, fun j f hf => ?_⟩
  obtain ⟨A', n', c', k2, k3, k4, k5⟩ := h.2 j f hf
  exact ⟨A', n', c', k2, k3, k4, k5.1⟩
end

theorem Rd.back {w w' : World} {B B' n : Nat} {A : Option Addr} {bs : List UInt8} (h : Rd w' B A n bs) (hb : Below B' w w') (hB : B ≤ B') : Rd w B A n bs :=
  RdV.keep h fun b o hp => (hb.cell (p := ⟨b, o, none⟩) (Nat.lt_of_lt_of_le hp hB)).symm
theorem own_below {w w' : World} {base size n : Nat} {e : TypeId} {v : Value} {xs : List Value} (h : w.ownsRow base e size v n xs) (hb : Below w.heap.size w w') : w'.ownsRow base e size v n xs :=
  h.kept (row := none) ⟨hb.os, hb.tape, hb.output, hb.size, fun i hi _ => hb.block i hi⟩ (by cases v.ownBlock <;> simp)
theorem fcells_step {G : Nat → Prop} {w w' : World} {v v' : Value} {xs : List Value} {acc : List (UInt8 × List UInt8)} (hcl : FCells G w v.ownBlock xs acc) (f : UInt8 × List UInt8) (A : Option Addr) (n c : Nat) (hnc : n ≤ c) (hn : n ≤ 9223372036854775807)
    (hr : RdX w w.heap.size v.ownBlock A n f.2) (hG : BG G A n) (o : Obj) (hg : (w.alloc o).grownBy w' v.ownBlock) (hat : v'.ownBlock = v.ownBlock ∨ v'.ownBlock = some (w.heap.size + 1)) : FCells G w' v'.ownBlock (xs ++ [V8 f.1, .slice A n c]) (acc ++ [f]) :=
  ((hcl.snoc f A n c hnc hn hr hG).below ((Below.refl _ _).alloc (Nat.le_refl _) o)).grown hg (by rw [size_alloc]; exact hat)
theorem lcells_step {w w' : World} {v v' : Value} {xs : List Value} {acc : List (List UInt8)} (hcl : LCells w v.ownBlock xs acc) (l : List UInt8) (A : Option Addr) (n c : Nat) (hnc : n ≤ c) (hn : n ≤ 9223372036854775807)
    (hr : RdX w w.heap.size v.ownBlock A n l) (o : Obj) (hg : (w.alloc o).grownBy w' v.ownBlock) (hat : v'.ownBlock = v.ownBlock ∨ v'.ownBlock = some (w.heap.size + 1)) : LCells w' v'.ownBlock (xs ++ [.slice A n c]) (acc ++ [l]) :=
  ((hcl.snoc l A n c hnc hn hr).below ((Below.refl _ _).alloc (Nat.le_refl _) o)).grown hg (by rw [size_alloc]; exact hat)
/-- A clone lies in no row that was there. -/
theorem rdx_new {w w' : World} {base size k n : Nat} {e : TypeId} {v : Value} {xs : List Value} {A : Option Addr} {bs : List UInt8} (ho : w.ownsRow base e size v k xs) (hr : Rd w' w'.heap.size A n bs) (hnew : ∀ b o, A = some ⟨b, o, none⟩ → w.heap.size ≤ b) : RdX w' w'.heap.size v.ownBlock A n bs :=
  ⟨hr, fun b o e _ h => by have := (ho.lt b h).2; have := hnew b o e; omega⟩
/-- What came in lies in no row of the call's own. -/
theorem rdx_old {w w' : World} {base size k n : Nat} {e : TypeId} {v : Value} {xs : List Value} {A : Option Addr} {bs : List UInt8} (ho : w.ownsRow base e size v k xs) (hr : Rd w' base A n bs) (hb : base ≤ w'.heap.size) : RdX w' w'.heap.size v.ownBlock A n bs :=
  ⟨hr.more hb, fun b o e hn h => by
    have := (ho.lt b h).1
    obtain ⟨b', o', e', hb', _⟩ := hr.2 hn
    rw [e'] at e
    injection e with e
    injection e with e1 _
    omega⟩

/-- append of one element's cells, made for it, onto a row of the call's own. -/
theorem wpList_append_one {ops : Array Oper} {rest : List Oper} {o : Oper} {a : Act} {w : World} {Q : Exit → Act → World → Prop} (hgd : o.guard = none) (s x : Operand) (t e : TypeId) (z : Value) (size bytes : Nat)
    (ho : o.op = .call { callee := .builtin .append, args := #[s, x], argTypes := #[t, t] }) (ht : Tryd.prog.underlying t = some (.slice e))
    (hi : (Tryd.prog.info? e).map (fun i => (i.zero, i.size, i.bytes)) = some (some z, size, bytes)) (hzs : z.cells.size = size) (hsz : 0 < size)
    (base : Nat) (v : Value) (n : Nat) (xs : List Value) (hs : a.eval s = v) (cs : Array Value) (hcs : cs.size = size) (hown : w.ownsRow base e size v n xs)
    (hx : a.eval x = .slice (some ⟨w.heap.size, 0, none⟩) 1 1) (h1 : ∀ u ∈ cs.toList, u.oneCell' = true)
    (h63 : n + 1 ≤ maxLen) (hbytes : (n + 1) * bytes ≤ 140737488355328) (hbase : base ≤ w.heap.size)
    (h : ∀ v' w', w'.ownsRow base e size v' (n + 1) (xs ++ cs.toList) → (w.alloc (.cells cs e)).grownBy w' v.ownBlock → (v'.ownBlock = v.ownBlock ∨ v'.ownBlock = some (w.heap.size + 1)) → wpList Tryd.prog ops Q rest (a.put o.dst v') w') :
    wpList Tryd.prog ops Q (o :: rest) a (w.alloc (.cells cs e)) := by
  have hr : RdV (w.alloc (.cells cs e)) (w.heap.size + 1) size (some ⟨w.heap.size, 0, none⟩) 1 cs.toList :=
    ⟨by rw [Array.length_toList, hcs, Nat.one_mul], fun _ => ⟨_, _, rfl, by omega, fun j u hu => (Whole.made w e cs).at_ (by rw [Nat.zero_add]; simpa using hu)⟩⟩
  obtain ⟨v', w', hrun, h2, h3, h4⟩ := run_append_rd (w.alloc (.cells cs e)) base t o.type e z size bytes ht hi hzs hsz v n xs (hown.alloc _) _ _ 1 1 _ hr h1 h63 hbytes (by rw [size_alloc]; omega)
  refine wpList_plain hgd fun K hK => ?_
  unfold Oper.wp execOp
  simp only [ho, resolve, invoke, builtin, Sem.run_bind, Sem.run_pure, Result.andThen_ok, List.map_toArray, List.map_cons, List.map_nil, hs, hx, hrun]
  exact hK _ _ (h v' w' h2 h3 (by rwa [size_alloc] at h4))
end Go.Proofs.YtolkpjbbfopmnaaDoor.Tl
