/-
  'Kept O w w'': of the blocks that lay in w, those outside the set O lie in w' as they lay; nothing but the heap and the count of draws has turned.
  Errors as the laws make them: a number, or an error without one, wrapped by Steps and by others; how they lie in memory; what they say.
-/
import Derived.Below
import Derived.RangeFuncRecord
import Derived.Laws.NewBlocks
namespace Go.Proofs.YtehmkkccnadhoaaDoor.Fl
open Go.RowKit

structure Kept (O : Nat → Prop) (w w' : World) : Prop where
  os : w'.os = w.os
  tape : w'.tape = w.tape
  output : w'.output = w.output
  size : w.heap.size ≤ w'.heap.size
  block : ∀ k, k < w.heap.size → ¬ O k → w'.heap[k]? = w.heap[k]?

def noBlock : Nat → Prop := fun _ => False

theorem Kept.refl (O : Nat → Prop) (w : World) : Kept O w w := ⟨rfl, rfl, rfl, Nat.le_refl _, fun _ _ _ => rfl⟩
theorem Kept.trans {O O' : Nat → Prop} {a b c : World} (h : Kept O a b) (k : Kept O' b c) (ho : ∀ i, i < a.heap.size → O' i → O i) : Kept O a c :=
  ⟨k.os.trans h.os, k.tape.trans h.tape, k.output.trans h.output, Nat.le_trans h.size k.size,
    fun i hi hn => (k.block i (Nat.lt_of_lt_of_le hi h.size) (fun e => hn (ho i hi e))).trans (h.block i hi hn)⟩
theorem Kept.mono {O O' : Nat → Prop} {a b : World} (h : Kept O a b) (ho : ∀ i, i < a.heap.size → O i → O' i) : Kept O' a b :=
  ⟨h.os, h.tape, h.output, h.size, fun i hi hn => h.block i hi (fun e => hn (ho i hi e))⟩
theorem Kept.alloc {O : Nat → Prop} {a w : World} (h : Kept O a w) (o : Obj) : Kept O a (w.alloc o) :=
  ⟨h.os, h.tape, h.output, Nat.le_trans h.size (by simp), fun k hk hn => (Below.heap_alloc w o k (Nat.lt_of_lt_of_le hk h.size)).trans (h.block k hk hn)⟩
theorem Kept.setCell {O : Nat → Prop} {a w : World} (h : Kept O a w) {p : Addr} (hp : p.block < a.heap.size → O p.block) (u : Value) : Kept O a (w.setCell p u) :=
  ⟨h.os, h.tape, h.output, by simpa [World.setCell] using h.size,
    fun k hk hn => (Below.heap_setCell w p u k (fun e => by subst e; exact hn (hp hk))).trans (h.block k hk hn)⟩
theorem Kept.putObj {O : Nat → Prop} {a w : World} (h : Kept O a w) {r : Nat} (hp : r < a.heap.size → O r) (o : Obj) : Kept O a (w.putObj r o) :=
  ⟨h.os, h.tape, h.output, by simpa using h.size,
    fun k hk hn => (World.putObj_heap_other (fun e => by subst e; exact hn (hp hk))).trans (h.block k hk hn)⟩
theorem Kept.drew {O : Nat → Prop} {a w : World} (h : Kept O a w) : Kept O a w.drew := ⟨h.os, h.tape, h.output, h.size, h.block⟩
theorem Kept.cell {O : Nat → Prop} {w w' : World} (h : Kept O w w') {p : Addr} (hp : p.block < w.heap.size) (hn : ¬ O p.block) : w'.cell? p = w.cell? p := World.cell?_of_block (w := w) (h.block p.block hp hn)
theorem Kept.frozen {O : Nat → Prop} {w w' : World} (h : Kept O w w') {p : Addr} (hp : p.block < w.heap.size) (hn : ¬ O p.block) : w'.frozen? p = w.frozen? p := World.frozen?_of_block (w := w) (h.block p.block hp hn)
theorem Kept.below {O : Nat → Prop} {B : Nat} {w w' : World} (h : Kept O w w') (hB : B ≤ w.heap.size) (hO : ∀ k, k < B → ¬ O k) : Below B w w' :=
  ⟨h.os, h.tape, h.output, h.size, fun k hk => h.block k (Nat.lt_of_lt_of_le hk hB) (hO k hk)⟩
theorem Kept.of_below {B : Nat} {w w' : World} (h : Below B w w') : Kept (fun k => B ≤ k) w w' :=
  ⟨h.os, h.tape, h.output, h.size, fun k _ hn => h.block k (Nat.lt_of_not_le hn)⟩
theorem Kept.of_below' {w w' : World} (h : Below w.heap.size w w') : Kept noBlock w w' :=
  ⟨h.os, h.tape, h.output, h.size, fun k hk _ => h.block k hk⟩
theorem lt_of_cell {w : World} {p : Addr} {v : Value} (h : w.cell? p = some v) : p.block < w.heap.size := by
  rcases Nat.lt_or_ge p.block w.heap.size with h' | h'
  · exact h'
  · simp [World.cell?, Array.getElem?_eq_none h'] at h
theorem cNew {w : World} {c : Array Value} {t : TypeId} {n i : Nat} (hn : n = w.heap.size) : (w.alloc (.cells c t)).cell? ⟨n, i, none⟩ = c[i]? := World.cell?_alloc_at c t n i hn
theorem fNew {w : World} {c : Array Value} {t : TypeId} {n i : Nat} (hn : n = w.heap.size) : (w.alloc (.cells c t)).frozen? ⟨n, i, none⟩ = false := World.frozen?_alloc_at c t n i hn
theorem cOld {w : World} {o : Obj} {n i : Nat} (hn : n < w.heap.size) : (w.alloc o).cell? ⟨n, i, none⟩ = w.cell? ⟨n, i, none⟩ := World.cell?_alloc_past o n i hn
theorem fOld {w : World} {o : Obj} {n i : Nat} (hn : n < w.heap.size) : (w.alloc o).frozen? ⟨n, i, none⟩ = w.frozen? ⟨n, i, none⟩ := World.frozen?_alloc_past o n i hn
theorem cSet {w : World} {a : Addr} {v u : Value} (h : w.cell? a = some u) : (w.setCell a v).cell? a = some v := World.cell?_setCell_same _ _ _ h
theorem cFar {w : World} {p a : Addr} {v : Value} (h : p.block ≠ a.block) : (w.setCell p v).cell? a = w.cell? a := World.cell?_of_block (w := w) (Below.heap_setCell w p v a.block (fun e => h e.symm))
theorem fSet {w : World} {p a : Addr} {v : Value} : (w.setCell p v).frozen? a = w.frozen? a := World.frozen?_setCell _ _ _ _
theorem sSet {w : World} {p : Addr} {v : Value} : (w.setCell p v).heap.size = w.heap.size := by simp
end Go.Proofs.YtehmkkccnadhoaaDoor.Fl
namespace Go.Proofs.YtehmkkccnadhoaaDoor.Fl
open Go.RowKit

inductive Err where
  | num (n : Int)
  | step (b : Nat) (s : ByteArray) (n : Int) (e : Err)

def Err.val : Err → Value
  | .num n => .iface 39 (.int .i64 n)
  | .step b _ _ _ => .iface 88 (.pointer (some ⟨b, 0, none⟩))

/-- Every Step in it lies below. -/
def Err.top : Err → Nat
  | .num _ => 0
  | .step b _ _ _ => b + 1

/-- It lies in memory; a Step lies behind all that it wraps. -/
def Err.In (w : World) : Err → Prop
  | .num _ => True
  | .step b s n e => w.heap[b]? = some (.cells #[.string s, .int .i64 n, e.val] 90 (0, 0)) ∧ e.top ≤ b ∧ e.In w

/-- It, and what it wraps, the outermost first. -/
def Err.layers : Err → List Err
  | .num n => [.num n]
  | .step b s n e => .step b s n e :: e.layers

def Err.places : Err → List ByteArray
  | .num _ => []
  | .step _ s _ e => s :: e.places

def Err.code : Err → Int
  | .num n => n
  | .step _ _ _ e => e.code

/-- How many layers. -/
def Err.depth : Err → Nat
  | .num _ => 1
  | .step _ _ _ e => e.depth + 1

theorem lt_of_block {w : World} {k : Nat} {o : Obj} (h : w.heap[k]? = some o) : k < w.heap.size := (Array.getElem?_eq_some_iff.1 h).1
theorem cell_of_block {w : World} {b : Nat} {c : Array Value} {t : TypeId} {z : Nat × Nat} (h : w.heap[b]? = some (.cells c t z)) (i : Nat) : w.cell? ⟨b, i, none⟩ = c[i]? := by
  simp [World.cell?, h]

theorem Err.In.kept {O : Nat → Prop} {w w' : World} (hk : Kept O w w') : ∀ {e : Err}, e.In w → (∀ k, k < e.top → ¬ O k) → e.In w'
  | .num _, _, _ => trivial
  | .step b s n e, ⟨h0, ht, h⟩, hn => by
    exact ⟨(hk.block b (lt_of_block h0) (hn b (by simp [Err.top]))).trans h0, ht, h.kept hk (fun k hk' => hn k (by simp only [Err.top]; omega))⟩

theorem Err.In.below {B : Nat} {w w' : World} (hk : Below B w w') {e : Err} (h : e.In w) (hB : e.top ≤ B) : e.In w' :=
  h.kept (Kept.of_below hk) (fun k hk' => by omega)

theorem Err.In.top_le {w : World} : ∀ {e : Err}, e.In w → e.top ≤ w.heap.size
  | .num _, _ => Nat.zero_le _
  | .step _ _ _ _, h => lt_of_block h.1

theorem Err.val_iface : ∀ e : Err, ∃ t v, e.val = .iface t v
  | .num _ => ⟨_, _, rfl⟩
  | .step _ _ _ _ => ⟨_, _, rfl⟩

end Go.Proofs.YtehmkkccnadhoaaDoor.Fl
