/-
  Errors as the laws make them: a number, or an error without one, wrapped by Steps and by others; how they lie in memory; what they say.
-/
import Derived.Test.YtoobblofblodnaaDoorKept
namespace Go.Proofs.YtoobblofblodnaaDoor
open Go.RowKit

inductive Err where
  | num (n : Int)
  | text (b : Nat)
  | step (b : Nat) (s : ByteArray) (n : Int) (e : Err)
  | other (e : Err)

def Err.val : Err → Value
  | .num n => .iface 24 (.int .i64 n)
  | .text b => .iface 94 (.pointer (some ⟨b, 0, none⟩))
  | .step b _ _ _ => .iface 40 (.pointer (some ⟨b, 0, none⟩))
  | .other e => .iface 43 (.agg #[e.val])

/-- Every Step in it lies below. -/
def Err.top : Err → Nat
  | .num _ => 0
  | .text _ => 0
  | .step b _ _ _ => b + 1
  | .other e => e.top

/-- It lies in memory; a Step lies behind all that it wraps. -/
def Err.In (w : World) : Err → Prop
  | .num _ => True
  | .text _ => True
  | .step b s n e => w.heap[b]? = some (.cells #[.string s, .int .i64 n, e.val] 46 (0, 0)) ∧ e.top ≤ b ∧ e.In w
  | .other e => e.In w

/-- It, and what it wraps, the outermost first. -/
def Err.layers : Err → List Err
  | .num n => [.num n]
  | .text b => [.text b]
  | .step b s n e => .step b s n e :: e.layers
  | .other e => .other e :: e.layers

def Err.places : Err → List ByteArray
  | .num _ => []
  | .text _ => []
  | .step _ s _ e => s :: e.places
  | .other e => e.places

def Err.blocks : Err → List Nat
  | .num _ => []
  | .text _ => []
  | .step b _ _ e => b :: e.blocks
  | .other e => e.blocks

def Err.code : Err → Int
  | .num n => n
  | .text _ => 9
  | .step _ _ _ e => e.code
  | .other e => e.code

def Err.isNum (m : Int) : Err → Bool
  | .num n => n == m
  | .text _ => false
  | .step _ _ _ e => e.isNum m
  | .other e => e.isNum m

/-- How many layers. -/
def Err.depth : Err → Nat
  | .num _ => 1
  | .text _ => 1
  | .step _ _ _ e => e.depth + 1
  | .other e => e.depth + 1

theorem lt_of_block {w : World} {k : Nat} {o : Obj} (h : w.heap[k]? = some o) : k < w.heap.size := (Array.getElem?_eq_some_iff.1 h).1
theorem cell_of_block {w : World} {b : Nat} {c : Array Value} {t : TypeId} {z : Nat × Nat} (h : w.heap[b]? = some (.cells c t z)) (i : Nat) : w.cell? ⟨b, i, none⟩ = c[i]? := by
  simp [World.cell?, h]

theorem Err.In.kept {O : Nat → Prop} {w w' : World} (hk : Kept O w w') : ∀ {e : Err}, e.In w → (∀ k, k < e.top → ¬ O k) → e.In w'
  | .num _, _, _ => trivial
  | .text _, _, _ => trivial
  | .step b s n e, ⟨h0, ht, h⟩, hn => by
    exact ⟨(hk.block b (lt_of_block h0) (hn b (by simp [Err.top]))).trans h0, ht, h.kept hk (fun k hk' => hn k (by simp only [Err.top]; omega))⟩
  | .other e, h, hn => Err.In.kept (e := e) hk h hn

theorem Err.In.below {B : Nat} {w w' : World} (hk : Below B w w') {e : Err} (h : e.In w) (hB : e.top ≤ B) : e.In w' :=
  h.kept (Kept.of_below hk) (fun k hk' => by omega)

theorem Err.In.top_le {w : World} : ∀ {e : Err}, e.In w → e.top ≤ w.heap.size
  | .num _, _ => Nat.zero_le _
  | .text _, _ => Nat.zero_le _
  | .step _ _ _ _, h => lt_of_block h.1
  | .other e, h => Err.In.top_le (e := e) h

theorem Err.val_iface : ∀ e : Err, ∃ t v, e.val = .iface t v
  | .num _ => ⟨_, _, rfl⟩
  | .text _ => ⟨_, _, rfl⟩
  | .step _ _ _ _ => ⟨_, _, rfl⟩
  | .other _ => ⟨_, _, rfl⟩

theorem Err.depth_pos : ∀ e : Err, 0 < e.depth
  | .num _ => Nat.one_pos
  | .text _ => Nat.one_pos
  | .step _ _ _ _ => Nat.succ_pos _
  | .other _ => Nat.succ_pos _
end Go.Proofs.YtoobblofblodnaaDoor
