/-
  How nodes and trees lie in memory, and what their sums are: definitions and small facts: no condition.
-/
import Derived.Test.YtceillnmcccckaaDoorBytes
import Derived.Test.YtceillnmcccckaaDoorTree
namespace Go.Proofs.YtceillnmcccckaaDoor
open Go.RowKit
open Tr
variable {G : Nat → Prop}

/-- What is summed up of a leaf. -/
def leafText (k v : List UInt8) : List UInt8 := 0 :: UInt8.ofNat k.length :: (k ++ Sh.Sha.sum v)
/-- What is summed up of an inner node. -/
def innerText (h : UInt8) (z : UInt64) (l r : List UInt8) : List UInt8 := 1 :: h :: (Sh.Sha.be8 z ++ (l ++ r))

def Tr.T.sum : T → List UInt8
  | .leaf k v => Sh.Sha.sum (leafText k v)
  | .node l r => Sh.Sha.sum (innerText (UInt8.ofNat (T.node l r).h) (UInt64.ofNat (T.node l r).n) l.sum r.sum)
def z32 : List UInt8 := List.replicate 32 0
def Tr.T.lsum : T → List UInt8
  | .leaf _ _ => z32
  | .node l _ => l.sum
def Tr.T.rsum : T → List UInt8
  | .leaf _ _ => z32
  | .node _ r => r.sum
theorem sum32 (t : T) : t.sum.length = 32 := by cases t <;> exact Sh.sum_length _
theorem lsum32 (t : T) : t.lsum.length = 32 := by
  cases t with
  | leaf _ _ => rfl
  | node l _ => exact sum32 l
theorem rsum32 (t : T) : t.rsum.length = 32 := by
  cases t with
  | leaf _ _ => rfl
  | node _ r => exact sum32 r

/-- The cells of a node as it is answered. -/
def acells (kv vv : Value) (h : Int) (z : Nat) (l r : List UInt8) : List Value := kv :: vv :: .int .i64 h :: .int .u64 z :: (l.map V8 ++ r.map V8)
/-- The cells of a node as it is kept. -/
def ncells (kv vv : Value) (h : Int) (z : Nat) (l r s : List UInt8) (x y : Value) : List Value := acells kv vv h z l r ++ (s.map V8 ++ [x, y])
def ptr (o : Option Nat) : Value := .pointer (o.map fun b => ⟨b, 0, none⟩)
theorem ptr_none : ptr none = .pointer none := rfl
theorem ptr_some (b : Nat) : ptr (some b) = .pointer (some ⟨b, 0, none⟩) := rfl
theorem acells_len (kv vv : Value) (h : Int) (z : Nat) (l r : List UInt8) (hl : l.length = 32) (hr : r.length = 32) : (acells kv vv h z l r).length = 68 := by
  simp [acells, hl, hr]
theorem ncells_len (kv vv : Value) (h : Int) (z : Nat) (l r s : List UInt8) (x y : Value) (hl : l.length = 32) (hr : r.length = 32) (hs : s.length = 32) : (ncells kv vv h z l r s x y).length = 102 := by
  simp [ncells, acells_len kv vv h z l r hl hr, hs]

/-- Block b is the node of tree t: its key and value lie where they are read, and x and y are what is beneath it. -/
structure NHas (G : Nat → Prop) (w : World) (B : Nat) (t : T) (b : Nat) (A : Option Addr) (n c : Nat) (A' : Option Addr) (n' c' : Nat) (x y : Option Nat) : Prop where
  lt : b < B
  whole : Whole w b 88 (ncells (.slice A n c) (.slice A' n' c') t.h t.n t.lsum t.rsum t.sum (ptr x) (ptr y)).toArray
  key : Rd w B A n t.key
  knc : n ≤ c
  kle : n ≤ 96
  val : Rd w B A' n' t.val
  vnc : n' ≤ c'
  vle : n' ≤ 256
  gd : G b ∧ (0 < n → ∀ b' o, A = some ⟨b', o, none⟩ → G b') ∧ (0 < n' → ∀ b' o, A' = some ⟨b', o, none⟩ → G b')

/-- Block b is the top of tree t, all of it below B. -/
def NIn (G : Nat → Prop) (w : World) (B : Nat) : T → Nat → Prop
  | .leaf k v, b => ∃ A n c A' n' c', NHas G w B (.leaf k v) b A n c A' n' c' none none
  | .node l r, b => ∃ A n c A' n' c' x y, NHas G w B (.node l r) b A n c A' n' c' (some x) (some y) ∧ NIn G w B l x ∧ NIn G w B r y

section
variable {w w' : World} {B B' b n c n' c' : Nat} {t : T} {A A' : Option Addr} {x y : Option Nat}
theorem NHas.below (h : NHas G w B t b A n c A' n' c' x y) (hb : Below B' w w') (hB : B ≤ B') : NHas G w' B t b A n c A' n' c' x y :=
  ⟨h.lt, h.whole.below hb (Nat.lt_of_lt_of_le h.lt hB), h.key.below hb hB, h.knc, h.kle, h.val.below hb hB, h.vnc, h.vle, h.gd⟩
theorem NHas.more (h : NHas G w B t b A n c A' n' c' x y) (hB : B ≤ B') : NHas G w B' t b A n c A' n' c' x y :=
  ⟨Nat.lt_of_lt_of_le h.lt hB, h.whole, h.key.more hB, h.knc, h.kle, h.val.more hB, h.vnc, h.vle, h.gd⟩
theorem NHas.cells (h : NHas G w B t b A n c A' n' c' x y) :
    w.cell? ⟨b, 0, none⟩ = some (.slice A n c) ∧ w.cell? ⟨b, 1, none⟩ = some (.slice A' n' c') ∧ w.cell? ⟨b, 2, none⟩ = some (.int .i64 t.h) ∧
    w.cell? ⟨b, 3, none⟩ = some (.int .u64 t.n) ∧ w.cell? ⟨b, 100, none⟩ = some (ptr x) ∧ w.cell? ⟨b, 101, none⟩ = some (ptr y) := by
  have hl : (acells (.slice A n c) (.slice A' n' c') t.h t.n t.lsum t.rsum ++ t.sum.map V8).length = 100 := by
    rw [List.length_append, acells_len _ _ _ _ _ _ (lsum32 t) (rsum32 t), List.length_map, sum32]
  refine ⟨h.whole.at_ ?_, h.whole.at_ ?_, h.whole.at_ ?_, h.whole.at_ ?_, h.whole.at_ ?_, h.whole.at_ ?_⟩
  · rfl
  · rfl
  · rfl
  · rfl
  · rw [List.getElem?_toArray, ncells, ← List.append_assoc, List.getElem?_append_right (by omega), hl]; rfl
  · rw [List.getElem?_toArray, ncells, ← List.append_assoc, List.getElem?_append_right (by omega), hl]; rfl
end
theorem NIn.below {w w' : World} {B B' : Nat} (hb : Below B' w w') (hB : B ≤ B') : ∀ {t : T} {b : Nat}, NIn G w B t b → NIn G w' B t b
  | .leaf _ _, _, ⟨A, n, c, A', n', c', h⟩ => ⟨A, n, c, A', n', c', h.below hb hB⟩
  | .node _ _, _, ⟨A, n, c, A', n', c', x, y, h, h1, h2⟩ => ⟨A, n, c, A', n', c', x, y, h.below hb hB, NIn.below hb hB h1, NIn.below hb hB h2⟩
theorem NIn.more {w : World} {B B' : Nat} (hB : B ≤ B') : ∀ {t : T} {b : Nat}, NIn G w B t b → NIn G w B' t b
  | .leaf _ _, _, ⟨A, n, c, A', n', c', h⟩ => ⟨A, n, c, A', n', c', h.more hB⟩
  | .node _ _, _, ⟨A, n, c, A', n', c', x, y, h, h1, h2⟩ => ⟨A, n, c, A', n', c', x, y, h.more hB, NIn.more hB h1, NIn.more hB h2⟩
theorem NIn.has {w : World} {B : Nat} : ∀ {t : T} {b : Nat}, NIn G w B t b → ∃ A n c A' n' c' x y, NHas G w B t b A n c A' n' c' x y
  | .leaf _ _, _, ⟨A, n, c, A', n', c', h⟩ => ⟨A, n, c, A', n', c', none, none, h⟩
  | .node _ _, _, ⟨A, n, c, A', n', c', x, y, h, _, _⟩ => ⟨A, n, c, A', n', c', some x, some y, h⟩
theorem NIn.lt {w : World} {B : Nat} {t : T} {b : Nat} (h : NIn G w B t b) : b < B := by
  obtain ⟨_, _, _, _, _, _, _, _, h⟩ := h.has
  exact h.lt

/-- A node, or none. -/
def PIn (G : Nat → Prop) (w : World) (B : Nat) : Option T → Option Nat → Prop
  | none, p => p = none
  | some t, p => ∃ b, p = some b ∧ NIn G w B t b
/-- Block g is a tree. -/
def TIn (G : Nat → Prop) (w : World) (B : Nat) (o : Option T) (g : Nat) : Prop := g < B ∧ G g ∧ ∃ p, Whole w g 80 #[ptr p] ∧ PIn G w B o p
theorem PIn.below {w w' : World} {B B' : Nat} (hb : Below B' w w') (hB : B ≤ B') {o : Option T} {p : Option Nat} (h : PIn G w B o p) : PIn G w' B o p := by
  cases o with
  | none => exact h
  | some t => obtain ⟨b, e, h⟩ := h; exact ⟨b, e, h.below hb hB⟩
theorem PIn.more {w : World} {B B' : Nat} (hB : B ≤ B') {o : Option T} {p : Option Nat} (h : PIn G w B o p) : PIn G w B' o p := by
  cases o with
  | none => exact h
  | some t => obtain ⟨b, e, h⟩ := h; exact ⟨b, e, h.more hB⟩
theorem TIn.below {w w' : World} {B B' : Nat} (hb : Below B' w w') (hB : B ≤ B') {o : Option T} {g : Nat} (h : TIn G w B o g) : TIn G w' B o g := by
  obtain ⟨hg, gg, p, h1, h2⟩ := h
  exact ⟨hg, gg, p, h1.below hb (by omega), h2.below hb hB⟩
theorem TIn.more {w : World} {B B' : Nat} (hB : B ≤ B') {o : Option T} {g : Nat} (h : TIn G w B o g) : TIn G w B' o g := by
  obtain ⟨hg, gg, p, h1, h2⟩ := h
  exact ⟨by omega, gg, p, h1, h2.more hB⟩

/-- The block behind memory's end is free to use; so are all behind it. -/
def Room (G : Nat → Prop) (w : World) : Prop := 1 < w.heap.size ∧ ∀ b, w.heap.size ≤ b → G b
theorem Room.on {w w' : World} (h : Room G w) (hb : Below w.heap.size w w') : Room G w' :=
  ⟨Nat.lt_of_lt_of_le h.1 hb.size, fun b hb' => h.2 b (Nat.le_trans hb.size hb')⟩
theorem Room.any {w : World} (h : 1 < w.heap.size) : Room (fun _ => True) w := ⟨h, fun _ _ => trivial⟩
/-- As it was in all blocks that it may lie in. -/
theorem cell_keep {w w' : World} {b : Nat} (h : w'.heap[b]? = w.heap[b]?) (o : Nat) : w'.cell? ⟨b, o, none⟩ = w.cell? ⟨b, o, none⟩ := by
  simp [World.cell?, h]
theorem Rd.keepG {w w' : World} {B n : Nat} {A : Option Addr} {bs : List UInt8} (h : Rd w B A n bs) (hg : 0 < n → ∀ b o, A = some ⟨b, o, none⟩ → G b) (hk : ∀ b, b < B → G b → w'.heap[b]? = w.heap[b]?) : Rd w' B A n bs :=
  ⟨h.1, fun hn => by
    obtain ⟨b, o, e, hb, hc⟩ := h.2 hn
    exact ⟨b, o, e, hb, fun j u hu => (cell_keep (hk b hb (hg hn b o e)) _).trans (hc j u hu)⟩⟩
theorem NHas.keepG {w w' : World} {B b n c n' c' : Nat} {t : T} {A A' : Option Addr} {x y : Option Nat} (h : NHas G w B t b A n c A' n' c' x y) (hk : ∀ b, b < B → G b → w'.heap[b]? = w.heap[b]?) : NHas G w' B t b A n c A' n' c' x y :=
  ⟨h.lt, (hk b h.lt h.gd.1).trans h.whole, h.key.keepG h.gd.2.1 hk, h.knc, h.kle, h.val.keepG h.gd.2.2 hk, h.vnc, h.vle, h.gd⟩
theorem NIn.keepG {w w' : World} {B : Nat} (hk : ∀ b, b < B → G b → w'.heap[b]? = w.heap[b]?) : ∀ {t : T} {b : Nat}, NIn G w B t b → NIn G w' B t b
  | .leaf _ _, _, ⟨A, n, c, A', n', c', h⟩ => ⟨A, n, c, A', n', c', h.keepG hk⟩
  | .node _ _, _, ⟨A, n, c, A', n', c', x, y, h, h1, h2⟩ => ⟨A, n, c, A', n', c', x, y, h.keepG hk, NIn.keepG hk h1, NIn.keepG hk h2⟩
theorem NHas.regood {G' : Nat → Prop} {w : World} {B b n c n' c' : Nat} {t : T} {A A' : Option Addr} {x y : Option Nat} (h : NHas G w B t b A n c A' n' c' x y) (hk : ∀ b, b < B → G b → G' b) : NHas G' w B t b A n c A' n' c' x y :=
  ⟨h.lt, h.whole, h.key, h.knc, h.kle, h.val, h.vnc, h.vle, hk _ h.lt h.gd.1,
    fun hn b' o e => by
      obtain ⟨b2, o2, e2, hb2, _⟩ := h.key.2 hn
      have := h.gd.2.1 hn b2 o2 e2
      rw [e2] at e; injection e with e; injection e with e _; subst e
      exact hk _ hb2 this,
    fun hn b' o e => by
      obtain ⟨b2, o2, e2, hb2, _⟩ := h.val.2 hn
      have := h.gd.2.2 hn b2 o2 e2
      rw [e2] at e; injection e with e; injection e with e _; subst e
      exact hk _ hb2 this⟩
theorem NIn.regood {G' : Nat → Prop} {w : World} {B : Nat} (hk : ∀ b, b < B → G b → G' b) : ∀ {t : T} {b : Nat}, NIn G w B t b → NIn G' w B t b
  | .leaf _ _, _, ⟨A, n, c, A', n', c', h⟩ => ⟨A, n, c, A', n', c', h.regood hk⟩
  | .node _ _, _, ⟨A, n, c, A', n', c', x, y, h, h1, h2⟩ => ⟨A, n, c, A', n', c', x, y, h.regood hk, NIn.regood hk h1, NIn.regood hk h2⟩
theorem PIn.keepG {w w' : World} {B : Nat} (hk : ∀ b, b < B → G b → w'.heap[b]? = w.heap[b]?) {o : Option T} {p : Option Nat} (h : PIn G w B o p) : PIn G w' B o p := by
  cases o with
  | none => exact h
  | some t => obtain ⟨b, e, h⟩ := h; exact ⟨b, e, h.keepG hk⟩
theorem PIn.regood {G' : Nat → Prop} {w : World} {B : Nat} (hk : ∀ b, b < B → G b → G' b) {o : Option T} {p : Option Nat} (h : PIn G w B o p) : PIn G' w B o p := by
  cases o with
  | none => exact h
  | some t => obtain ⟨b, e, h⟩ := h; exact ⟨b, e, h.regood hk⟩
theorem TIn.keepG {w w' : World} {B : Nat} (hk : ∀ b, b < B → G b → w'.heap[b]? = w.heap[b]?) {o : Option T} {g : Nat} (h : TIn G w B o g) : TIn G w' B o g := by
  obtain ⟨hg, gg, p, h1, h2⟩ := h
  exact ⟨hg, gg, p, (hk g hg gg).trans h1, h2.keepG hk⟩
theorem TIn.regood {G' : Nat → Prop} {w : World} {B : Nat} (hk : ∀ b, b < B → G b → G' b) {o : Option T} {g : Nat} (h : TIn G w B o g) : TIn G' w B o g := by
  obtain ⟨hg, gg, p, h1, h2⟩ := h
  exact ⟨hg, hk _ hg gg, p, h1, h2.regood hk⟩
end Go.Proofs.YtceillnmcccckaaDoor
