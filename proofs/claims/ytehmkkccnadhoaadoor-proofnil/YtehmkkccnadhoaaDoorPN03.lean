/-
  The order of byte strings, as the model compares strings and as bytes.Compare does: plain mathematics, no condition.
  Balanced trees as plain data: how they grow, what their leaves are, how high they are: plain mathematics, no condition.
  How bytes, lists of bytes and fields lie in memory: small facts that the walks lean on: no condition.
  Small facts on results that lie in cells, on rows of cells that are stored whole, and on arrays that are compared: no condition.
  Copies of bytes, their order and whether they are the same: what bytes.Clone, bytes.Compare and bytes.Equal return: condition: the bytes are read.
  How nodes and trees lie in memory, and what their sums are: definitions and small facts: no condition.
  What the small functions on nodes return: isLeaf, isRight, side, least, upmost, New: condition: the nodes lie in memory.
  What sizeBytes returns: the eight bytes of a number, the highest first: no condition.
-/
import Derived.Lib.Bytealg
import Derived.Test.YtehmkkccnadhoaaDoorProg
import Derived.WalkKit
import Derived.WalkSpells
import Derived.Lib.Hide
import Derived.Deep.WholeRow
import Derived.Deep.MidRow
import Derived.Deep.Draws
import Derived.Stop.BytesEq
import Derived.Maps.AppendAt
import Derived.Deep.AppendLies
import Derived.Laws.OwnMore
import Derived.Lib.SlBytesConst
import Derived.IntWalk
import Derived.StillTailTactics
import Derived.Deep.DeepCutAuto
import Derived.Deep.QuietTactic
import Derived.BigQuiet
import Derived.Deep.CutBlock
import Derived.Laws.MakeOwn
import Derived.Lib.SliceRun
import Derived.Lib.BytesEntry
import Derived.Test.YtehmkkccnadhoaaDoorPN02
namespace Go.Proofs.YtehmkkccnadhoaaDoor
namespace Tr

/-- a stands ahead of b. -/
def lt (a b : List UInt8) : Bool := Go.Op.bytesLess a b

theorem lt_cons (a b : UInt8) (x y : List UInt8) : lt (a :: x) (b :: y) = (decide (a < b) || (a == b && lt x y)) := rfl
theorem lt_nil (a : List UInt8) : lt a [] = false := by cases a <;> rfl
theorem lt_irrefl : ∀ a, lt a a = false
  | [] => rfl
  | a :: x => by
    rw [lt_cons, lt_irrefl x]
    simp
theorem lt_trans : ∀ a b c, lt a b = true → lt b c = true → lt a c = true
  | _, [], _, h, _ => by rw [lt_nil] at h; cases h
  | _, _ :: _, [], _, h => by rw [lt_nil] at h; cases h
  | [], _ :: _, _ :: _, _, _ => rfl
  | a :: x, b :: y, c :: z, h1, h2 => by
    rw [lt_cons] at h1 h2 ⊢
    simp only [Bool.or_eq_true, decide_eq_true_eq, Bool.and_eq_true, beq_iff_eq] at h1 h2 ⊢
    rcases h1 with h1 | ⟨rfl, h1⟩
    · rcases h2 with h2 | ⟨rfl, h2⟩
      · exact .inl (UInt8.lt_trans h1 h2)
      · exact .inl h1
    · rcases h2 with h2 | ⟨rfl, h2⟩
      · exact .inl h2
      · exact .inr ⟨rfl, lt_trans x y z h1 h2⟩
theorem lt_tri : ∀ a b, lt a b = false → lt b a = false → a = b
  | [], [], _, _ => rfl
  | [], _ :: _, h, _ => by cases h
  | _ :: _, [], _, h => by cases h
  | a :: x, b :: y, h1, h2 => by
    rw [lt_cons] at h1 h2
    simp only [Bool.or_eq_false_iff, decide_eq_false_iff_not, Bool.and_eq_false_iff, beq_eq_false_iff_ne] at h1 h2
    have hab : a = b := UInt8.le_antisymm (UInt8.not_lt.1 h2.1) (UInt8.not_lt.1 h1.1)
    subst hab
    rw [lt_tri x y (by rcases h1.2 with h | h; exact absurd rfl h; exact h) (by rcases h2.2 with h | h; exact absurd rfl h; exact h)]
/-- Not ahead of: behind, or the same. -/
theorem lt_of_not {a b : List UInt8} (h : lt a b = false) (hne : a ≠ b) : lt b a = true := by
  cases h2 : lt b a with
  | true => rfl
  | false => exact absurd (lt_tri a b h h2) hne
theorem cmp_self : ∀ a, Lib.compareBytes a a = 0
  | [] => rfl
  | a :: x => by
    unfold Lib.compareBytes
    rw [if_neg (UInt8.lt_irrefl a), if_neg (UInt8.lt_irrefl a)]
    exact cmp_self x
theorem cmp_lt : ∀ a b, lt a b = true → Lib.compareBytes a b = -1
  | _, [], h => by rw [lt_nil] at h; cases h
  | [], _ :: _, _ => rfl
  | a :: x, b :: y, h => by
    rw [lt_cons] at h
    simp only [Bool.or_eq_true, decide_eq_true_eq, Bool.and_eq_true, beq_iff_eq] at h
    unfold Lib.compareBytes
    rcases h with h | ⟨rfl, h⟩
    · rw [if_pos h]
    · rw [if_neg (UInt8.lt_irrefl a), if_neg (UInt8.lt_irrefl a)]
      exact cmp_lt x y h
theorem cmp_gt : ∀ a b, lt b a = true → Lib.compareBytes a b = 1
  | [], _, h => by rw [lt_nil] at h; cases h
  | _ :: _, [], _ => rfl
  | a :: x, b :: y, h => by
    rw [lt_cons] at h
    simp only [Bool.or_eq_true, decide_eq_true_eq, Bool.and_eq_true, beq_iff_eq] at h
    unfold Lib.compareBytes
    rcases h with h | ⟨rfl, h⟩
    · rw [if_neg (fun h2 => UInt8.lt_irrefl a (UInt8.lt_trans h2 h)), if_pos h]
    · rw [if_neg (UInt8.lt_irrefl b), if_neg (UInt8.lt_irrefl b)]
      exact cmp_gt x y h
theorem cmp_ge (a b : List UInt8) (h : lt a b = false) : 0 ≤ Lib.compareBytes a b := by
  by_cases e : a = b
  · subst e; rw [cmp_self]; omega
  · rw [cmp_gt a b (lt_of_not h e)]; omega
/-- What isRight answers. -/
theorem cmp_dec (a b : List UInt8) : decide (0 ≤ Lib.compareBytes a b) = !lt a b := by
  cases h : lt a b with
  | true => rw [cmp_lt a b h]; decide
  | false => have := cmp_ge a b h; simp [this]
end Tr
end Go.Proofs.YtehmkkccnadhoaaDoor
namespace Go.Proofs.YtehmkkccnadhoaaDoor
namespace Tr

inductive T where
  | leaf (k v : List UInt8)
  | node (l r : T)

abbrev Prs := List (List UInt8 × List UInt8)

namespace T
def least : T → List UInt8
  | leaf k _ => k
  | node l _ => l.least
def key : T → List UInt8
  | leaf k _ => k
  | node _ r => r.least
def val : T → List UInt8
  | leaf _ v => v
  | node _ _ => []
def h : T → Nat
  | leaf _ _ => 0
  | node l r => 1 + max l.h r.h
def n : T → Nat
  | leaf _ _ => 1
  | node l r => l.n + r.n
def leaves : T → Prs
  | leaf k v => [(k, v)]
  | node l r => l.leaves ++ r.leaves

theorem n_pos : ∀ t : T, 0 < t.n
  | leaf _ _ => Nat.one_pos
  | node l r => by have := n_pos l; show 0 < l.n + r.n; omega
theorem h_lt : ∀ t : T, t.h < t.n
  | leaf _ _ => Nat.one_pos
  | node l r => by
    have h1 := h_lt l
    have h2 := h_lt r
    have p1 := n_pos l
    have p2 := n_pos r
    show 1 + max l.h r.h < l.n + r.n
    omega
theorem n_leaves : ∀ t : T, t.leaves.length = t.n
  | leaf _ _ => rfl
  | node l r => by
    show (l.leaves ++ r.leaves).length = l.n + r.n
    rw [List.length_append, n_leaves l, n_leaves r]
theorem node_of_h {t : T} (h : 0 < t.h) : ∃ l r, t = node l r := by
  cases t with
  | leaf k v => exact absurd h (by show ¬ 0 < 0; omega)
  | node l r => exact ⟨l, r, rfl⟩
theorem head_leaves : ∀ t : T, ∃ v r, t.leaves = (t.least, v) :: r
  | leaf k v => ⟨v, [], rfl⟩
  | node l r => by
    obtain ⟨v, x, hx⟩ := head_leaves l
    exact ⟨v, x ++ r.leaves, by show l.leaves ++ r.leaves = _; rw [hx]; rfl⟩
end T

/-- A node above two, balanced. -/
def leanL (a m r : T) : T :=
  if a.h < m.h then
    match m with
    | .leaf _ _ => .node a (.node m r)
    | .node b c => .node (.node a b) (.node c r)
  else .node a (.node m r)
def leanR (l m d : T) : T :=
  if d.h < m.h then
    match m with
    | .leaf _ _ => .node (.node l m) d
    | .node b c => .node (.node l b) (.node c d)
  else .node (.node l m) d
def bal (l r : T) : T :=
  if r.h + 1 < l.h then
    match l with
    | .leaf _ _ => .node l r
    | .node a m => leanL a m r
  else if l.h + 1 < r.h then
    match r with
    | .leaf _ _ => .node l r
    | .node m d => leanR l m d
  else .node l r

def beside (t : T) (k v : List UInt8) : T :=
  if lt k t.least then .node (.leaf k v) t else if lt t.least k then .node t (.leaf k v) else .leaf k v
def T.put : T → List UInt8 → List UInt8 → T
  | .leaf k' v', k, v => beside (.leaf k' v') k v
  | .node l r, k, v => if lt k r.least then bal (l.put k v) r else bal l (r.put k v)
theorem leanL_leaves (a m r : T) : (leanL a m r).leaves = a.leaves ++ m.leaves ++ r.leaves := by
  unfold leanL
  split
  · split <;> simp [T.leaves]
  · simp [T.leaves]
theorem leanR_leaves (l m d : T) : (leanR l m d).leaves = l.leaves ++ m.leaves ++ d.leaves := by
  unfold leanR
  split
  · split <;> simp [T.leaves]
  · simp [T.leaves]
theorem bal_leaves (l r : T) : (bal l r).leaves = l.leaves ++ r.leaves := by
  unfold bal
  split
  · split
    · simp [T.leaves]
    · rw [leanL_leaves]; simp [T.leaves]
  · split
    · split
      · simp [T.leaves]
      · rw [leanR_leaves]; simp [T.leaves]
    · simp [T.leaves]
theorem bal_n (l r : T) : (bal l r).n = l.n + r.n := by
  rw [← T.n_leaves, bal_leaves, List.length_append, T.n_leaves, T.n_leaves]

theorem h_node (l r : T) : (T.node l r).h = 1 + max l.h r.h := rfl
end Tr
end Go.Proofs.YtehmkkccnadhoaaDoor
namespace Go.Proofs.YtehmkkccnadhoaaDoor
open Go.RowKit

/-- Block g is just the cells cs, of element type t, and none of them is frozen. -/
def Whole (w : World) (g : Nat) (t : TypeId) (cs : Array Value) : Prop := w.heap[g]? = some (.cells cs t (0, 0))

section
variable {w w' : World} {g : Nat} {t : TypeId} {cs : Array Value}
theorem Whole.lt (h : Whole w g t cs) : g < w.heap.size := (Array.getElem?_eq_some_iff.1 h).1
theorem Whole.at_ (h : Whole w g t cs) {i : Nat} {v : Value} (hv : cs[i]? = some v) : w.cell? ⟨g, i, none⟩ = some v :=
  (cell_of_row w g i cs t (0, 0) h).trans hv
theorem Whole.free (h : Whole w g t cs) (i : Nat) : w.frozen? ⟨g, i, none⟩ = false := by
  have h' : w.heap[g]? = some (.cells cs t (0, 0)) := h
  simp [World.frozen?, h']
theorem Whole.made (w : World) (t : TypeId) (cs : Array Value) : Whole (w.alloc (.cells cs t)) w.heap.size t cs := heap_alloc_last w _
theorem Whole.drewN (h : Whole w g t cs) (n : Nat) : Whole (w.drewN n) g t cs := h
theorem Whole.alloc (h : Whole w g t cs) (o : Obj) : Whole (w.alloc o) g t cs := (Below.heap_alloc w o g h.lt).trans h
theorem Whole.set (h : Whole w g t cs) (i : Nat) (u : Value) : Whole (w.setCell ⟨g, i, none⟩ u) g t (cs.setIfInBounds i u) :=
  heap_setCell_same w g i cs t u h
theorem Whole.below {B : Nat} (h : Whole w g t cs) (hb : Below B w w') (hg : g < B) : Whole w' g t cs := (hb.block g hg).trans h
end

theorem below_drewN {B : Nat} {a w : World} (h : Below B a w) (n : Nat) : Below B a (w.drewN n) := ⟨h.os, h.tape, h.output, h.size, h.block⟩

/-- The slice with address A and n elements of so many cells each reads as the cells xs, in a block below B. -/
def RdV (w : World) (B size : Nat) (A : Option Addr) (n : Nat) (xs : List Value) : Prop :=
  xs.length = n * size ∧ (0 < n → ∃ b o, A = some ⟨b, o, none⟩ ∧ b < B ∧ ∀ j u, xs[j]? = some u → w.cell? ⟨b, o + j, none⟩ = some u)

section
variable {w w' : World} {B B' size n : Nat} {A : Option Addr} {xs : List Value}
theorem RdV.nil : RdV w B size A 0 [] := ⟨by simp, fun h => absurd h (by omega)⟩
theorem RdV.keep (h : RdV w B size A n xs) (hk : ∀ b o, b < B → w'.cell? ⟨b, o, none⟩ = w.cell? ⟨b, o, none⟩) : RdV w' B size A n xs :=
  ⟨h.1, fun hn => by
    obtain ⟨b, o, e, hb, hc⟩ := h.2 hn
    exact ⟨b, o, e, hb, fun j u hu => (hk _ _ hb).trans (hc j u hu)⟩⟩
theorem RdV.more (h : RdV w B size A n xs) (hB : B ≤ B') : RdV w B' size A n xs :=
  ⟨h.1, fun hn => by
    obtain ⟨b, o, e, hb, hc⟩ := h.2 hn
    exact ⟨b, o, e, by omega, hc⟩⟩
theorem RdV.below (h : RdV w B size A n xs) (hb : Below B' w w') (hB : B ≤ B') : RdV w' B size A n xs := h.keep fun b o hp => hb.cell (p := ⟨b, o, none⟩) (Nat.lt_of_lt_of_le hp hB)
theorem RdV.of_own {base : Nat} {e : TypeId} {c : Nat} (h : w.ownsRow base e size (.slice A n c) n xs) : RdV w w.heap.size size A n xs := by
  refine ⟨h.1, fun hn => ?_⟩
  obtain ⟨g, cap, hv, _, hlt⟩ := h.form hn
  have hA : A = some ⟨g, 0, none⟩ := by injection hv
  subst hA
  refine ⟨g, 0, rfl, hlt, fun j u hu => ?_⟩
  have := h.cells (g := g) rfl j u hu
  rwa [Addr.add_mid] at this
end

theorem own_form {w : World} {base n size : Nat} {e : TypeId} {v : Value} {xs : List Value} (h : w.ownsRow base e size v n xs) : ∃ A c, v = .slice A n c ∧ n ≤ c ∧ c ≤ maxLen := by
  rcases h.2 with ⟨rfl, rfl⟩ | ⟨g, cap, cur, rfl, _, _, hnc, hm, _⟩
  · exact ⟨none, 0, rfl, Nat.le_refl _, Nat.zero_le _⟩
  · exact ⟨_, cap, rfl, hnc, hm⟩

def V8 (b : UInt8) : Value := .int .u8 b.toNat
/-- It reads as the bytes bs. -/
def Rd (w : World) (B : Nat) (A : Option Addr) (n : Nat) (bs : List UInt8) : Prop := RdV w B 1 A n (bs.map V8)

section
variable {w w' : World} {B B' n : Nat} {A : Option Addr} {bs : List UInt8}
theorem Rd.len (h : Rd w B A n bs) : bs.length = n := by have := h.1; simpa using this
theorem Rd.nil : Rd w B A 0 [] := RdV.nil
theorem Rd.more (h : Rd w B A n bs) (hB : B ≤ B') : Rd w B' A n bs := RdV.more h hB
theorem Rd.below (h : Rd w B A n bs) (hb : Below B' w w') (hB : B ≤ B') : Rd w' B A n bs := RdV.below h hb hB
theorem Rd.drewN (h : Rd w B A n bs) (k : Nat) : Rd (w.drewN k) B A n bs := h
theorem Rd.at_ (h : Rd w B A n bs) (hn : 0 < n) : ∃ b o, A = some ⟨b, o, none⟩ ∧ b < B ∧ ∀ j v, bs[j]? = some v → w.cell? ⟨b, o + j, none⟩ = some (.int .u8 v.toNat) := by
  obtain ⟨b, o, e, hb, hc⟩ := h.2 hn
  exact ⟨b, o, e, hb, fun j v hv => hc j _ (by rw [List.getElem?_map, hv]; rfl)⟩
theorem Rd.of_own {base : Nat} {c : Nat} (h : w.ownsRow base 5 1 (.slice A n c) n (bs.map V8)) : Rd w w.heap.size A n bs := RdV.of_own h
theorem Rd.mk_ (hn : bs.length = n) (b o : Nat) (hb : b < B) (h : ∀ j v, bs[j]? = some v → w.cell? ⟨b, o + j, none⟩ = some (V8 v)) : Rd w B (some ⟨b, o, none⟩) n bs :=
  ⟨by simpa using hn, fun _ => ⟨b, o, rfl, hb, fun j u hu => by
    rw [List.getElem?_map, Option.map_eq_some_iff] at hu
    obtain ⟨v, hv, rfl⟩ := hu
    exact h j v hv⟩⟩
/-- A part of it. -/
theorem Rd.part {b o : Nat} (h : Rd w B (some ⟨b, o, none⟩) n bs) (k m : Nat) (hk : k + m ≤ n) : Rd w B (some ⟨b, o + k, none⟩) m ((bs.drop k).take m) := by
  have hl := h.len
  rcases Nat.eq_zero_or_pos m with rfl | hm
  · rw [List.take_zero]; exact Rd.nil
  obtain ⟨b', o', e, hb, hc⟩ := h.at_ (by omega)
  injection e with e
  injection e with e1 e2
  subst e1 e2
  refine Rd.mk_ (by rw [List.length_take, List.length_drop]; omega) b (o + k) hb fun j v hv => ?_
  rw [List.getElem?_take] at hv
  split at hv
  · rw [List.getElem?_drop] at hv
    rw [Nat.add_assoc]
    exact hc _ v hv
  · cases hv
end

theorem info5 : (Tryd.prog.info? 5).map (fun i => (i.zero, i.size, i.bytes)) = some (some (.int .u8 0), 1, 1) := by kernel_rfl
theorem info_of {t : TypeId} {z : Value} {s b : Nat} (h : (Tryd.prog.info? t).map (fun i => (i.zero, i.size, i.bytes)) = some (some z, s, b)) :
    ∃ i, Tryd.prog.info? t = some i ∧ i.zero = some z ∧ i.size = s ∧ i.bytes = b := by
  cases hq : Tryd.prog.info? t with
  | none => simp [hq] at h
  | some i =>
    simp [hq] at h
    exact ⟨i, rfl, h.1, h.2.1, h.2.2⟩

/-- append of what is read onto a row of the call's own. -/
theorem run_append_rd (w : World) (base : Nat) (t ty e : TypeId) (z : Value) (size bytes : Nat) (ht : Tryd.prog.underlying t = some (.slice e))
    (hi : (Tryd.prog.info? e).map (fun i => (i.zero, i.size, i.bytes)) = some (some z, size, bytes)) (hzs : z.cells.size = size) (hsz : 0 < size)
    (v : Value) (n : Nat) (xs : List Value) (hown : w.ownsRow base e size v n xs)
    (B : Nat) (A : Option Addr) (m c : Nat) (news : List Value) (hr : RdV w B size A m news) (h1 : ∀ u ∈ news, u.oneCell' = true)
    (h63 : n + m ≤ maxLen) (hbytes : (n + m) * bytes ≤ 140737488355328) (hbase : base ≤ w.heap.size) :
    ∃ v' w', (Builtin.append_ #[t, t] ty #[v, .slice A m c]).run Tryd.prog w = .ok v' w' ∧ w'.ownsRow base e size v' (n + m) (xs ++ news) ∧ w.grownBy w' v.ownBlock ∧
      (v'.ownBlock = v.ownBlock ∨ v'.ownBlock = some w.heap.size) := by
  obtain ⟨i, hi, hz, hs, hby⟩ := info_of hi
  rcases A with _ | ad
  · have hm : m = 0 := by
      rcases Nat.eq_zero_or_pos m with h0 | h0
      · exact h0
      · obtain ⟨_, _, h, _⟩ := hr.2 h0
        cases h
    subst hm
    have hn : news = [] := List.eq_nil_of_length_eq_zero (by simpa using hr.1)
    subst hn
    refine ⟨v, w, ?_, by simpa using hown, World.grownBy.refl w _, .inl rfl⟩
    rcases hown.2 with ⟨rfl, rfl⟩ | ⟨g, cap, cur, rfl, _, _, hnc, _⟩
    · simp [Builtin.append_, run_underlying ht, sizeOf, typeInfo, hi, Builtin.lenOf, Builtin.firstCells]
    · simp [Builtin.append_, run_underlying ht, sizeOf, typeInfo, hi, Builtin.lenOf, Builtin.firstCells, hnc, storeCells]
  · have hcells : ∀ j u, news[j]? = some u → w.cell? (ad.add j) = some u := by
      intro j u hu
      rcases Nat.eq_zero_or_pos m with h0 | h0
      · subst h0
        have hn : news = [] := List.eq_nil_of_length_eq_zero (by simpa using hr.1)
        subst hn
        simp at hu
      · obtain ⟨b, o, h, _, hc⟩ := hr.2 h0
        obtain rfl := Option.some.inj h
        rw [Addr.add_mid]
        exact hc j u hu
    obtain ⟨v', w', hrun, h2, h3, _, h5⟩ := run_append_own_at (P := Tryd.prog) w base t ty e i z size bytes ht hi hz hs hby hzs hsz v n xs hown ad m c news hr.1 hcells h1 h63 hbytes hbase
    exact ⟨v', w', hrun, h2, h3, h5⟩

theorem wpList_append_rd {ops : Array Oper} {rest : List Oper} {o : Oper} {a : Act} {w : World} {Q : Exit → Act → World → Prop} (hgd : o.guard = none) (s x : Operand) (t e : TypeId) (z : Value) (size bytes : Nat)
    (ho : o.op = .call { callee := .builtin .append, args := #[s, x], argTypes := #[t, t] }) (ht : Tryd.prog.underlying t = some (.slice e))
    (hi : (Tryd.prog.info? e).map (fun i => (i.zero, i.size, i.bytes)) = some (some z, size, bytes)) (hzs : z.cells.size = size) (hsz : 0 < size)
    (base : Nat) (v : Value) (n : Nat) (xs : List Value) (hs : a.eval s = v) (hown : w.ownsRow base e size v n xs)
    (B : Nat) (A : Option Addr) (m c : Nat) (news : List Value) (hx : a.eval x = .slice A m c) (hr : RdV w B size A m news) (h1 : ∀ u ∈ news, u.oneCell' = true)
    (h63 : n + m ≤ maxLen) (hbytes : (n + m) * bytes ≤ 140737488355328) (hbase : base ≤ w.heap.size)
    (h : ∀ v' w', w'.ownsRow base e size v' (n + m) (xs ++ news) → Below base w w' → wpList Tryd.prog ops Q rest (a.put o.dst v') w') : wpList Tryd.prog ops Q (o :: rest) a w := by
  obtain ⟨v', w', hrun, h2, h3, _⟩ := run_append_rd w base t o.type e z size bytes ht hi hzs hsz v n xs hown B A m c news hr h1 h63 hbytes hbase
  refine wpList_plain hgd fun K hK => ?_
  unfold Oper.wp execOp
  simp only [ho, resolve, invoke, builtin, Sem.run_bind, Sem.run_pure, Result.andThen_ok, List.map_toArray, List.map_cons, List.map_nil, hs, hx, hrun]
  exact hK _ _ (h v' w' h2 ((Below.refl base w).grown h3 hbase (fun k hk => (hown.lt k hk).1)))

theorem one_bytes (bs : List UInt8) : ∀ u ∈ bs.map V8, u.oneCell' = true := by
  intro u hu
  simp only [List.mem_map] at hu
  obtain ⟨y, _, rfl⟩ := hu
  rfl

/-- append of bytes. -/
theorem wpList_append_b {ops : Array Oper} {rest : List Oper} {o : Oper} {a : Act} {w : World} {Q : Exit → Act → World → Prop} (hgd : o.guard = none) (s x : Operand)
    (ho : o.op = .call { callee := .builtin .append, args := #[s, x], argTypes := #[22, 22] })
    (base : Nat) (v : Value) (n : Nat) (bs : List UInt8) (hs : a.eval s = v) (hown : w.ownsRow base 5 1 v n (bs.map V8))
    (B : Nat) (A : Option Addr) (m c : Nat) (cs : List UInt8) (hx : a.eval x = .slice A m c) (hr : Rd w B A m cs)
    (hb : n + m ≤ 140737488355328) (hbase : base ≤ w.heap.size)
    (h : ∀ v' w', w'.ownsRow base 5 1 v' (n + m) ((bs ++ cs).map V8) → Below base w w' → wpList Tryd.prog ops Q rest (a.put o.dst v') w') : wpList Tryd.prog ops Q (o :: rest) a w :=
  wpList_append_rd hgd s x 22 5 _ 1 1 ho Tryd.underlying22 info5 rfl (by omega) base v n _ hs hown B A m c _ hx hr (one_bytes cs) (by unfold maxLen; omega) (by omega) hbase
    (fun v' w' h1 h2 => h v' w' (by rw [List.map_append]; exact h1) h2)

/-- string(b) of bytes that are read. -/
theorem run_string (w : World) (B : Nat) (A : Option Addr) (n c : Nat) (bs : List UInt8) (hr : Rd w B A n bs) : (convert 22 9 (.slice A n c)).run Tryd.prog w = .ok (.string ⟨bs.toArray⟩) w := by
  have hn := hr.len
  subst hn
  cases A with
  | none =>
    have hbs : bs = [] := by
      rcases Nat.eq_zero_or_pos bs.length with h0 | h0
      · exact List.eq_nil_of_length_eq_zero h0
      · obtain ⟨b, o, h1, _⟩ := hr.2 h0; cases h1
    subst hbs
    rw [run_convert_bytes_string w 22 9 5 none _ _ Tryd.underlying22 Tryd.underlying5 Tryd.underlying9]
    rfl
  | some ad =>
    refine run_convert_bytes_back w 22 9 5 ad c bs Tryd.underlying22 Tryd.underlying5 Tryd.underlying9 fun j hj => ?_
    obtain ⟨b, o, h1, _, h3⟩ := hr.at_ (by omega)
    injection h1 with h1
    subst h1
    rw [Addr.add_mid]
    exact h3 j _ (List.getElem?_eq_getElem hj)

theorem rd_new (w : World) (t : TypeId) (bs : List UInt8) (m : Nat) (hm : bs.length = m) (cs : Array Value) (hcs : cs = (bs.map V8).toArray) : Rd (w.alloc (.cells cs t)) (w.heap.size + 1) (some ⟨w.heap.size, 0, none⟩) m bs := by
  subst hcs
  exact Rd.mk_ hm _ _ (by omega) fun j v hv => (Whole.made w t _).at_ (by rw [Nat.zero_add, List.getElem?_toArray, List.getElem?_map, hv]; rfl)
/-- Zeroed bytes, as cells. -/
def zb (n : Nat) : Array Value := ((List.replicate n (0 : UInt8)).map V8).toArray
theorem zb_size (n : Nat) : (zb n).size = n := by simp [zb]
theorem zb_made (n : Nat) : madeCells (Value.int .u8 0).cells (n * 1) = zb n := by
  apply Array.ext
  · simp [size_madeCells, zb_size]
  · intro i h1 h2
    simp [madeCells, zb, Value.cells, V8, Nat.mod_one]
theorem run_mk (l c : Nat) (hl : l ≤ c) (hc : c ≤ 140737488355328) (L C : Int) (eL : L = l) (eC : C = c) (w : World) :
    (Instr.makeSlice 22 (.int .i64 L) (.int .i64 C)).run Tryd.prog w = .ok (.slice (some ⟨w.heap.size, 0, none⟩) l c) (w.alloc (.cells (zb c) 5)) := by
  subst eL eC
  obtain ⟨i, hi, hz, hs, hby⟩ := info_of info5
  have := run_make (P := Tryd.prog) w 22 5 i _ Tryd.underlying22 hi hz .i64 .i64 (l : Int) (c : Int) (by omega) (by omega) (by rw [hby]; omega) (by omega)
  rw [hs] at this
  simp only [Int.toNat_natCast] at this
  rw [zb_made] at this
  exact this
theorem size_alloc (w : World) (o : Obj) : (w.alloc o).heap.size = w.heap.size + 1 := by simp
end Go.Proofs.YtehmkkccnadhoaaDoor
namespace Go.Proofs.YtehmkkccnadhoaaDoor
open Go.RowKit

/-- Two results: the first one lies in a block, the second one in a slot. -/
theorem results_cell2 {fn : Func} {p q : Tmp} {ty : TypeId} (h : fn.results = #[.cell p ty, .tmp q]) (tmps : Array Value) (P : Program) (w : World) (a : Addr) (v : Value) (hp : tmps.getD p undef = .pointer (some a))
    (hl : (loadVar ty a).run P w = .ok v w) : (results fn tmps).run P w = .ok (.tuple #[v, tmps.getD q undef]) w := by
  have hp' : tmps[p]?.getD undef = .pointer (some a) := by simpa using hp
  simp only [results, h]
  simp [Result.andThen, hp', asAddr, hl]
/-- One result, which lies in a block. -/
theorem results_cell1 {fn : Func} {p : Tmp} {ty : TypeId} (h : fn.results = #[.cell p ty]) (tmps : Array Value) (P : Program) (w : World) (a : Addr) (v : Value) (hp : tmps.getD p undef = .pointer (some a))
    (hl : (loadVar ty a).run P w = .ok v w) : (results fn tmps).run P w = .ok v w := by
  have hp' : tmps[p]?.getD undef = .pointer (some a) := by simpa using hp
  simp only [results, h]
  simp [hp', asAddr, hl]

section
variable {w w' : World} {g : Nat} {t : TypeId} {cs vs : Array Value}
theorem Whole.other (h : Whole w g t cs) {p : Addr} (hp : g ≠ p.block) (u : Value) : Whole (w.setCell p u) g t cs := (Below.heap_setCell w p u g hp).trans h
theorem Whole.range (h : Whole w g t cs) : w.rangeAt g 0 cs.toList := by
  have := World.rangeAt_of_block (w := w) (b := g) (C := cs) h 0 cs.size
  rwa [Nat.zero_add, Array.extract_size] at this
theorem Whole.there_ (h : Whole w g t cs) : w.there g 0 cs.size := fun j hj => by
  rw [Nat.zero_add]
  exact ⟨by rw [h.at_ (Array.getElem?_eq_getElem hj)]; rfl, h.free j⟩
theorem Whole.midthere (h : Whole w g t cs) (o n : Nat) (hn : o + n ≤ cs.size) : w.there g o n := fun j hj =>
  ⟨by rw [h.at_ (Array.getElem?_eq_getElem (by omega))]; rfl, h.free _⟩
theorem Whole.setOther {b : Nat} (h : Whole w g t cs) (hb : g ≠ b) : ∀ (vs : List Value) (o : Nat), Whole (w.setCells b o vs) g t cs := by
  intro vs
  induction vs generalizing w with
  | nil => intro o; exact h
  | cons v r ih => intro o; exact ih (h.other (p := ⟨b, o, none⟩) hb v) (o + 1)
end
/-- A stretch of a whole block, stored anew. -/
theorem Whole.setCells {g : Nat} {t : TypeId} : ∀ (vs : List Value) (pre old post : List Value) {w : World}, Whole w g t (pre ++ (old ++ post)).toArray → old.length = vs.length →
    Whole (w.setCells g pre.length vs) g t (pre ++ (vs ++ post)).toArray := by
  intro vs
  induction vs with
  | nil =>
    intro pre old post w h hl
    have : old = [] := List.eq_nil_of_length_eq_zero (by simpa using hl)
    subst this
    exact h
  | cons v r ih =>
    intro pre old post w h hl
    cases old with
    | nil => simp at hl
    | cons u old =>
      have h1 := h.set pre.length v
      have e : ((pre ++ (u :: old ++ post)).toArray).setIfInBounds pre.length v = ((pre ++ [v]) ++ (old ++ post)).toArray := by
        simp
      rw [e] at h1
      have h2 := ih (pre ++ [v]) old post h1 (by simpa using hl)
      simpa [World.setCells] using h2
theorem Whole.setAll {w : World} {g : Nat} {t : TypeId} {cs vs : Array Value} (h : Whole w g t cs) (hl : cs.size = vs.size) : Whole (w.setCells g 0 vs.toList) g t vs := by
  have h1 : Whole w g t ([] ++ (cs.toList ++ [])).toArray := by simpa using h
  have := Whole.setCells vs.toList [] cs.toList [] h1 (by simpa using hl)
  simpa using this
theorem below_setCells {B : Nat} (w : World) (b : Nat) (vs : List Value) : ∀ (o : Nat) {w' : World}, Below B w w' → B ≤ b → Below B w (w'.setCells b o vs) := by
  induction vs with
  | nil => intro o w' h _; exact h
  | cons v r ih => intro o w' h hb; exact ih (o + 1) (h.setCell (p := ⟨b, o, none⟩) hb v) hb
theorem size_setCells (b : Nat) (vs : List Value) : ∀ (o : Nat) (w : World), (w.setCells b o vs).heap.size = w.heap.size := by
  induction vs with
  | nil => intro o w; rfl
  | cons v r ih => intro o w; rw [World.setCells, ih]; simp

/-- A whole block is read. -/
theorem load_whole {w : World} {g : Nat} {t : TypeId} {cs : Array Value} (h : Whole w g t cs) (ty : TypeId) (d : TypeDesc) (hu : Tryd.prog.underlying ty = some d) (hd : d.isRow = true) (hi : (Tryd.prog.info? ty).map (·.size) = some cs.size) :
    (loadVar ty ⟨g, 0, none⟩).run Tryd.prog w = .ok (.agg cs) w := by
  have := run_loadVar_mid (P := Tryd.prog) w g 0 ty cs.toList d h.range hu hd (by rw [hi, Array.length_toList])
  rwa [Array.toArray_toList] at this
theorem info49 : (Tryd.prog.info? 44).map (·.size) = some 32 := by kernel_rfl
theorem info64 : (Tryd.prog.info? 67).map (·.size) = some 68 := by kernel_rfl
theorem zero49 : ∀ w, (zeroValue 44).run Tryd.prog w = .ok (.agg (zb 32)) w := (zero_of_info (P := Tryd.prog) (t := 44) (v := .agg (zb 32)) (n := 32) (by kernel_rfl)).1

theorem run_eq49 (a b : List UInt8) (ha : a.length = 32) (hb : b.length = 32) (w : World) : (Op.equalIn 10000 44 (.agg (Sh.bcells a)) (.agg (Sh.bcells b))).run Tryd.prog w = .ok (a == b) w :=
  run_equalIn_bytes w 9998 44 5 32 Tryd.underlying44 Tryd.underlying5 (fun w => by
    obtain ⟨i, hi, _, hs, _⟩ := info_of info5
    simp [sizeOf, typeInfo, hi, hs]) _ _ ha hb

theorem reads_of_rd {w : World} {B : Nat} {A : Option Addr} {n : Nat} {bs : List UInt8} (h : Rd w B A n bs) (hB : B ≤ w.heap.size) : Sh.Reads w A n bs :=
  ⟨h.len, fun hn => by
    obtain ⟨b, o, e, hb, hc⟩ := h.at_ hn
    exact ⟨b, o, e, by omega, hc⟩⟩
theorem rd_of_reads {w : World} {A : Option Addr} {n : Nat} {bs : List UInt8} (h : Sh.Reads w A n bs) : Rd w w.heap.size A n bs := by
  refine ⟨by simpa using h.1, fun hn => ?_⟩
  obtain ⟨b, o, e, hb, hc⟩ := h.2 hn
  refine ⟨b, o, e, hb, fun j u hu => ?_⟩
  rw [List.getElem?_map, Option.map_eq_some_iff] at hu
  obtain ⟨v, hv, rfl⟩ := hu
  exact hc j v hv
end Go.Proofs.YtehmkkccnadhoaaDoor
namespace Go.Proofs.YtehmkkccnadhoaaDoor
open Go.RowKit

/-- A new slice that reads as bytes. -/
def BytesPost (w : World) (bs : List UInt8) (e : Ending) (w' : World) : Prop :=
  ∃ A n c, e = .returned (.slice A n c) ∧ Rd w' w'.heap.size A n bs ∧ n ≤ c ∧ Below w.heap.size w w'

theorem rd_zero {w : World} {B : Nat} {A : Option Addr} {n : Nat} {bs : List UInt8} (h : Rd w B A n bs) (hA : A = none) : n = 0 ∧ bs = [] := by
  subst hA
  have hl := h.len
  rcases Nat.eq_zero_or_pos n with h0 | h0
  · exact ⟨h0, List.eq_nil_of_length_eq_zero (by omega)⟩
  · obtain ⟨_, _, e, _⟩ := h.2 h0
    cases e

/-- A slice of a block that was not there, that may be written. -/
def Fresh (B : Nat) (w : World) (A : Option Addr) : Prop := ∀ b o, A = some ⟨b, o, none⟩ → B ≤ b ∧ b < w.heap.size ∧ ∀ j, w.frozen? ⟨b, j, none⟩ = false
theorem Fresh.own {w : World} {base size c n n' : Nat} {e : TypeId} {A : Option Addr} {xs : List Value} (h : w.ownsRow base e size (.slice A n c) n' xs) : Fresh base w A := fun b o ea => by
  subst ea
  rcases h.2 with ⟨h1, _⟩ | ⟨g, cap, cur, h1, h2, h3, _⟩
  · cases h1
  · have e1 : (⟨b, o, none⟩ : Addr) = ⟨g, 0, none⟩ := by injection h1 with h1; injection h1
    injection e1 with e1
    subst e1
    exact ⟨h2, (Array.getElem?_eq_some_iff.1 h3).1, fun j => by simp [World.frozen?, h3]⟩
theorem Fresh.below {w w' : World} {B B' : Nat} {A : Option Addr} (h : Fresh B w A) (hb : Below B' w w') (hB : w.heap.size ≤ B') : Fresh B w' A := fun b o e => by
  obtain ⟨h1, h2, h3⟩ := h b o e
  exact ⟨h1, Nat.lt_of_lt_of_le h2 hb.size, fun j => by rw [← h3 j]; exact World.frozen?_of_block (hb.block b (by omega))⟩
theorem Fresh.keep {w w' : World} {B : Nat} {A : Option Addr} (h : Fresh B w A) (hk : ∀ b, B ≤ b → b < w.heap.size → w'.heap[b]? = w.heap[b]?) (hs : w.heap.size ≤ w'.heap.size) : Fresh B w' A := fun b o e => by
  obtain ⟨h1, h2, h3⟩ := h b o e
  exact ⟨h1, Nat.lt_of_lt_of_le h2 hs, fun j => by rw [← h3 j]; exact World.frozen?_of_block (hk b h1 h2)⟩
theorem Fresh.less {w : World} {B B' : Nat} {A : Option Addr} (h : Fresh B w A) (hB : B' ≤ B) : Fresh B' w A := fun b o e => ⟨Nat.le_trans hB (h b o e).1, (h b o e).2⟩
theorem Fresh.setCell {w : World} {B : Nat} {A : Option Addr} (h : Fresh B w A) (p : Addr) (u : Value) : Fresh B (w.setCell p u) A := fun b o e => by
  obtain ⟨h1, h2, h3⟩ := h b o e
  exact ⟨h1, by rw [World.size_setCell]; exact h2, fun j => by rw [World.frozen?_setCell]; exact h3 j⟩

/-- A clone: bytes in a block that was not there. -/
def ClonePost (w : World) (bs : List UInt8) (e : Ending) (w' : World) : Prop :=
  ∃ A n c, e = .returned (.slice A n c) ∧ Rd w' w'.heap.size A n bs ∧ n ≤ c ∧ Fresh w.heap.size w' A ∧ Below w.heap.size w w'

theorem clone_new (A : Option Addr) (n c : Nat) (bs : List UInt8) (w : World) (hr : Rd w w.heap.size A n bs) (hn : n ≤ 70368744177664) :
    Calls Tryd.prog 38 #[.slice A n c] w (ClonePost w bs) := by
  have HR := Lib.hid hr
  clear hr
  have heq := fun w : World => Lib.run_eql_slice_nil (P := Tryd.prog) w 22 5 A n c 0 0 Tryd.underlying22
  cases A with
  | none =>
    go_enter Tryd.func38, Tryd.ntmps38
    go_wp2_with fail
    go_ret
    obtain ⟨rfl, rfl⟩ := rd_zero HR.out rfl
    exact ⟨none, 0, 0, rfl, Rd.nil, Nat.le_refl _, (fun _ _ h => by cases h), Below.refl _ _⟩
  | some ad =>
    go_enter Tryd.func38, Tryd.ntmps38
    go_upto_region 3 with (fail)
    refine wp_region_lit ?_
    iterate 6 go_step
    have hb0 : Below w.heap.size w (w.alloc (.cells #[] 5)) := (Below.refl _ _).alloc (Nat.le_refl _) _
    refine wpList_append_b rfl (.tmp 5) (.tmp 6) rfl w.heap.size _ 0 [] rfl (World.ownsRow_lit w #[] 0 (Nat.le_refl _) (by unfold maxLen; omega) rfl) _ (some ad) n c bs rfl (HR.out.below hb0 (Nat.le_refl _)) (by omega) (by simp) ?_
    intro v1 w1 hown hb1
    have hb : Below w.heap.size w w1 := hb0.trans hb1
    rw [Nat.zero_add, List.nil_append] at hown
    obtain ⟨A', c', rfl, hnc, _⟩ := own_form hown
    have hr := Rd.of_own hown
    have hnew : Fresh w.heap.size w1 A' := Fresh.own hown
    have HH := Lib.hid (And.intro hb (And.intro hr hnew))
    clear hb hr hown hb0 hb1 heq hnew
    go_simp
    go_wp2_with fail
    go_ret
    obtain ⟨hb, hr, hnew⟩ := HH.out
    exact ⟨A', n, c', rfl, hr, hnc, hnew, hb⟩

/-- Bytes that are read, as the model's own functions load them. -/
theorem run_loadB (w : World) (B : Nat) (A : Addr) (n : Nat) (bs : List UInt8) (hr : Rd w B (some A) n bs) : (Extern.Bytes.loadBytes A n .empty).run Tryd.prog w = .ok ⟨bs.toArray⟩ w := by
  have hl := hr.len
  have h := Lib.run_loadBytesX (P := Tryd.prog) w (bs.map fun b => (b.toNat : Int)) A .empty (fun j x hj => by
    rw [List.getElem?_map, Option.map_eq_some_iff] at hj
    obtain ⟨v, hv, rfl⟩ := hj
    have hlt := (List.getElem?_eq_some_iff.1 hv).1
    obtain ⟨b, o, e, _, hc⟩ := hr.at_ (by omega)
    obtain rfl := Option.some.inj e
    rw [Addr.add_mid]
    exact hc j v hv)
  rw [List.length_map, hl] at h
  rw [h]
  congr 2
  simp [Lib.bytesOf, Function.comp_def]
theorem run_bytesOf (w : World) (B : Nat) (A : Option Addr) (n c : Nat) (bs : List UInt8) (hr : Rd w B A n bs) : (Extern.Bytes.bytesOf (.slice A n c)).run Tryd.prog w = .ok ⟨bs.toArray⟩ w := by
  cases A with
  | none =>
    obtain ⟨rfl, rfl⟩ := rd_zero hr rfl
    rfl
  | some ad => exact run_loadB w B ad n bs hr
theorem run_compareB (w : World) (B B' : Nat) (A A' : Option Addr) (n c n' c' : Nat) (a b : List UInt8) (hr : Rd w B A n a) (hr' : Rd w B' A' n' b) :
    (Extern.BytealgCompare.compare #[.slice A n c, .slice A' n' c']).run Tryd.prog w = .ok (.int .i64 (Lib.compareBytes a b)) w := by
  show Sem.run Tryd.prog (do pure (goInt (Extern.BytealgCompare.cmp (← Extern.Bytes.bytesOf (.slice A n c)) (← Extern.Bytes.bytesOf (.slice A' n' c'))))) w = _
  simp only [Sem.run_bind, run_bytesOf w B A n c a hr, run_bytesOf w B' A' n' c' b hr', Result.andThen, Sem.run_pure, Lib.cmp_eq]
  rfl

set_option maxRecDepth 100000 in
theorem compare_any (A A' : Option Addr) (n c n' c' B B' : Nat) (a b : List UInt8) (w : World) (hr : Rd w B A n a) (hr' : Rd w B' A' n' b) :
    Calls Tryd.prog 18 #[.slice A n c, .slice A' n' c'] w fun e w' => e = .returned (.int .i64 (Lib.compareBytes a b)) ∧ w = w' := by
  have HR := Lib.hid (And.intro hr hr')
  clear hr hr'
  go_enter Tryd.func18, Tryd.ntmps18
  go_wp2_with fail
  rw [run_callFunc_extern Tryd.func37 (by kernel_rfl) (by kernel_rfl) (by kernel_rfl) (e := Extern.BytealgCompare.compare) (by kernel_rfl), run_compareB w B B' A A' n c n' c' a b HR.out.1 HR.out.2]
  simp only [Result.andThen]
  rw [Oper.upon_value]
  go_wp2_with fail
  go_ret
  exact ⟨rfl, rfl⟩
theorem equal_any (A A' : Option Addr) (n c n' c' B B' : Nat) (a b : List UInt8) (w : World) (hr : Rd w B A n a) (hr' : Rd w B' A' n' b) :
    Calls Tryd.prog 17 #[.slice A n c, .slice A' n' c'] w fun e w' => e = .returned (.bool (a == b)) ∧ w = w' := by
  have h1 := run_string w B A n c a hr
  have h2 := run_string w B' A' n' c' b hr'
  clear hr hr'
  go_enter Tryd.func17, Tryd.ntmps17
  go_wp2_with fail
  go_ret
  by_cases h : a = b
  · subst h; simp
  · simp
end Go.Proofs.YtehmkkccnadhoaaDoor
namespace Go.Proofs.YtehmkkccnadhoaaDoor
open Go.RowKit
open Tr
variable {G : Nat → Prop}

/-- What is summed up of a leaf. -/
def leafText (k v : List UInt8) : List UInt8 := 0 :: UInt8.ofNat k.length :: (k ++ Sh.Sha.sum v)
/-- What is summed up of an inner node. -/
def innerText (h : UInt8) (z : UInt64) (l r : List UInt8) : List UInt8 := 1 :: h :: (Sh.Sha.be8 z ++ (l ++ r))

def Tr.T.sum : T → List UInt8
  | .leaf k v => Sh.Sha.sum (leafText k v)
  | .node l r => Sh.Sha.sum (innerText (UInt8.ofNat (T.node l r).h) (UInt64.ofNat (T.node l r).n) l.sum r.sum)
def z32 : List UInt8 := List.replicate 32 0
def Tr.T.lsum : T → List UInt8
  | .leaf _ _ => z32
  | .node l _ => l.sum
def Tr.T.rsum : T → List UInt8
  | .leaf _ _ => z32
  | .node _ r => r.sum
theorem sum32 (t : T) : t.sum.length = 32 := by cases t <;> exact Sh.sum_length _
theorem lsum32 (t : T) : t.lsum.length = 32 := by
  cases t with
  | leaf _ _ => rfl
  | node l _ => exact sum32 l
theorem rsum32 (t : T) : t.rsum.length = 32 := by
  cases t with
  | leaf _ _ => rfl
  | node _ r => exact sum32 r

/-- The cells of a node as it is answered. -/
def acells (kv vv : Value) (h : Int) (z : Nat) (l r : List UInt8) : List Value := kv :: vv :: .int .i64 h :: .int .u64 z :: (l.map V8 ++ r.map V8)
/-- The cells of a node as it is kept. -/
def ncells (kv vv : Value) (h : Int) (z : Nat) (l r s : List UInt8) (x y : Value) : List Value := acells kv vv h z l r ++ (s.map V8 ++ [x, y])
def ptr (o : Option Nat) : Value := .pointer (o.map fun b => ⟨b, 0, none⟩)
theorem ptr_none : ptr none = .pointer none := rfl
theorem ptr_some (b : Nat) : ptr (some b) = .pointer (some ⟨b, 0, none⟩) := rfl
theorem acells_len (kv vv : Value) (h : Int) (z : Nat) (l r : List UInt8) (hl : l.length = 32) (hr : r.length = 32) : (acells kv vv h z l r).length = 68 := by
  simp [acells, hl, hr]
theorem ncells_len (kv vv : Value) (h : Int) (z : Nat) (l r s : List UInt8) (x y : Value) (hl : l.length = 32) (hr : r.length = 32) (hs : s.length = 32) : (ncells kv vv h z l r s x y).length = 102 := by
  simp [ncells, acells_len kv vv h z l r hl hr, hs]

/-- Block b is the node of tree t: its key and value lie where they are read, and x and y are what is beneath it. -/
structure NHas (G : Nat → Prop) (w : World) (B : Nat) (t : T) (b : Nat) (A : Option Addr) (n c : Nat) (A' : Option Addr) (n' c' : Nat) (x y : Option Nat) : Prop where
  lt : b < B
  whole : Whole w b 69 (ncells (.slice A n c) (.slice A' n' c') t.h t.n t.lsum t.rsum t.sum (ptr x) (ptr y)).toArray
  key : Rd w B A n t.key
  knc : n ≤ c
  kle : n ≤ 96
  val : Rd w B A' n' t.val
  vnc : n' ≤ c'
  vle : n' ≤ 256
  gd : G b ∧ (0 < n → ∀ b' o, A = some ⟨b', o, none⟩ → G b') ∧ (0 < n' → ∀ b' o, A' = some ⟨b', o, none⟩ → G b')

/-- Block b is the top of tree t, all of it below B. -/
def NIn (G : Nat → Prop) (w : World) (B : Nat) : T → Nat → Prop
  | .leaf k v, b => ∃ A n c A' n' c', NHas G w B (.leaf k v) b A n c A' n' c' none none
  | .node l r, b => ∃ A n c A' n' c' x y, NHas G w B (.node l r) b A n c A' n' c' (some x) (some y) ∧ NIn G w B l x ∧ NIn G w B r y

section
variable {w w' : World} {B B' b n c n' c' : Nat} {t : T} {A A' : Option Addr} {x y : Option Nat}
theorem NHas.below (h : NHas G w B t b A n c A' n' c' x y) (hb : Below B' w w') (hB : B ≤ B') : NHas G w' B t b A n c A' n' c' x y :=
  ⟨h.lt, h.whole.below hb (Nat.lt_of_lt_of_le h.lt hB), h.key.below hb hB, h.knc, h.kle, h.val.below hb hB, h.vnc, h.vle, h.gd⟩
theorem NHas.more (h : NHas G w B t b A n c A' n' c' x y) (hB : B ≤ B') : NHas G w B' t b A n c A' n' c' x y :=
  ⟨Nat.lt_of_lt_of_le h.lt hB, h.whole, h.key.more hB, h.knc, h.kle, h.val.more hB, h.vnc, h.vle, h.gd⟩
theorem NHas.cells (h : NHas G w B t b A n c A' n' c' x y) :
    w.cell? ⟨b, 0, none⟩ = some (.slice A n c) ∧ w.cell? ⟨b, 1, none⟩ = some (.slice A' n' c') ∧ w.cell? ⟨b, 2, none⟩ = some (.int .i64 t.h) ∧
    w.cell? ⟨b, 3, none⟩ = some (.int .u64 t.n) ∧ w.cell? ⟨b, 100, none⟩ = some (ptr x) ∧ w.cell? ⟨b, 101, none⟩ = some (ptr y) := by
  have hl : (acells (.slice A n c) (.slice A' n' c') t.h t.n t.lsum t.rsum ++ t.sum.map V8).length = 100 := by
    rw [List.length_append, acells_len _ _ _ _ _ _ (lsum32 t) (rsum32 t), List.length_map, sum32]
  refine ⟨h.whole.at_ ?_, h.whole.at_ ?_, h.whole.at_ ?_, h.whole.at_ ?_, h.whole.at_ ?_, h.whole.at_ ?_⟩
  · rfl
  · rfl
  · rfl
  · rfl
  · rw [List.getElem?_toArray, ncells, ← List.append_assoc, List.getElem?_append_right (by omega), hl]; rfl
  · rw [List.getElem?_toArray, ncells, ← List.append_assoc, List.getElem?_append_right (by omega), hl]; rfl
end
theorem NIn.below {w w' : World} {B B' : Nat} (hb : Below B' w w') (hB : B ≤ B') : ∀ {t : T} {b : Nat}, NIn G w B t b → NIn G w' B t b
  | .leaf _ _, _, ⟨A, n, c, A', n', c', h⟩ => ⟨A, n, c, A', n', c', h.below hb hB⟩
  | .node _ _, _, ⟨A, n, c, A', n', c', x, y, h, h1, h2⟩ => ⟨A, n, c, A', n', c', x, y, h.below hb hB, NIn.below hb hB h1, NIn.below hb hB h2⟩
theorem NIn.more {w : World} {B B' : Nat} (hB : B ≤ B') : ∀ {t : T} {b : Nat}, NIn G w B t b → NIn G w B' t b
  | .leaf _ _, _, ⟨A, n, c, A', n', c', h⟩ => ⟨A, n, c, A', n', c', h.more hB⟩
  | .node _ _, _, ⟨A, n, c, A', n', c', x, y, h, h1, h2⟩ => ⟨A, n, c, A', n', c', x, y, h.more hB, NIn.more hB h1, NIn.more hB h2⟩
theorem NIn.has {w : World} {B : Nat} : ∀ {t : T} {b : Nat}, NIn G w B t b → ∃ A n c A' n' c' x y, NHas G w B t b A n c A' n' c' x y
  | .leaf _ _, _, ⟨A, n, c, A', n', c', h⟩ => ⟨A, n, c, A', n', c', none, none, h⟩
  | .node _ _, _, ⟨A, n, c, A', n', c', x, y, h, _, _⟩ => ⟨A, n, c, A', n', c', some x, some y, h⟩
theorem NIn.lt {w : World} {B : Nat} {t : T} {b : Nat} (h : NIn G w B t b) : b < B := by
  obtain ⟨_, _, _, _, _, _, _, _, h⟩ := h.has
  exact h.lt

/-- A node, or none. -/
def PIn (G : Nat → Prop) (w : World) (B : Nat) : Option T → Option Nat → Prop
  | none, p => p = none
  | some t, p => ∃ b, p = some b ∧ NIn G w B t b
/-- Block g is a tree. -/
def TIn (G : Nat → Prop) (w : World) (B : Nat) (o : Option T) (g : Nat) : Prop := g < B ∧ G g ∧ ∃ p, Whole w g 59 #[ptr p] ∧ PIn G w B o p
theorem PIn.below {w w' : World} {B B' : Nat} (hb : Below B' w w') (hB : B ≤ B') {o : Option T} {p : Option Nat} (h : PIn G w B o p) : PIn G w' B o p := by
  cases o with
  | none => exact h
  | some t => obtain ⟨b, e, h⟩ := h; exact ⟨b, e, h.below hb hB⟩
theorem PIn.more {w : World} {B B' : Nat} (hB : B ≤ B') {o : Option T} {p : Option Nat} (h : PIn G w B o p) : PIn G w B' o p := by
  cases o with
  | none => exact h
  | some t => obtain ⟨b, e, h⟩ := h; exact ⟨b, e, h.more hB⟩
theorem TIn.below {w w' : World} {B B' : Nat} (hb : Below B' w w') (hB : B ≤ B') {o : Option T} {g : Nat} (h : TIn G w B o g) : TIn G w' B o g := by
  obtain ⟨hg, gg, p, h1, h2⟩ := h
  exact ⟨hg, gg, p, h1.below hb (by omega), h2.below hb hB⟩
theorem TIn.more {w : World} {B B' : Nat} (hB : B ≤ B') {o : Option T} {g : Nat} (h : TIn G w B o g) : TIn G w B' o g := by
  obtain ⟨hg, gg, p, h1, h2⟩ := h
  exact ⟨by omega, gg, p, h1, h2.more hB⟩

/-- The block behind memory's end is free to use; so are all behind it. -/
def Room (G : Nat → Prop) (w : World) : Prop := 2 < w.heap.size ∧ ∀ b, w.heap.size ≤ b → G b
theorem Room.on {w w' : World} (h : Room G w) (hb : Below w.heap.size w w') : Room G w' :=
  ⟨Nat.lt_of_lt_of_le h.1 hb.size, fun b hb' => h.2 b (Nat.le_trans hb.size hb')⟩
theorem Room.any {w : World} (h : 2 < w.heap.size) : Room (fun _ => True) w := ⟨h, fun _ _ => trivial⟩
/-- As it was in all blocks that it may lie in. -/
theorem cell_keep {w w' : World} {b : Nat} (h : w'.heap[b]? = w.heap[b]?) (o : Nat) : w'.cell? ⟨b, o, none⟩ = w.cell? ⟨b, o, none⟩ := by
  simp [World.cell?, h]
theorem Rd.keepG {w w' : World} {B n : Nat} {A : Option Addr} {bs : List UInt8} (h : Rd w B A n bs) (hg : 0 < n → ∀ b o, A = some ⟨b, o, none⟩ → G b) (hk : ∀ b, b < B → G b → w'.heap[b]? = w.heap[b]?) : Rd w' B A n bs :=
  ⟨h.1, fun hn => by
    obtain ⟨b, o, e, hb, hc⟩ := h.2 hn
    exact ⟨b, o, e, hb, fun j u hu => (cell_keep (hk b hb (hg hn b o e)) _).trans (hc j u hu)⟩⟩
theorem NHas.keepG {w w' : World} {B b n c n' c' : Nat} {t : T} {A A' : Option Addr} {x y : Option Nat} (h : NHas G w B t b A n c A' n' c' x y) (hk : ∀ b, b < B → G b → w'.heap[b]? = w.heap[b]?) : NHas G w' B t b A n c A' n' c' x y :=
  ⟨h.lt, (hk b h.lt h.gd.1).trans h.whole, h.key.keepG h.gd.2.1 hk, h.knc, h.kle, h.val.keepG h.gd.2.2 hk, h.vnc, h.vle, h.gd⟩
theorem NIn.keepG {w w' : World} {B : Nat} (hk : ∀ b, b < B → G b → w'.heap[b]? = w.heap[b]?) : ∀ {t : T} {b : Nat}, NIn G w B t b → NIn G w' B t b
  | .leaf _ _, _, ⟨A, n, c, A', n', c', h⟩ => ⟨A, n, c, A', n', c', h.keepG hk⟩
  | .node _ _, _, ⟨A, n, c, A', n', c', x, y, h, h1, h2⟩ => ⟨A, n, c, A', n', c', x, y, h.keepG hk, NIn.keepG hk h1, NIn.keepG hk h2⟩
theorem PIn.keepG {w w' : World} {B : Nat} (hk : ∀ b, b < B → G b → w'.heap[b]? = w.heap[b]?) {o : Option T} {p : Option Nat} (h : PIn G w B o p) : PIn G w' B o p := by
  cases o with
  | none => exact h
  | some t => obtain ⟨b, e, h⟩ := h; exact ⟨b, e, h.keepG hk⟩
theorem TIn.keepG {w w' : World} {B : Nat} (hk : ∀ b, b < B → G b → w'.heap[b]? = w.heap[b]?) {o : Option T} {g : Nat} (h : TIn G w B o g) : TIn G w' B o g := by
  obtain ⟨hg, gg, p, h1, h2⟩ := h
  exact ⟨hg, gg, p, (hk g hg gg).trans h1, h2.keepG hk⟩
end Go.Proofs.YtehmkkccnadhoaaDoor
namespace Go.Proofs.YtehmkkccnadhoaaDoor
open Go.RowKit
open Tr
variable {G : Nat → Prop}

section
variable {w : World} {B b n c n' c' : Nat} {t : T} {A A' : Option Addr} {x y : Option Nat}
theorem isLeaf_yes (h : NHas G w B t b A n c A' n' c' x y) (h0 : t.h = 0) : Calls Tryd.prog 40 #[ptr (some b)] w fun e w' => e = .returned (.bool true) ∧ w = w' := by
  obtain ⟨_, _, c2, _, _, _⟩ := h.cells
  rw [h0] at c2
  rw [ptr_some]
  clear h h0
  go_enter Tryd.func40, Tryd.ntmps40
  go_wp2_with fail
  go_ret
  exact ⟨rfl, rfl⟩
theorem isLeaf_no (h : NHas G w B t b A n c A' n' c' x y) (h0 : t.h ≠ 0) : Calls Tryd.prog 40 #[ptr (some b)] w fun e w' => e = .returned (.bool false) ∧ w = w' := by
  obtain ⟨_, _, c2, _, _, _⟩ := h.cells
  rw [ptr_some]
  clear h
  have hq : ((t.h : Int) == 0) = false := by rw [beq_eq_false_iff_ne]; omega
  generalize t.h = H at *
  go_enter Tryd.func40, Tryd.ntmps40
  go_wp2_with fail
  go_ret
  exact ⟨rfl, rfl⟩
theorem h_ne (l r : T) : (T.node l r).h ≠ 0 := by show 1 + max l.h r.h ≠ 0; omega
theorem isRight_any (h : NHas G w B t b A n c A' n' c' x y) (D : Option Addr) (m d B2 : Nat) (k : List UInt8) (hk : Rd w B2 D m k) (R : Bool) (hR : lt k t.key = !R) :
    Calls Tryd.prog 42 #[ptr (some b), .slice D m d] w fun e w' => e = .returned (.bool R) ∧ w = w' := by
  obtain ⟨c0, _, _, _, _, _⟩ := h.cells
  rw [ptr_some]
  have HK := Lib.hid (And.intro h.key hk)
  have hR2 : decide (0 ≤ Lib.compareBytes k t.key) = R := by rw [cmp_dec, hR]; simp
  generalize hC : Lib.compareBytes k t.key = C at *
  have HC := Lib.hid hC
  clear h hk hR hC
  go_enter Tryd.func42, Tryd.ntmps42
  go_wp2_with fail
  refine (compare_any _ _ _ _ _ _ _ _ k t.key w HK.out.2 HK.out.1).mono ?_
  rintro e w1 ⟨rfl, rfl⟩
  rw [HC.out]
  go_wp2_with fail
  go_ret
  exact ⟨rfl, rfl⟩
theorem side_right (h : NHas G w B t b A n c A' n' c' x y) : Calls Tryd.prog 59 #[ptr (some b), .bool true] w fun e w' => e = .returned (ptr y) ∧ w = w' := by
  obtain ⟨_, _, _, _, _, c101⟩ := h.cells
  rw [ptr_some]
  clear h
  unfold ptr at *
  generalize (y.map fun b => (⟨b, 0, none⟩ : Addr)) = Y at *
  go_enter Tryd.func59, Tryd.ntmps59
  go_wp2_with fail
  go_ret
  exact ⟨rfl, rfl⟩
theorem side_left (h : NHas G w B t b A n c A' n' c' x y) : Calls Tryd.prog 59 #[ptr (some b), .bool false] w fun e w' => e = .returned (ptr x) ∧ w = w' := by
  obtain ⟨_, _, _, _, c100, _⟩ := h.cells
  rw [ptr_some]
  clear h
  unfold ptr at *
  generalize (x.map fun b => (⟨b, 0, none⟩ : Addr)) = X at *
  go_enter Tryd.func59, Tryd.ntmps59
  go_wp2_with fail
  go_ret
  exact ⟨rfl, rfl⟩
end

/-- The least key of a tree, where its leaf keeps it. -/
def LeastPost (G : Nat → Prop) (w : World) (B : Nat) (t : T) (e : Ending) (w' : World) : Prop := ∃ A n c, e = .returned (.slice A n c) ∧ Rd w B A n t.least ∧ n ≤ c ∧ n ≤ 96 ∧ (0 < n → ∀ b o, A = some ⟨b, o, none⟩ → G b) ∧ w = w'
set_option maxRecDepth 100000 in
theorem least_any (t : T) (b B : Nat) (w : World) (h : NIn G w B t b) : Calls Tryd.prog 73 #[ptr (some b)] w (LeastPost G w B t) := by
  have HN := Lib.hid h
  rw [ptr_some]
  clear h
  go_enter Tryd.func73, Tryd.ntmps73
  go_wp2_with fail
  go_loopg [0] t.h (fun gk v wx => ∃ s b', gk = s.h ∧ v = ptr (some b') ∧ NIn G w B s b' ∧ s.least = t.least ∧ wx = w)
  case atStart => exact ⟨t, b, rfl, rfl, HN.out, rfl, rfl⟩
  case round =>
    clear HN
    obtain ⟨s, b', rfl, rfl, hs, hl, rfl⟩ := hrel
    cases s with
    | leaf k v =>
      obtain ⟨A, n, c, A', n', c', hh⟩ := hs
      have hc := hh.cells.1
      have HH := Lib.hid hh
      have HL := Lib.hid hl
      clear hh hl
      go_wp2_with fail
      refine (isLeaf_yes HH.out rfl).mono ?_
      rintro e w1 ⟨rfl, rfl⟩
      rw [ptr_some]
      go_wp2_with fail
      go_ret
      exact ⟨A, n, c, rfl, by rw [← HL.out]; exact HH.out.key, HH.out.knc, HH.out.kle, HH.out.gd.2.1, rfl⟩
    | node l r =>
      obtain ⟨A, n, c, A', n', c', x, y, hh, hx, hy⟩ := hs
      have hc := hh.cells.2.2.2.2.1
      have HH := Lib.hid hh
      have HX := Lib.hid hx
      have HL := Lib.hid hl
      clear hh hl hx hy
      go_wp2_with fail
      refine (isLeaf_no HH.out (h_ne l r)).mono ?_
      rintro e w1 ⟨rfl, rfl⟩
      rw [ptr_some] at hc ⊢
      go_wp2_with fail
      go_roundg l.h
      case measure => show l.h < 1 + max l.h r.h; omega
      case rel => exact ⟨l, x, rfl, rfl, HX.out, HL.out, rfl⟩

/-- A nil tree, or a tree. -/
def GIn (G : Nat → Prop) (w : World) (B : Nat) : Option (Option T) → Option Nat → Prop
  | none, p => p = none
  | some o, p => ∃ g, p = some g ∧ TIn G w B o g
def topOf : Option (Option T) → Option T
  | none => none
  | some o => o
theorem GIn.below {w w' : World} {B B' : Nat} (hb : Below B' w w') (hB : B ≤ B') {o : Option (Option T)} {p : Option Nat} (h : GIn G w B o p) : GIn G w' B o p := by
  cases o with
  | none => exact h
  | some t => obtain ⟨b, e, h⟩ := h; exact ⟨b, e, h.below hb hB⟩
theorem GIn.more {w : World} {B B' : Nat} (hB : B ≤ B') {o : Option (Option T)} {p : Option Nat} (h : GIn G w B o p) : GIn G w B' o p := by
  cases o with
  | none => exact h
  | some t => obtain ⟨b, e, h⟩ := h; exact ⟨b, e, h.more hB⟩
def UpPost (G : Nat → Prop) (w : World) (B : Nat) (o : Option T) (e : Ending) (w' : World) : Prop := ∃ p, e = .returned (ptr p) ∧ PIn G w B o p ∧ w = w'
theorem upmost_any (o : Option (Option T)) (p : Option Nat) (B : Nat) (w : World) (h : GIn G w B o p) : Calls Tryd.prog 25 #[ptr p] w (UpPost G w B (topOf o)) := by
  cases o with
  | none =>
    obtain rfl := h
    rw [ptr_none]
    go_enter Tryd.func25, Tryd.ntmps25
    go_wp2_with fail
    go_ret
    exact ⟨none, rfl, rfl, rfl⟩
  | some o =>
    obtain ⟨g, rfl, hg, gg, q, hW, hP⟩ := h
    rw [ptr_some]
    have c0 := hW.at_ (i := 0) rfl
    have HP := Lib.hid hP
    clear hW hP gg
    unfold ptr at c0
    generalize hX : (q.map fun b => (⟨b, 0, none⟩ : Addr)) = X at *
    have HX := Lib.hid hX
    clear hX
    go_enter Tryd.func25, Tryd.ntmps25
    go_wp2_with fail
    go_ret
    exact ⟨q, by unfold ptr; rw [HX.out]; rfl, HP.out, rfl⟩

/-- A new tree. -/
def NewPost (G : Nat → Prop) (o : Option T) (w : World) (e : Ending) (w' : World) : Prop := ∃ g, e = .returned (ptr (some g)) ∧ w.heap.size ≤ g ∧ TIn G w' w'.heap.size o g ∧ Below w.heap.size w w'
theorem new_any (w : World) (hw : Room G w) : Calls Tryd.prog 7 #[] w (NewPost G none w) := by
  have HW := Lib.hid hw
  clear hw
  go_enter Tryd.func7, Tryd.ntmps7
  go_wp2_with fail
  go_ret
  exact ⟨w.heap.size, rfl, Nat.le_refl _, ⟨by simp, HW.out.2 _ (Nat.le_refl _), none, Whole.made w 59 _, rfl⟩, (Below.refl _ _).alloc (Nat.le_refl _) _⟩
end Go.Proofs.YtehmkkccnadhoaaDoor
namespace Go.Proofs.YtehmkkccnadhoaaDoor
open Go.RowKit
open Tr

/-- The first i bytes of the number, zeros behind them. -/
def be8To (z : UInt64) (i : Nat) : List UInt8 := (Sh.Sha.be8 z).take i ++ List.replicate (8 - i) 0
theorem be8To_len (z : UInt64) (i : Nat) (h : i ≤ 8) : (be8To z i).length = 8 := by
  rw [be8To, List.length_append, List.length_take, Sh.Sha.be8_length, List.length_replicate]; omega
theorem be8To_step (z : UInt64) (i : Nat) (h : i < 8) : (be8To z i).set i (z >>> UInt64.ofNat (56 - 8 * i)).toUInt8 = be8To z (i + 1) := by
  have hl : ((Sh.Sha.be8 z).take i).length = i := by rw [List.length_take, Sh.Sha.be8_length]; omega
  rw [be8To, be8To, Sh.Sha.be8_take z i h, List.set_append_right _ _ (by omega), hl, Nat.sub_self, List.append_assoc]
  congr 1
  rw [show 8 - i = (8 - (i + 1)) + 1 by omega, List.replicate_succ]
  rfl
theorem whole_bset {w : World} {g : Nat} {t : TypeId} {bs : List UInt8} (h : Whole w g t (Sh.bcells bs)) (i : Nat) (x : UInt8) : Whole (w.setCell ⟨g, i, none⟩ (.int .u8 x.toNat)) g t (Sh.bcells (bs.set i x)) := by
  have := h.set i (.int .u8 x.toNat)
  rwa [Sh.bcells_set] at this

set_option maxRecDepth 100000 in
theorem sizeBytes_any (z : UInt64) (w : World) : Calls Tryd.prog 61 #[.int .u64 z.toNat] w (BytesPost w (Sh.Sha.be8 z)) := by
  have hmk := run_mk 8 8 (by omega) (by omega) 8 8 rfl rfl
  go_enter Tryd.func61, Tryd.ntmps61
  go_wp2_with fail
  have hb0 : Below w.heap.size w (w.alloc (.cells (zb 8) 5)) := (Below.refl _ _).alloc (Nat.le_refl _) _
  have hw0 : Whole (w.alloc (.cells (zb 8) 5)) w.heap.size 5 (Sh.bcells (be8To z 0)) := Whole.made w 5 (zb 8)
  have HH := Lib.hid (And.intro hb0 hw0)
  clear hb0 hw0 hmk
  go_loopg [8] 8 (fun gk s8 wx => ∃ i, i + gk = 8 ∧ s8 = .int .i64 (i : Nat) ∧ Below w.heap.size w wx ∧ Whole wx w.heap.size 5 (Sh.bcells (be8To z i)))
  case atStart => exact ⟨0, by omega, rfl, HH.out.1, HH.out.2⟩
  case round =>
    clear HH
    obtain ⟨i, hi, rfl, hb, hW⟩ := hrel
    have HB := Lib.hid hb
    have HW := Lib.hid hW
    cases gk with
    | zero =>
      obtain rfl : i = 8 := by omega
      clear hb hW
      go_wp2_with fail
      go_ret
      have hW := HW.out
      refine ⟨some ⟨w.heap.size, 0, none⟩, 8, 8, rfl, ?_, Nat.le_refl _, HB.out⟩
      refine Rd.mk_ (Sh.Sha.be8_length z) _ _ hW.lt fun j v hv => hW.at_ ?_
      have e : be8To z 8 = Sh.Sha.be8 z := by
        rw [be8To, List.take_of_length_le (by rw [Sh.Sha.be8_length]; exact Nat.le_refl _)]; simp
      rw [e, Nat.zero_add, Sh.bcells, List.getElem?_toArray, List.getElem?_map, hv]
      rfl
    | succ gn =>
      have hi8 : i < 8 := by omega
      have hL := be8To_len z i (by omega)
      have f0 : wr.frozen? ⟨w.heap.size, i, none⟩ = false := hW.free i
      have f1 := hW.at_ (Sh.bcells_at (be8To z i) i (by omega))
      obtain ⟨v, hv⟩ : ∃ v, (z >>> UInt64.ofNat (56 - 8 * i)).toUInt8 = v := ⟨_, rfl⟩
      have hbyte := Sh.Sha.be8_byte z i hi8
      rw [hv] at hbyte
      have HV := Lib.hid hv
      have hsh : (56 - 8 * (i : Int)).toNat = 56 - 8 * i := by omega
      have z0 : 0 ≤ 56 - 8 * (i : Int) := by omega
      have z1 : 56 - 8 * (i : Int) ≤ 64 := by omega
      clear hb hW hv hL
      go_wp2_with fail
      go_roundg gn
      case measure => omega
      case rel =>
        refine ⟨i + 1, by omega, congrArg (Value.int .i64) (by omega), HB.out.setCell (Nat.le_refl _) _, ?_⟩
        rw [← be8To_step z i hi8, HV.out]
        exact whole_bset HW.out i v
end Go.Proofs.YtehmkkccnadhoaaDoor
