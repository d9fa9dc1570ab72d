/-
  Balanced trees as plain data: how they grow, what their leaves are, how high they are: plain mathematics, no condition.
-/
import Derived.Test.YtceillnmcccckaaDoorOrd
namespace Go.Proofs.YtceillnmcccckaaDoor
namespace Tr

inductive T where
  | leaf (k v : List UInt8)
  | node (l r : T)

abbrev Prs := List (List UInt8 × List UInt8)

namespace T
def least : T → List UInt8
  | leaf k _ => k
  | node l _ => l.least
def key : T → List UInt8
  | leaf k _ => k
  | node _ r => r.least
def val : T → List UInt8
  | leaf _ v => v
  | node _ _ => []
def h : T → Nat
  | leaf _ _ => 0
  | node l r => 1 + max l.h r.h
def n : T → Nat
  | leaf _ _ => 1
  | node l r => l.n + r.n
def leaves : T → Prs
  | leaf k v => [(k, v)]
  | node l r => l.leaves ++ r.leaves

theorem n_pos : ∀ t : T, 0 < t.n
  | leaf _ _ => Nat.one_pos
  | node l r => by have := n_pos l; show 0 < l.n + r.n; omega
theorem h_lt : ∀ t : T, t.h < t.n
  | leaf _ _ => Nat.one_pos
  | node l r => by
    have h1 := h_lt l
    have h2 := h_lt r
    have p1 := n_pos l
    have p2 := n_pos r
    show 1 + max l.h r.h < l.n + r.n
    omega
theorem n_leaves : ∀ t : T, t.leaves.length = t.n
  | leaf _ _ => rfl
  | node l r => by
    show (l.leaves ++ r.leaves).length = l.n + r.n
    rw [List.length_append, n_leaves l, n_leaves r]
theorem node_of_h {t : T} (h : 0 < t.h) : ∃ l r, t = node l r := by
  cases t with
  | leaf k v => exact absurd h (by show ¬ 0 < 0; omega)
  | node l r => exact ⟨l, r, rfl⟩
theorem leaf_of_h {t : T} (h : t.h = 0) : ∃ k v, t = leaf k v := by
  cases t with
  | leaf k v => exact ⟨k, v, rfl⟩
  | node l r => exact absurd h (by show ¬ 1 + max l.h r.h = 0; omega)
theorem head_leaves : ∀ t : T, ∃ v r, t.leaves = (t.least, v) :: r
  | leaf k v => ⟨v, [], rfl⟩
  | node l r => by
    obtain ⟨v, x, hx⟩ := head_leaves l
    exact ⟨v, x ++ r.leaves, by show l.leaves ++ r.leaves = _; rw [hx]; rfl⟩
end T

/-- A node above two, balanced. -/
def leanL (a m r : T) : T :=
  if a.h < m.h then
    match m with
    | .leaf _ _ => .node a (.node m r)
    | .node b c => .node (.node a b) (.node c r)
  else .node a (.node m r)
def leanR (l m d : T) : T :=
  if d.h < m.h then
    match m with
    | .leaf _ _ => .node (.node l m) d
    | .node b c => .node (.node l b) (.node c d)
  else .node (.node l m) d
def bal (l r : T) : T :=
  if r.h + 1 < l.h then
    match l with
    | .leaf _ _ => .node l r
    | .node a m => leanL a m r
  else if l.h + 1 < r.h then
    match r with
    | .leaf _ _ => .node l r
    | .node m d => leanR l m d
  else .node l r

def beside (t : T) (k v : List UInt8) : T :=
  if lt k t.least then .node (.leaf k v) t else if lt t.least k then .node t (.leaf k v) else .leaf k v
def T.put : T → List UInt8 → List UInt8 → T
  | .leaf k' v', k, v => beside (.leaf k' v') k v
  | .node l r, k, v => if lt k r.least then bal (l.put k v) r else bal l (r.put k v)
def T.cut : T → List UInt8 → Option T
  | .leaf _ _, _ => none
  | .node l r, k =>
    if lt k r.least then
      match l.cut k with
      | none => some r
      | some l' => some (bal l' r)
    else
      match r.cut k with
      | none => some l
      | some r' => some (bal l r')
def T.find : T → List UInt8 → Option (List UInt8)
  | .leaf k' v, k => if k' = k then some v else none
  | .node l r, k => if lt k r.least then l.find k else r.find k

theorem leanL_leaves (a m r : T) : (leanL a m r).leaves = a.leaves ++ m.leaves ++ r.leaves := by
  unfold leanL
  split
  · split <;> simp [T.leaves]
  · simp [T.leaves]
theorem leanR_leaves (l m d : T) : (leanR l m d).leaves = l.leaves ++ m.leaves ++ d.leaves := by
  unfold leanR
  split
  · split <;> simp [T.leaves]
  · simp [T.leaves]
theorem bal_leaves (l r : T) : (bal l r).leaves = l.leaves ++ r.leaves := by
  unfold bal
  split
  · split
    · simp [T.leaves]
    · rw [leanL_leaves]; simp [T.leaves]
  · split
    · split
      · simp [T.leaves]
      · rw [leanR_leaves]; simp [T.leaves]
    · simp [T.leaves]
theorem bal_n (l r : T) : (bal l r).n = l.n + r.n := by
  rw [← T.n_leaves, bal_leaves, List.length_append, T.n_leaves, T.n_leaves]

/-- Pairs that rise. -/
def Srt (l : Prs) : Prop := l.Pairwise fun a b => lt a.1 b.1 = true
def putL : Prs → List UInt8 → List UInt8 → Prs
  | [], k, v => [(k, v)]
  | p :: r, k, v => if lt p.1 k then p :: putL r k v else if p.1 = k then (k, v) :: r else (k, v) :: p :: r
def cutL (l : Prs) (k : List UInt8) : Prs := l.filter fun p => decide (p.1 ≠ k)
def findL : Prs → List UInt8 → Option (List UInt8)
  | [], _ => none
  | p :: r, k => if p.1 = k then some p.2 else findL r k

theorem putL_left (k v : List UInt8) : ∀ (a b : Prs) (p : List UInt8 × List UInt8), lt k p.1 = true → putL (a ++ p :: b) k v = putL a k v ++ p :: b
  | [], b, p, h => by
    show putL (p :: b) k v = [(k, v)] ++ p :: b
    unfold putL
    rw [if_neg (by rw [lt_asymm h]; simp), if_neg (fun e => lt_ne h e.symm)]
    rfl
  | x :: a, b, p, h => by
    show putL (x :: (a ++ p :: b)) k v = putL (x :: a) k v ++ p :: b
    unfold putL
    split
    · rw [putL_left k v a b p h]; rfl
    · split <;> rfl
theorem putL_right (k v : List UInt8) : ∀ (a b : Prs), (∀ p ∈ a, lt p.1 k = true) → putL (a ++ b) k v = a ++ putL b k v
  | [], _, _ => rfl
  | x :: a, b, h => by
    show putL (x :: (a ++ b)) k v = _
    rw [show putL (x :: (a ++ b)) k v = if lt x.1 k then x :: putL (a ++ b) k v else if x.1 = k then (k, v) :: (a ++ b) else (k, v) :: x :: (a ++ b) from rfl, if_pos (h x (by simp)), putL_right k v a b (fun p hp => h p (by simp [hp]))]
    rfl
theorem putL_mem {k v : List UInt8} : ∀ {l : Prs} {p : List UInt8 × List UInt8}, p ∈ putL l k v → p ∈ l ∨ p = (k, v)
  | [], p, h => by simp [putL] at h; exact .inr h
  | x :: r, p, h => by
    unfold putL at h
    split at h
    · rcases List.mem_cons.1 h with rfl | h
      · exact .inl (by simp)
      · rcases putL_mem h with h | h
        · exact .inl (by simp [h])
        · exact .inr h
    · split at h
      · rcases List.mem_cons.1 h with rfl | h
        · exact .inr rfl
        · exact .inl (by simp [h])
      · rcases List.mem_cons.1 h with rfl | h
        · exact .inr rfl
        · exact .inl h
theorem putL_srt (k v : List UInt8) : ∀ l, Srt l → Srt (putL l k v)
  | [], _ => by simp [putL, Srt]
  | x :: r, h => by
    have hx := (List.pairwise_cons.1 h).1
    have hr := (List.pairwise_cons.1 h).2
    unfold putL
    split
    · rename_i hlt
      refine List.pairwise_cons.2 ⟨fun p hp => ?_, putL_srt k v r hr⟩
      rcases putL_mem hp with hp | rfl
      · exact hx p hp
      · exact hlt
    · rename_i hlt
      split
      · rename_i he
        refine List.pairwise_cons.2 ⟨fun p hp => ?_, hr⟩
        show lt k p.1 = true
        rw [← he]; exact hx p hp
      · rename_i hne
        have hk : lt k x.1 = true := lt_of_not (by simpa using hlt) hne
        refine List.pairwise_cons.2 ⟨fun p hp => ?_, h⟩
        rcases List.mem_cons.1 hp with rfl | hp
        · exact hk
        · exact lt_trans _ _ _ hk (hx p hp)
theorem srt_parts {a b : Prs} (h : Srt (a ++ b)) : Srt a ∧ Srt b ∧ ∀ p ∈ a, ∀ q ∈ b, lt p.1 q.1 = true := List.pairwise_append.1 h
theorem srt_least {l r : T} (h : Srt (T.node l r).leaves) : (∀ p ∈ l.leaves, lt p.1 r.least = true) ∧ (∀ q ∈ r.leaves, lt q.1 r.least = false) := by
  obtain ⟨h1, h2, h3⟩ := srt_parts h
  obtain ⟨v, x, hx⟩ := r.head_leaves
  refine ⟨fun p hp => h3 p hp (r.least, v) (by rw [hx]; simp), fun q hq => ?_⟩
  rw [hx] at h2 hq
  rcases List.mem_cons.1 hq with rfl | hq
  · exact lt_irrefl _
  · exact lt_asymm ((List.pairwise_cons.1 h2).1 q hq)
theorem put_leaves (k v : List UInt8) : ∀ t : T, Srt t.leaves → (t.put k v).leaves = putL t.leaves k v
  | .leaf k' v', _ => by
    show (beside (.leaf k' v') k v).leaves = putL [(k', v')] k v
    unfold beside putL putL
    show _ = if lt k' k = true then [(k', v'), (k, v)] else if k' = k then [(k, v)] else [(k, v), (k', v')]
    show (if lt k k' = true then T.node (.leaf k v) (.leaf k' v') else if lt k' k = true then T.node (.leaf k' v') (.leaf k v) else .leaf k v).leaves = _
    by_cases h1 : lt k k' = true
    · rw [if_pos h1, if_neg (by rw [lt_asymm h1]; simp), if_neg (fun e => lt_ne h1 e.symm)]
      rfl
    · by_cases h2 : lt k' k = true
      · rw [if_neg h1, if_pos h2, if_pos h2]
        rfl
      · rw [if_neg h1, if_neg h2, if_neg h2, if_pos (lt_tri k' k (by simpa using h2) (by simpa using h1))]
        rfl
  | .node l r, h => by
    obtain ⟨hl, hr, hlr⟩ := srt_parts h
    obtain ⟨h1, h2⟩ := srt_least h
    show (if lt k r.least = true then bal (l.put k v) r else bal l (r.put k v)).leaves = putL (l.leaves ++ r.leaves) k v
    split
    · rename_i hk
      rw [bal_leaves, put_leaves k v l hl]
      obtain ⟨v', x, hx⟩ := r.head_leaves
      rw [hx, putL_left k v _ _ _ hk]
    · rename_i hk
      rw [bal_leaves, put_leaves k v r hr, putL_right k v _ _ (fun p hp => lt_le_trans (h1 p hp) (by simpa using hk))]
theorem put_srt {t : T} (k v : List UInt8) (h : Srt t.leaves) : Srt (t.put k v).leaves := by
  rw [put_leaves k v t h]; exact putL_srt k v _ h

theorem findL_append (k : List UInt8) : ∀ a b : Prs, findL (a ++ b) k = (findL a k).or (findL b k)
  | [], _ => rfl
  | x :: a, b => by
    show (if x.1 = k then some x.2 else findL (a ++ b) k) = (if x.1 = k then some x.2 else findL a k).or _
    split
    · rfl
    · exact findL_append k a b
theorem findL_none {k : List UInt8} : ∀ {l : Prs}, (∀ p ∈ l, p.1 ≠ k) → findL l k = none
  | [], _ => rfl
  | x :: l, h => by
    show (if x.1 = k then some x.2 else findL l k) = none
    rw [if_neg (h x (by simp))]
    exact findL_none fun p hp => h p (by simp [hp])
theorem find_leaves (k : List UInt8) : ∀ t : T, Srt t.leaves → t.find k = findL t.leaves k
  | .leaf _ _, _ => rfl
  | .node l r, h => by
    obtain ⟨hl, hr, hlr⟩ := srt_parts h
    obtain ⟨h1, h2⟩ := srt_least h
    show (if lt k r.least = true then l.find k else r.find k) = findL (l.leaves ++ r.leaves) k
    rw [findL_append]
    split
    · rename_i hk
      rw [find_leaves k l hl, findL_none (l := r.leaves) (fun q hq e => by
        have := h2 q hq
        rw [e, hk] at this
        cases this)]
      cases findL l.leaves k <;> rfl
    · rename_i hk
      rw [find_leaves k r hr, findL_none (l := l.leaves) (fun p hp e => by
        have := h1 p hp
        rw [e] at this
        exact hk this)]
      rfl
theorem cutL_append (k : List UInt8) (a b : Prs) : cutL (a ++ b) k = cutL a k ++ cutL b k := List.filter_append ..
theorem cutL_none {k : List UInt8} {l : Prs} (h : ∀ p ∈ l, p.1 ≠ k) : cutL l k = l := List.filter_eq_self.2 fun p hp => by simpa using h p hp
def optLeaves : Option T → Prs
  | none => []
  | some t => t.leaves
theorem cut_leaves (k : List UInt8) : ∀ t : T, Srt t.leaves → (t.find k).isSome = true → optLeaves (t.cut k) = cutL t.leaves k
  | .leaf k' v, _, hf => by
    by_cases e : k' = k
    · subst e
      simp [T.cut, optLeaves, T.leaves, cutL]
    · simp [T.find, e] at hf
  | .node l r, h, hf => by
    obtain ⟨hl, hr, hlr⟩ := srt_parts h
    obtain ⟨h1, h2⟩ := srt_least h
    change ((if lt k r.least = true then l.find k else r.find k)).isSome = true at hf
    show optLeaves (if lt k r.least = true then (match l.cut k with | none => some r | some l' => some (bal l' r)) else (match r.cut k with | none => some l | some r' => some (bal l r'))) = cutL (l.leaves ++ r.leaves) k
    rw [cutL_append]
    split
    · rename_i hk
      rw [if_pos hk] at hf
      have ih := cut_leaves k l hl hf
      rw [cutL_none (l := r.leaves) (fun q hq e => by
        have := h2 q hq
        rw [e, hk] at this
        cases this), ← ih]
      cases l.cut k with
      | none => rfl
      | some l' => exact bal_leaves l' r
    · rename_i hk
      rw [if_neg hk] at hf
      have ih := cut_leaves k r hr hf
      rw [cutL_none (l := l.leaves) (fun p hp e => by
        have := h1 p hp
        rw [e] at this
        exact hk this), ← ih]
      cases r.cut k with
      | none => exact (List.append_nil _).symm
      | some r' => exact bal_leaves l r'
theorem cutL_srt {l : Prs} (k : List UInt8) (h : Srt l) : Srt (cutL l k) := List.Pairwise.filter _ h

/-- No node's sides differ in height by more than one. -/
def Avl : T → Prop
  | .leaf _ _ => True
  | .node l r => Avl l ∧ Avl r ∧ l.h ≤ r.h + 1 ∧ r.h ≤ l.h + 1
theorem h_node (l r : T) : (T.node l r).h = 1 + max l.h r.h := rfl
theorem bal_avl (l r : T) (hl : Avl l) (hr : Avl r) (h1 : l.h ≤ r.h + 2) (h2 : r.h ≤ l.h + 2) : Avl (bal l r) ∧ max l.h r.h ≤ (bal l r).h ∧ (bal l r).h ≤ 1 + max l.h r.h ∧ (l.h ≤ r.h + 1 → r.h ≤ l.h + 1 → (bal l r).h = 1 + max l.h r.h) := by
  unfold bal
  split
  · rename_i hlt
    cases l with
    | leaf k v => exact absurd hlt (by show ¬ r.h + 1 < 0; omega)
    | node a m =>
      obtain ⟨ha, hm, e1, e2⟩ := hl
      rw [h_node] at h1 h2 hlt ⊢
      show Avl (leanL a m r) ∧ _ ≤ (leanL a m r).h ∧ (leanL a m r).h ≤ _ ∧ _
      unfold leanL
      split
      · rename_i hlt2
        cases m with
        | leaf k v => exact absurd hlt2 (by show ¬ a.h < 0; omega)
        | node b c =>
          obtain ⟨hb, hc, e3, e4⟩ := hm
          simp only [h_node, Avl] at *
          refine ⟨⟨⟨ha, hb, ?_, ?_⟩, ⟨hc, hr, ?_, ?_⟩, ?_, ?_⟩, ?_, ?_, ?_⟩ <;> omega
      · simp only [h_node, Avl] at *
        refine ⟨⟨ha, ⟨hm, hr, ?_, ?_⟩, ?_, ?_⟩, ?_, ?_, ?_⟩ <;> omega
  · rename_i hn1
    split
    · rename_i hlt
      cases r with
      | leaf k v => exact absurd hlt (by show ¬ l.h + 1 < 0; omega)
      | node m d =>
        obtain ⟨hm, hd, e1, e2⟩ := hr
        rw [h_node] at h1 h2 hlt hn1 ⊢
        show Avl (leanR l m d) ∧ _ ≤ (leanR l m d).h ∧ (leanR l m d).h ≤ _ ∧ _
        unfold leanR
        split
        · rename_i hlt2
          cases m with
          | leaf k v => exact absurd hlt2 (by show ¬ d.h < 0; omega)
          | node b c =>
            obtain ⟨hb, hc, e3, e4⟩ := hm
            simp only [h_node, Avl] at *
            refine ⟨⟨⟨hl, hb, ?_, ?_⟩, ⟨hc, hd, ?_, ?_⟩, ?_, ?_⟩, ?_, ?_, ?_⟩ <;> omega
        · simp only [h_node, Avl] at *
          refine ⟨⟨⟨hl, hm, ?_, ?_⟩, hd, ?_, ?_⟩, ?_, ?_, ?_⟩ <;> omega
    · simp only [h_node, Avl] at *
      refine ⟨⟨hl, hr, ?_, ?_⟩, ?_, ?_, ?_⟩ <;> first | omega | (intros; rfl) | (intros; trivial)
theorem put_avl (k v : List UInt8) : ∀ t : T, Avl t → Avl (t.put k v) ∧ t.h ≤ (t.put k v).h ∧ (t.put k v).h ≤ t.h + 1
  | .leaf k' v', _ => by
    show Avl (beside (.leaf k' v') k v) ∧ 0 ≤ (beside (.leaf k' v') k v).h ∧ (beside (.leaf k' v') k v).h ≤ 0 + 1
    unfold beside
    split
    · simp [Avl, T.h]
    · split <;> simp [Avl, T.h]
  | .node l r, ⟨hl, hr, e1, e2⟩ => by
    show Avl (if lt k r.least = true then bal (l.put k v) r else bal l (r.put k v)) ∧ _ ≤ (if lt k r.least = true then bal (l.put k v) r else bal l (r.put k v)).h ∧ (if lt k r.least = true then bal (l.put k v) r else bal l (r.put k v)).h ≤ _
    rw [h_node]
    split
    · obtain ⟨i1, i2, i3⟩ := put_avl k v l hl
      obtain ⟨b1, b2, b3, b4⟩ := bal_avl (l.put k v) r i1 hr (by omega) (by omega)
      refine ⟨b1, ?_, by omega⟩
      by_cases hc : (l.put k v).h ≤ r.h + 1
      · have := b4 hc (by omega); omega
      · omega
    · obtain ⟨i1, i2, i3⟩ := put_avl k v r hr
      obtain ⟨b1, b2, b3, b4⟩ := bal_avl l (r.put k v) hl i1 (by omega) (by omega)
      refine ⟨b1, ?_, by omega⟩
      by_cases hc : (r.put k v).h ≤ l.h + 1
      · have := b4 (by omega) hc; omega
      · omega
theorem cut_avl (k : List UInt8) : ∀ (t t' : T), Avl t → t.cut k = some t' → Avl t' ∧ t'.h ≤ t.h ∧ t.h ≤ t'.h + 1
  | .leaf _ _, _, _, h => by cases h
  | .node l r, t', ⟨hl, hr, e1, e2⟩, h => by
    change (if lt k r.least = true then (match l.cut k with | none => some r | some l' => some (bal l' r)) else (match r.cut k with | none => some l | some r' => some (bal l r'))) = some t' at h
    rw [h_node]
    split at h
    · cases hc : l.cut k with
      | none =>
        rw [hc] at h
        injection h with h
        subst h
        have : l.h = 0 := by
          cases l with
          | leaf _ _ => rfl
          | node a b =>
            exfalso
            revert hc
            show (if lt k b.least = true then (match a.cut k with | none => some b | some l' => some (bal l' b)) else (match b.cut k with | none => some a | some r' => some (bal a r'))) = none → False
            split <;> split <;> intro h <;> cases h
        exact ⟨hr, by omega, by omega⟩
      | some l' =>
        rw [hc] at h
        injection h with h
        subst h
        obtain ⟨i1, i2, i3⟩ := cut_avl k l l' hl hc
        obtain ⟨b1, b2, b3, b4⟩ := bal_avl l' r i1 hr (by omega) (by omega)
        refine ⟨b1, by omega, ?_⟩
        by_cases hq : r.h ≤ l'.h + 1
        · have := b4 (by omega) hq; omega
        · omega
    · cases hc : r.cut k with
      | none =>
        rw [hc] at h
        injection h with h
        subst h
        have : r.h = 0 := by
          cases r with
          | leaf _ _ => rfl
          | node a b =>
            exfalso
            revert hc
            show (if lt k b.least = true then (match a.cut k with | none => some b | some l' => some (bal l' b)) else (match b.cut k with | none => some a | some r' => some (bal a r'))) = none → False
            split <;> split <;> intro h <;> cases h
        exact ⟨hl, by omega, by omega⟩
      | some r' =>
        rw [hc] at h
        injection h with h
        subst h
        obtain ⟨i1, i2, i3⟩ := cut_avl k r r' hr hc
        obtain ⟨b1, b2, b3, b4⟩ := bal_avl l r' hl i1 (by omega) (by omega)
        refine ⟨b1, by omega, ?_⟩
        by_cases hq : l.h ≤ r'.h + 1
        · have := b4 hq (by omega); omega
        · omega

/-- As many leaves a balanced tree of a height has at least. -/
def few : Nat → Nat
  | 0 => 1
  | 1 => 2
  | m + 2 => few (m + 1) + few m
theorem few_mono (m : Nat) : few m ≤ few (m + 1) := by
  induction m using few.induct with
  | case1 => decide
  | case2 => decide
  | case3 m h1 h2 =>
    show few (m + 1) + few m ≤ few (m + 1) + few m + few (m + 1)
    omega
theorem few_le {a b : Nat} (h : a ≤ b) : few a ≤ few b := by
  induction h with
  | refl => exact Nat.le_refl _
  | step _ ih => exact Nat.le_trans ih (few_mono _)
theorem avl_few : ∀ t : T, Avl t → few t.h ≤ t.n
  | .leaf _ _, _ => Nat.le_refl _
  | .node l r, ⟨hl, hr, e1, e2⟩ => by
    have i1 := avl_few l hl
    have i2 := avl_few r hr
    rw [h_node]
    show _ ≤ l.n + r.n
    have hp1 := l.n_pos
    have hp2 := r.n_pos
    cases hm : max l.h r.h with
    | zero => show 2 ≤ _; omega
    | succ m =>
      rw [show 1 + (m + 1) = m + 2 by omega]
      show few (m + 1) + few m ≤ _
      rcases Nat.le_total l.h r.h with hle | hle
      · have : few (m + 1) ≤ few r.h := few_le (by omega)
        have : few m ≤ few l.h := few_le (by omega)
        omega
      · have : few (m + 1) ≤ few l.h := few_le (by omega)
        have : few m ≤ few r.h := few_le (by omega)
        omega
end Tr
end Go.Proofs.YtceillnmcccckaaDoor
