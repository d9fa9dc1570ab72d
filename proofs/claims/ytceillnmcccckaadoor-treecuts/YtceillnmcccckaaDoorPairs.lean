/-
  How lists of pairs lie in memory: small facts that the walks lean on: no condition.
-/
import Derived.Test.YtceillnmcccckaaDoorSame
namespace Go.Proofs.YtceillnmcccckaaDoor
open Go.RowKit
open Tr

/-- The cells of one pair. -/
structure PAt (R : Option Addr → Nat → List UInt8 → Prop) (xs : List Value) (j : Nat) (p : List UInt8 × List UInt8) (A : Option Addr) (n c : Nat) (A' : Option Addr) (n' c' : Nat) : Prop where
  c0 : xs[2 * j]? = some (.slice A n c)
  c1 : xs[2 * j + 1]? = some (.slice A' n' c')
  nc : n ≤ c
  nc' : n' ≤ c'
  key : R A n p.1
  val : R A' n' p.2
/-- Cells that are pairs. -/
def PLay (R : Option Addr → Nat → List UInt8 → Prop) (xs : List Value) (ps : Prs) : Prop :=
  xs.length = 2 * ps.length ∧ ∀ (j : Nat) (p : List UInt8 × List UInt8), ps[j]? = some p → ∃ A n c A' n' c', PAt R xs j p A n c A' n' c'
theorem PLay.mono {R R' : Option Addr → Nat → List UInt8 → Prop} {xs : List Value} {ps : Prs} (h : PLay R xs ps) (hR : ∀ A n bs, R A n bs → R' A n bs) : PLay R' xs ps :=
  ⟨h.1, fun j p hp => by
    obtain ⟨A, n, c, A', n', c', k⟩ := h.2 j p hp
    exact ⟨A, n, c, A', n', c', k.c0, k.c1, k.nc, k.nc', hR _ _ _ k.key, hR _ _ _ k.val⟩⟩
theorem PLay.nil {R : Option Addr → Nat → List UInt8 → Prop} : PLay R [] [] := ⟨rfl, fun j p h => by simp at h⟩
theorem PLay.snoc {R : Option Addr → Nat → List UInt8 → Prop} {xs : List Value} {ps : Prs} (h : PLay R xs ps) (p : List UInt8 × List UInt8) (A : Option Addr) (n c : Nat) (A' : Option Addr) (n' c' : Nat) (hnc : n ≤ c) (hnc' : n' ≤ c') (hk : R A n p.1) (hv : R A' n' p.2) :
    PLay R (xs ++ [.slice A n c, .slice A' n' c']) (ps ++ [p]) := by
  refine ⟨by rw [List.length_append, List.length_append, h.1]; simp; omega, fun j q hq => ?_⟩
  by_cases hj : j < ps.length
  · rw [List.getElem?_append_left hj] at hq
    obtain ⟨A1, n1, c1, A2, n2, c2, k⟩ := h.2 j q hq
    exact ⟨A1, n1, c1, A2, n2, c2, by rw [List.getElem?_append_left (by rw [h.1]; omega)]; exact k.c0, by rw [List.getElem?_append_left (by rw [h.1]; omega)]; exact k.c1, k.nc, k.nc', k.key, k.val⟩
  · rw [List.getElem?_append_right (by omega)] at hq
    have h1 : j - ps.length < 1 := (List.getElem?_eq_some_iff.1 hq).1
    obtain rfl : j = ps.length := by omega
    rw [Nat.sub_self] at hq
    simp at hq
    subst hq
    refine ⟨A, n, c, A', n', c', ?_, ?_, hnc, hnc', hk, hv⟩
    · rw [List.getElem?_append_right (by rw [h.1]; omega), h.1, Nat.sub_self]; rfl
    · rw [List.getElem?_append_right (by rw [h.1]; omega), h.1, show 2 * ps.length + 1 - 2 * ps.length = 1 by omega]; rfl
theorem PLay.drop {R : Option Addr → Nat → List UInt8 → Prop} {xs : List Value} {ps : Prs} (h : PLay R xs ps) (i : Nat) : PLay R (xs.drop (2 * i)) (ps.drop i) := by
  refine ⟨by rw [List.length_drop, List.length_drop, h.1]; omega, fun j p hp => ?_⟩
  rw [List.getElem?_drop] at hp
  obtain ⟨A, n, c, A', n', c', k⟩ := h.2 _ p hp
  refine ⟨A, n, c, A', n', c', ?_, ?_, k.nc, k.nc', k.key, k.val⟩
  · rw [List.getElem?_drop, show 2 * i + 2 * j = 2 * (i + j) by omega]; exact k.c0
  · rw [List.getElem?_drop, show 2 * i + (2 * j + 1) = 2 * (i + j) + 1 by omega]; exact k.c1
theorem PLay.append {R : Option Addr → Nat → List UInt8 → Prop} {xs ys : List Value} {ps qs : Prs} (h : PLay R xs ps) (h' : PLay R ys qs) : PLay R (xs ++ ys) (ps ++ qs) := by
  refine ⟨by rw [List.length_append, List.length_append, h.1, h'.1]; omega, fun j p hp => ?_⟩
  by_cases hj : j < ps.length
  · rw [List.getElem?_append_left hj] at hp
    obtain ⟨A1, n1, c1, A2, n2, c2, k⟩ := h.2 j p hp
    exact ⟨A1, n1, c1, A2, n2, c2, by rw [List.getElem?_append_left (by rw [h.1]; omega)]; exact k.c0, by rw [List.getElem?_append_left (by rw [h.1]; omega)]; exact k.c1, k.nc, k.nc', k.key, k.val⟩
  · rw [List.getElem?_append_right (by omega)] at hp
    obtain ⟨A1, n1, c1, A2, n2, c2, k⟩ := h'.2 _ p hp
    refine ⟨A1, n1, c1, A2, n2, c2, ?_, ?_, k.nc, k.nc', k.key, k.val⟩
    · rw [List.getElem?_append_right (by rw [h.1]; omega), h.1, show 2 * j - 2 * ps.length = 2 * (j - ps.length) by omega]; exact k.c0
    · rw [List.getElem?_append_right (by rw [h.1]; omega), h.1, show 2 * j + 1 - 2 * ps.length = 2 * (j - ps.length) + 1 by omega]; exact k.c1
/-- All cells of pairs are one cell each. -/
theorem PLay.one {R : Option Addr → Nat → List UInt8 → Prop} {xs : List Value} {ps : Prs} (h : PLay R xs ps) : ∀ u ∈ xs, u.oneCell' = true := by
  intro u hu
  obtain ⟨i, hi⟩ := List.getElem?_of_mem hu
  have hl := (List.getElem?_eq_some_iff.1 hi).1
  have hp : i / 2 < ps.length := by have := h.1; omega
  obtain ⟨A, n, c, A', n', c', k⟩ := h.2 (i / 2) _ (List.getElem?_eq_getElem hp)
  rcases Nat.mod_two_eq_zero_or_one i with h0 | h0
  · have := k.c0
    rw [show 2 * (i / 2) = i by omega, hi] at this
    injection this with this
    subst this; rfl
  · have := k.c1
    rw [show 2 * (i / 2) + 1 = i by omega, hi] at this
    injection this with this
    subst this; rfl

/-- The slice with address A and n elements reads as pairs. -/
def PRd (w : World) (B : Nat) (A : Option Addr) (n : Nat) (ps : Prs) : Prop := ∃ xs, RdV w B 2 A n xs ∧ ps.length = n ∧ PLay (Rd w B) xs ps
section
variable {w w' : World} {B B' n : Nat} {A : Option Addr} {ps : Prs}
theorem PRd.len (h : PRd w B A n ps) : ps.length = n := by obtain ⟨_, _, h, _⟩ := h; exact h
theorem PRd.nil : PRd w B A 0 [] := ⟨[], RdV.nil, rfl, PLay.nil⟩
theorem PRd.below (h : PRd w B A n ps) (hb : Below B' w w') (hB : B ≤ B') : PRd w' B A n ps := by
  obtain ⟨xs, h1, h2, h3⟩ := h
  exact ⟨xs, h1.below hb hB, h2, h3.mono fun _ _ _ h => h.below hb hB⟩
theorem PRd.more (h : PRd w B A n ps) (hB : B ≤ B') : PRd w B' A n ps := by
  obtain ⟨xs, h1, h2, h3⟩ := h
  exact ⟨xs, h1.more hB, h2, h3.mono fun _ _ _ h => h.more hB⟩
theorem PRd.on (h : PRd w w.heap.size A n ps) (hb : Below w.heap.size w w') : PRd w' w'.heap.size A n ps := (h.below hb (Nat.le_refl _)).more hb.size
/-- Its j-th pair. -/
theorem PRd.at_ (h : PRd w B A n ps) {j : Nat} {p : List UInt8 × List UInt8} (hj : ps[j]? = some p) :
    ∃ b o A1 n1 c1 A2 n2 c2, A = some ⟨b, o, none⟩ ∧ b < B ∧ w.cell? ⟨b, o + 2 * j, none⟩ = some (.slice A1 n1 c1) ∧ w.cell? ⟨b, o + (2 * j + 1), none⟩ = some (.slice A2 n2 c2) ∧ n1 ≤ c1 ∧ n2 ≤ c2 ∧ Rd w B A1 n1 p.1 ∧ Rd w B A2 n2 p.2 := by
  obtain ⟨xs, h1, h2, h3⟩ := h
  obtain ⟨A1, n1, c1, A2, n2, c2, k⟩ := h3.2 j p hj
  have hn : 0 < n := by have := (List.getElem?_eq_some_iff.1 hj).1; omega
  obtain ⟨b, o, e, hb, hc⟩ := h1.2 hn
  exact ⟨b, o, A1, n1, c1, A2, n2, c2, e, hb, hc _ _ k.c0, hc _ _ k.c1, k.nc, k.nc', k.key, k.val⟩
end

/-- Bytes that are read, in another block than the row's. -/
def RdX (w : World) (B : Nat) (row : Option Nat) (A : Option Addr) (n : Nat) (bs : List UInt8) : Prop := Rd w B A n bs ∧ ∀ b o, A = some ⟨b, o, none⟩ → 0 < n → row ≠ some b
section
variable {w w' : World} {B B' n : Nat} {A : Option Addr} {bs : List UInt8} {row row' : Option Nat}
theorem RdX.below (h : RdX w B row A n bs) (hb : Below B' w w') (hB : B ≤ B') : RdX w' B row A n bs := ⟨h.1.below hb hB, h.2⟩
theorem RdX.more (h : RdX w B row A n bs) (hB : B ≤ B') : RdX w B' row A n bs := ⟨h.1.more hB, h.2⟩
theorem RdX.grown (h : RdX w B row A n bs) (hg : w.grownBy w' row) (hB : B ≤ w.heap.size) (hrow : row' = row ∨ row' = some w.heap.size) : RdX w' B row' A n bs := by
  refine ⟨⟨h.1.1, fun hn => ?_⟩, fun b o e hn => ?_⟩
  · obtain ⟨b, o, e, hb, hc⟩ := h.1.2 hn
    refine ⟨b, o, e, hb, fun j u hu => ?_⟩
    rw [World.cell?_of_block (w := w) (hg.block b (by omega) (fun e' => h.2 b o e hn e'.symm))]
    exact hc j u hu
  · rcases hrow with rfl | rfl
    · exact h.2 b o e hn
    · obtain ⟨b', o', e', hb, _⟩ := h.1.2 hn
      rw [e'] at e
      injection e with e
      injection e with e1 _
      subst e1
      intro e2
      injection e2 with e2
      omega
/-- What came in lies in no row of the call's own. -/
theorem rdx_old {base size k : Nat} {e : TypeId} {v : Value} {xs : List Value} (ho : w.ownsRow base e size v k xs) (hr : Rd w' base A n bs) (hb : base ≤ w'.heap.size) : RdX w' w'.heap.size v.ownBlock A n bs :=
  ⟨hr.more hb, fun b o e hn h => by
    have := (ho.lt b h).1
    obtain ⟨b', o', e', hb', _⟩ := hr.2 hn
    rw [e'] at e
    injection e with e
    injection e with e1 _
    omega⟩
end
theorem info44 : (Tryd.prog.info? 44).map (fun i => (i.zero, i.size, i.bytes)) = some (some (.agg #[.slice none 0 0, .slice none 0 0]), 2, 48) := by kernel_rfl
/-- A row of pairs of the call's own. -/
def POwn (w : World) (base : Nat) (v : Value) (n : Nat) (ps : Prs) : Prop := ∃ xs, w.ownsRow base 44 2 v n xs ∧ ps.length = n ∧ PLay (RdX w w.heap.size v.ownBlock) xs ps
theorem POwn.nil (w : World) (base : Nat) : POwn w base (.slice none 0 0) 0 [] := ⟨[], World.ownsRow_nil _ _ _ _, rfl, PLay.nil⟩
theorem POwn.rd {w : World} {base : Nat} {A : Option Addr} {n c : Nat} {ps : Prs} (h : POwn w base (.slice A n c) n ps) : PRd w w.heap.size A n ps := by
  obtain ⟨xs, h1, h2, h3⟩ := h
  exact ⟨xs, RdV.of_own h1, h2, h3.mono fun _ _ _ h => h.1⟩
theorem POwn.form {w : World} {base : Nat} {v : Value} {n : Nat} {ps : Prs} (h : POwn w base v n ps) : ∃ A c, v = .slice A n c ∧ n ≤ c ∧ (A = none → c = 0) := by
  obtain ⟨xs, h1, _, _⟩ := h
  rcases h1.2 with ⟨rfl, rfl⟩ | ⟨g, cap, cur, rfl, _, _, hnc, hm, _⟩
  · exact ⟨none, 0, rfl, Nat.le_refl _, fun _ => rfl⟩
  · exact ⟨_, cap, rfl, hnc, fun h => by cases h⟩
/-- A pair more. -/
theorem wpList_append_pair {ops : Array Oper} {rest : List Oper} {o : Oper} {a : Act} {w : World} {Q : Exit → Act → World → Prop} (hgd : o.guard = none) (s x : Operand)
    (ho : o.op = .call { callee := .builtin .append, args := #[s, x], argTypes := #[32, 32] })
    (base : Nat) (v : Value) (n : Nat) (ps : Prs) (p : List UInt8 × List UInt8) (hs : a.eval s = v) (hown : POwn w base v n ps) (A : Option Addr) (m c : Nat) (A' : Option Addr) (m' c' : Nat)
    (hx : a.eval x = .slice (some ⟨w.heap.size, 0, none⟩) 1 1) (hc : m ≤ c) (hc' : m' ≤ c') (hk : RdX w w.heap.size v.ownBlock A m p.1) (hv : RdX w w.heap.size v.ownBlock A' m' p.2)
    (hn : n ≤ 1000000) (hbase : base ≤ w.heap.size)
    (h : ∀ v' w', POwn w' base v' (n + 1) (ps ++ [p]) → Below base w w' → w.heap.size ≤ w'.heap.size → wpList Tryd.prog ops Q rest (a.put o.dst v') w') :
    wpList Tryd.prog ops Q (o :: rest) a (w.alloc (.cells #[.slice A m c, .slice A' m' c'] 44)) := by
  obtain ⟨xs, h1, h2, h3⟩ := hown
  have hr : RdV (w.alloc (.cells #[.slice A m c, .slice A' m' c'] 44)) (w.heap.size + 1) 2 (some ⟨w.heap.size, 0, none⟩) 1 [.slice A m c, .slice A' m' c'] :=
    ⟨rfl, fun _ => ⟨_, _, rfl, by omega, fun j u hu => (Whole.made w 44 #[.slice A m c, .slice A' m' c']).at_ (by rw [Nat.zero_add]; simpa using hu)⟩⟩
  obtain ⟨v', w', hrun, k2, k3, k4⟩ := run_append_rd (w.alloc (.cells #[.slice A m c, .slice A' m' c'] 44)) base 32 o.type 44 _ 2 48 Tryd.underlying32 info44 rfl (by omega) v n xs (h1.alloc _) _ _ 1 1 _ hr
    (fun u hu => by simp only [List.mem_cons, List.not_mem_nil, or_false] at hu; rcases hu with rfl | rfl <;> rfl) (by unfold maxLen; omega) (by omega) (by rw [size_alloc]; omega)
  have hb0 : Below w.heap.size w (w.alloc (.cells #[.slice A m c, .slice A' m' c'] 44)) := (Below.refl _ _).alloc (Nat.le_refl _) _
  have hbg : Below base w w' := (hb0.mono hbase).grown k3 (by rw [size_alloc]; omega) (fun k hk => (h1.lt k hk).1)
  refine wpList_plain hgd fun K hK => ?_
  unfold Oper.wp execOp
  simp only [ho, resolve, invoke, builtin, Sem.run_bind, Sem.run_pure, Result.andThen_ok, List.map_toArray, List.map_cons, List.map_nil, hs, hx, hrun]
  refine hK _ _ (h v' w' ⟨xs ++ [.slice A m c, .slice A' m' c'], k2, by rw [List.length_append, h2]; rfl, ?_⟩ hbg hbg.size)
  exact (h3.snoc p A m c A' m' c' hc hc' hk hv).mono fun A n bs hx => ((hx.below hb0 (Nat.le_refl _)).more hb0.size |>.grown k3 (Nat.le_refl _) k4).more k3.size
end Go.Proofs.YtceillnmcccckaaDoor
