/-
  How lists of pairs lie in memory: small facts that the walks lean on: no condition.
  What the document's Find and SamePairs return; conditions: the pairs are read. They make no memory.
  What the document's CutPair returns: the pairs without a key; conditions: pairs and key are read, there are no more than 1000000 of them. It only makes memory of its own.
  What the document's PutPair returns: the pairs in which a key has a value; conditions: pairs, key and value are read, there are no more than 100000 of them. It only makes memory of its own.
  Calls in memory, and their keys: what Act.Key returns; condition: the call's bytes are read. It only makes memory of its own.
-/
import Derived.Test.YtolkpjbbfopmnaaDoorFindA
namespace Go.Proofs.YtolkpjbbfopmnaaDoor
open Go.RowKit
open Tr

/-- The cells of one pair. -/
structure PAt (R : Option Addr → Nat → List UInt8 → Prop) (xs : List Value) (j : Nat) (p : List UInt8 × List UInt8) (A : Option Addr) (n c : Nat) (A' : Option Addr) (n' c' : Nat) : Prop where
  c0 : xs[2 * j]? = some (.slice A n c)
  c1 : xs[2 * j + 1]? = some (.slice A' n' c')
  nc : n ≤ c
  nc' : n' ≤ c'
  key : R A n p.1
  val : R A' n' p.2
/-- Cells that are pairs. -/
def PLay (R : Option Addr → Nat → List UInt8 → Prop) (xs : List Value) (ps : Prs) : Prop :=
  xs.length = 2 * ps.length ∧ ∀ (j : Nat) (p : List UInt8 × List UInt8), ps[j]? = some p → ∃ A n c A' n' c', PAt R xs j p A n c A' n' c'
theorem PLay.mono {R R' : Option Addr → Nat → List UInt8 → Prop} {xs : List Value} {ps : Prs} (h : PLay R xs ps) (hR : ∀ A n bs, R A n bs → R' A n bs) : PLay R' xs ps :=
  ⟨h.1, fun j p hp => by
    obtain ⟨A, n, c, A', n', c', k⟩ := h.2 j p hp
    exact ⟨A, n, c, A', n', c', k.c0, k.c1, k.nc, k.nc', hR _ _ _ k.key, hR _ _ _ k.val⟩⟩
theorem PLay.nil {R : Option Addr → Nat → List UInt8 → Prop} : PLay R [] [] := ⟨rfl, fun j p h => by simp at h⟩
theorem PLay.snoc {R : Option Addr → Nat → List UInt8 → Prop} {xs : List Value} {ps : Prs} (h : PLay R xs ps) (p : List UInt8 × List UInt8) (A : Option Addr) (n c : Nat) (A' : Option Addr) (n' c' : Nat) (hnc : n ≤ c) (hnc' : n' ≤ c') (hk : R A n p.1) (hv : R A' n' p.2) :
    PLay R (xs ++ [.slice A n c, .slice A' n' c']) (ps ++ [p]) := by
  refine ⟨by rw [List.length_append, List.length_append, h.1]; simp; omega, fun j q hq => ?_⟩
  by_cases hj : j < ps.length
  · rw [List.getElem?_append_left hj] at hq
    obtain ⟨A1, n1, c1, A2, n2, c2, k⟩ := h.2 j q hq
    exact ⟨A1, n1, c1, A2, n2, c2, by rw [List.getElem?_append_left (by rw [h.1]; omega)]; exact k.c0, by rw [List.getElem?_append_left (by rw [h.1]; omega)]; exact k.c1, k.nc, k.nc', k.key, k.val⟩
  · rw [List.getElem?_append_right (by omega)] at hq
    have h1 : j - ps.length < 1 := (List.getElem?_eq_some_iff.1 hq).1
    obtain rfl : j = ps.length := by omega
    rw [Nat.sub_self] at hq
    simp at hq
    subst hq
    refine ⟨A, n, c, A', n', c', ?_, ?_, hnc, hnc', hk, hv⟩
    · rw [List.getElem?_append_right (by rw [h.1]; omega), h.1, Nat.sub_self]; rfl
    · rw [List.getElem?_append_right (by rw [h.1]; omega), h.1, show 2 * ps.length + 1 - 2 * ps.length = 1 by omega]; rfl
theorem PLay.drop {R : Option Addr → Nat → List UInt8 → Prop} {xs : List Value} {ps : Prs} (h : PLay R xs ps) (i : Nat) : PLay R (xs.drop (2 * i)) (ps.drop i) := by
  refine ⟨by rw [List.length_drop, List.length_drop, h.1]; omega, fun j p hp => ?_⟩
  rw [List.getElem?_drop] at hp
  obtain ⟨A, n, c, A', n', c', k⟩ := h.2 _ p hp
  refine ⟨A, n, c, A', n', c', ?_, ?_, k.nc, k.nc', k.key, k.val⟩
  · rw [List.getElem?_drop, show 2 * i + 2 * j = 2 * (i + j) by omega]; exact k.c0
  · rw [List.getElem?_drop, show 2 * i + (2 * j + 1) = 2 * (i + j) + 1 by omega]; exact k.c1
theorem PLay.append {R : Option Addr → Nat → List UInt8 → Prop} {xs ys : List Value} {ps qs : Prs} (h : PLay R xs ps) (h' : PLay R ys qs) : PLay R (xs ++ ys) (ps ++ qs) := by
  refine ⟨by rw [List.length_append, List.length_append, h.1, h'.1]; omega, fun j p hp => ?_⟩
  by_cases hj : j < ps.length
  · rw [List.getElem?_append_left hj] at hp
    obtain ⟨A1, n1, c1, A2, n2, c2, k⟩ := h.2 j p hp
    exact ⟨A1, n1, c1, A2, n2, c2, by rw [List.getElem?_append_left (by rw [h.1]; omega)]; exact k.c0, by rw [List.getElem?_append_left (by rw [h.1]; omega)]; exact k.c1, k.nc, k.nc', k.key, k.val⟩
  · rw [List.getElem?_append_right (by omega)] at hp
    obtain ⟨A1, n1, c1, A2, n2, c2, k⟩ := h'.2 _ p hp
    refine ⟨A1, n1, c1, A2, n2, c2, ?_, ?_, k.nc, k.nc', k.key, k.val⟩
    · rw [List.getElem?_append_right (by rw [h.1]; omega), h.1, show 2 * j - 2 * ps.length = 2 * (j - ps.length) by omega]; exact k.c0
    · rw [List.getElem?_append_right (by rw [h.1]; omega), h.1, show 2 * j + 1 - 2 * ps.length = 2 * (j - ps.length) + 1 by omega]; exact k.c1
/-- All cells of pairs are one cell each. -/
theorem PLay.one {R : Option Addr → Nat → List UInt8 → Prop} {xs : List Value} {ps : Prs} (h : PLay R xs ps) : ∀ u ∈ xs, u.oneCell' = true := by
  intro u hu
  obtain ⟨i, hi⟩ := List.getElem?_of_mem hu
  have hl := (List.getElem?_eq_some_iff.1 hi).1
  have hp : i / 2 < ps.length := by have := h.1; omega
  obtain ⟨A, n, c, A', n', c', k⟩ := h.2 (i / 2) _ (List.getElem?_eq_getElem hp)
  rcases Nat.mod_two_eq_zero_or_one i with h0 | h0
  · have := k.c0
    rw [show 2 * (i / 2) = i by omega, hi] at this
    injection this with this
    subst this; rfl
  · have := k.c1
    rw [show 2 * (i / 2) + 1 = i by omega, hi] at this
    injection this with this
    subst this; rfl

/-- The slice with address A and n elements reads as pairs. -/
def PRd (w : World) (B : Nat) (A : Option Addr) (n : Nat) (ps : Prs) : Prop := ∃ xs, RdV w B 2 A n xs ∧ ps.length = n ∧ PLay (Rd w B) xs ps
section
variable {w w' : World} {B B' n : Nat} {A : Option Addr} {ps : Prs}
theorem PRd.len (h : PRd w B A n ps) : ps.length = n := by obtain ⟨_, _, h, _⟩ := h; exact h
theorem PRd.nil : PRd w B A 0 [] := ⟨[], RdV.nil, rfl, PLay.nil⟩
theorem PRd.below (h : PRd w B A n ps) (hb : Below B' w w') (hB : B ≤ B') : PRd w' B A n ps := by
  obtain ⟨xs, h1, h2, h3⟩ := h
  exact ⟨xs, h1.below hb hB, h2, h3.mono fun _ _ _ h => h.below hb hB⟩
theorem PRd.more (h : PRd w B A n ps) (hB : B ≤ B') : PRd w B' A n ps := by
  obtain ⟨xs, h1, h2, h3⟩ := h
  exact ⟨xs, h1.more hB, h2, h3.mono fun _ _ _ h => h.more hB⟩
theorem PRd.on (h : PRd w w.heap.size A n ps) (hb : Below w.heap.size w w') : PRd w' w'.heap.size A n ps := (h.below hb (Nat.le_refl _)).more hb.size
/-- Its j-th pair. -/
theorem PRd.at_ (h : PRd w B A n ps) {j : Nat} {p : List UInt8 × List UInt8} (hj : ps[j]? = some p) :
    ∃ b o A1 n1 c1 A2 n2 c2, A = some ⟨b, o, none⟩ ∧ b < B ∧ w.cell? ⟨b, o + 2 * j, none⟩ = some (.slice A1 n1 c1) ∧ w.cell? ⟨b, o + (2 * j + 1), none⟩ = some (.slice A2 n2 c2) ∧ n1 ≤ c1 ∧ n2 ≤ c2 ∧ Rd w B A1 n1 p.1 ∧ Rd w B A2 n2 p.2 := by
  obtain ⟨xs, h1, h2, h3⟩ := h
  obtain ⟨A1, n1, c1, A2, n2, c2, k⟩ := h3.2 j p hj
  have hn : 0 < n := by have := (List.getElem?_eq_some_iff.1 hj).1; omega
  obtain ⟨b, o, e, hb, hc⟩ := h1.2 hn
  exact ⟨b, o, A1, n1, c1, A2, n2, c2, e, hb, hc _ _ k.c0, hc _ _ k.c1, k.nc, k.nc', k.key, k.val⟩
end

/-- Bytes that are read, in another block than the row's. -/
def RdX (w : World) (B : Nat) (row : Option Nat) (A : Option Addr) (n : Nat) (bs : List UInt8) : Prop := Rd w B A n bs ∧ ∀ b o, A = some ⟨b, o, none⟩ → 0 < n → row ≠ some b
section
variable {w w' : World} {B B' n : Nat} {A : Option Addr} {bs : List UInt8} {row row' : Option Nat}
theorem RdX.below (h : RdX w B row A n bs) (hb : Below B' w w') (hB : B ≤ B') : RdX w' B row A n bs := ⟨h.1.below hb hB, h.2⟩
theorem RdX.more (h : RdX w B row A n bs) (hB : B ≤ B') : RdX w B' row A n bs := ⟨h.1.more hB, h.2⟩
theorem RdX.grown (h : RdX w B row A n bs) (hg : w.grownBy w' row) (hB : B ≤ w.heap.size) (hrow : row' = row ∨ row' = some w.heap.size) : RdX w' B row' A n bs := by
  refine ⟨⟨h.1.1, fun hn => ?_⟩, fun b o e hn => ?_⟩
  · obtain ⟨b, o, e, hb, hc⟩ := h.1.2 hn
    refine ⟨b, o, e, hb, fun j u hu => ?_⟩
    rw [World.cell?_of_block (w := w) (hg.block b (by omega) (fun e' => h.2 b o e hn e'.symm))]
    exact hc j u hu
  · rcases hrow with rfl | rfl
    · exact h.2 b o e hn
    · obtain ⟨b', o', e', hb, _⟩ := h.1.2 hn
      rw [e'] at e
      injection e with e
      injection e with e1 _
      subst e1
      intro e2
      injection e2 with e2
      omega
/-- What came in lies in no row of the call's own. -/
theorem rdx_old {base size k : Nat} {e : TypeId} {v : Value} {xs : List Value} (ho : w.ownsRow base e size v k xs) (hr : Rd w' base A n bs) (hb : base ≤ w'.heap.size) : RdX w' w'.heap.size v.ownBlock A n bs :=
  ⟨hr.more hb, fun b o e hn h => by
    have := (ho.lt b h).1
    obtain ⟨b', o', e', hb', _⟩ := hr.2 hn
    rw [e'] at e
    injection e with e
    injection e with e1 _
    omega⟩
end
theorem info44 : (Tryd.prog.info? 42).map (fun i => (i.zero, i.size, i.bytes)) = some (some (.agg #[.slice none 0 0, .slice none 0 0]), 2, 48) := by kernel_rfl
/-- A row of pairs of the call's own. -/
def POwn (w : World) (base : Nat) (v : Value) (n : Nat) (ps : Prs) : Prop := ∃ xs, w.ownsRow base 42 2 v n xs ∧ ps.length = n ∧ PLay (RdX w w.heap.size v.ownBlock) xs ps
theorem POwn.nil (w : World) (base : Nat) : POwn w base (.slice none 0 0) 0 [] := ⟨[], World.ownsRow_nil _ _ _ _, rfl, PLay.nil⟩
theorem POwn.rd {w : World} {base : Nat} {A : Option Addr} {n c : Nat} {ps : Prs} (h : POwn w base (.slice A n c) n ps) : PRd w w.heap.size A n ps := by
  obtain ⟨xs, h1, h2, h3⟩ := h
  exact ⟨xs, RdV.of_own h1, h2, h3.mono fun _ _ _ h => h.1⟩
theorem POwn.form {w : World} {base : Nat} {v : Value} {n : Nat} {ps : Prs} (h : POwn w base v n ps) : ∃ A c, v = .slice A n c ∧ n ≤ c ∧ (A = none → c = 0) := by
  obtain ⟨xs, h1, _, _⟩ := h
  rcases h1.2 with ⟨rfl, rfl⟩ | ⟨g, cap, cur, rfl, _, _, hnc, hm, _⟩
  · exact ⟨none, 0, rfl, Nat.le_refl _, fun _ => rfl⟩
  · exact ⟨_, cap, rfl, hnc, fun h => by cases h⟩
/-- A pair more. -/
theorem wpList_append_pair {ops : Array Oper} {rest : List Oper} {o : Oper} {a : Act} {w : World} {Q : Exit → Act → World → Prop} (hgd : o.guard = none) (s x : Operand)
    (ho : o.op = .call { callee := .builtin .append, args := #[s, x], argTypes := #[25, 25] })
    (base : Nat) (v : Value) (n : Nat) (ps : Prs) (p : List UInt8 × List UInt8) (hs : a.eval s = v) (hown : POwn w base v n ps) (A : Option Addr) (m c : Nat) (A' : Option Addr) (m' c' : Nat)
    (hx : a.eval x = .slice (some ⟨w.heap.size, 0, none⟩) 1 1) (hc : m ≤ c) (hc' : m' ≤ c') (hk : RdX w w.heap.size v.ownBlock A m p.1) (hv : RdX w w.heap.size v.ownBlock A' m' p.2)
    (hn : n ≤ 1000000) (hbase : base ≤ w.heap.size)
    (h : ∀ v' w', POwn w' base v' (n + 1) (ps ++ [p]) → Below base w w' → w.heap.size ≤ w'.heap.size → wpList Tryd.prog ops Q rest (a.put o.dst v') w') :
    wpList Tryd.prog ops Q (o :: rest) a (w.alloc (.cells #[.slice A m c, .slice A' m' c'] 42)) := by
  obtain ⟨xs, h1, h2, h3⟩ := hown
  have hr : RdV (w.alloc (.cells #[.slice A m c, .slice A' m' c'] 42)) (w.heap.size + 1) 2 (some ⟨w.heap.size, 0, none⟩) 1 [.slice A m c, .slice A' m' c'] :=
    ⟨rfl, fun _ => ⟨_, _, rfl, by omega, fun j u hu => (Whole.made w 42 #[.slice A m c, .slice A' m' c']).at_ (by rw [Nat.zero_add]; simpa using hu)⟩⟩
  obtain ⟨v', w', hrun, k2, k3, k4⟩ := run_append_rd (w.alloc (.cells #[.slice A m c, .slice A' m' c'] 42)) base 25 o.type 42 _ 2 48 Tryd.underlying25 info44 rfl (by omega) v n xs (h1.alloc _) _ _ 1 1 _ hr
    (fun u hu => by simp only [List.mem_cons, List.not_mem_nil, or_false] at hu; rcases hu with rfl | rfl <;> rfl) (by unfold maxLen; omega) (by omega) (by rw [size_alloc]; omega)
  have hb0 : Below w.heap.size w (w.alloc (.cells #[.slice A m c, .slice A' m' c'] 42)) := (Below.refl _ _).alloc (Nat.le_refl _) _
  have hbg : Below base w w' := (hb0.mono hbase).grown k3 (by rw [size_alloc]; omega) (fun k hk => (h1.lt k hk).1)
  refine wpList_plain hgd fun K hK => ?_
  unfold Oper.wp execOp
  simp only [ho, resolve, invoke, builtin, Sem.run_bind, Sem.run_pure, Result.andThen_ok, List.map_toArray, List.map_cons, List.map_nil, hs, hx, hrun]
  refine hK _ _ (h v' w' ⟨xs ++ [.slice A m c, .slice A' m' c'], k2, by rw [List.length_append, h2]; rfl, ?_⟩ hbg hbg.size)
  exact (h3.snoc p A m c A' m' c' hc hc' hk hv).mono fun A n bs hx => ((hx.below hb0 (Nat.le_refl _)).more hb0.size |>.grown k3 (Nat.le_refl _) k4).more k3.size
end Go.Proofs.YtolkpjbbfopmnaaDoor
namespace Go.Proofs.YtolkpjbbfopmnaaDoor
open Go.RowKit
open Tr

theorem findL_drop (k : List UInt8) (ps : Prs) (i : Nat) (p : List UInt8 × List UInt8) (h : ps[i]? = some p) : findL (ps.drop i) k = if p.1 = k then some p.2 else findL (ps.drop (i + 1)) k := by
  obtain ⟨hl, rfl⟩ := List.getElem?_eq_some_iff.1 h
  rw [List.drop_eq_getElem_cons hl]
  rfl
/-- Where a pair's key and value lie. -/
theorem PRd.near {w u : World} {A : Option Addr} {n : Nat} {ps : Prs} (h : PRd w w.heap.size A n ps) (hb : Below w.heap.size w u) {j : Nat} {p : List UInt8 × List UInt8} (hj : ps[j]? = some p) :
    ∃ b o A1 n1 c1 A2 n2 c2, A = some ⟨b, o, none⟩ ∧ u.cell? ⟨b, o + j * 2, none⟩ = some (.slice A1 n1 c1) ∧ u.cell? ⟨b, o + j * 2 + 1, none⟩ = some (.slice A2 n2 c2) ∧
      (∀ q, (convert 31 9 (.slice A1 n1 c1)).run Tryd.prog (u.drewN q) = .ok (.string ⟨p.1.toArray⟩) (u.drewN q)) ∧ (∀ q, (convert 31 9 (.slice A2 n2 c2)).run Tryd.prog (u.drewN q) = .ok (.string ⟨p.2.toArray⟩) (u.drewN q)) := by
  obtain ⟨b, o, A1, n1, c1, A2, n2, c2, e, hbb, k0, k1, _, _, r1, r2⟩ := (h.below hb (Nat.le_refl _)).at_ hj
  exact ⟨b, o, A1, n1, c1, A2, n2, c2, e, by rw [Nat.mul_comm]; exact k0, by rw [Nat.mul_comm, Nat.add_assoc]; exact k1, fun q => run_string _ _ A1 n1 c1 p.1 (r1.drewN q), fun q => run_string _ _ A2 n2 c2 p.2 (r2.drewN q)⟩

def IdxPost (ps : Prs) (k : List UInt8) (w : World) (e : Ending) (w' : World) : Prop :=
  Below w.heap.size w w' ∧ ((findL ps k = none ∧ e = .returned (.int .i64 (-1))) ∨ ∃ (i : Nat) (p : List UInt8 × List UInt8), ps[i]? = some p ∧ p.1 = k ∧ findL ps k = some p.2 ∧ e = .returned (.int .i64 i))

set_option maxRecDepth 100000 in
set_option maxHeartbeats 1000000 in
theorem samePairs_yes (A : Option Addr) (n c : Nat) (D : Option Addr) (m d : Nat) (ps : Prs) (w : World) (hp : PRd w w.heap.size A n ps) (hq : PRd w w.heap.size D m ps) (hn : n ≤ 1000000) :
    Calls Tryd.prog 14 #[.slice A n c, .slice D m d] w fun e w' => e = .returned (.bool true) ∧ Below w.heap.size w w' := by
  obtain rfl : n = m := by rw [← hp.len, ← hq.len]
  have HP := Lib.hid hp
  have HQ := Lib.hid hq
  have HLEN := Lib.hid hp.len
  clear hp hq
  go_enter Tryd.func14, Tryd.ntmps14
  go_wp2_with fail
  go_loopg [5] n (fun gk s5 wx => ∃ i, i + gk = n ∧ s5 = .int .i64 (i : Nat) ∧ Below w.heap.size w wx)
  case atStart => exact ⟨0, by omega, rfl, Below.refl _ _⟩
  case round =>
    obtain ⟨i, hi, rfl, hb⟩ := hrel
    have HB := Lib.hid hb
    clear hb
    cases gk with
    | zero =>
      obtain rfl : i = n := by omega
      go_wp2_with fail
      go_ret
      exact ⟨rfl, HB.out⟩
    | succ gn =>
      have hin : i < n := by omega
      obtain ⟨p, hpi⟩ : ∃ p, ps[i]? = some p := ⟨_, List.getElem?_eq_getElem (by rw [HLEN.out]; exact hin)⟩
      obtain ⟨b, o, A1, n1, c1, A2, n2, c2, rfl, k0, k1, s1, s2⟩ := HP.out.near HB.out hpi
      obtain ⟨b', o', A1', n1', c1', A2', n2', c2', rfl, k0', k1', s1', s2'⟩ := HQ.out.near HB.out hpi
      clear hpi
      obtain ⟨p1, p2⟩ := p
      dsimp only at s1 s2 s1' s2'
      go_wp2_with fail
      go_quiet (fail)
      rename Nat => nq
      have HB2 := Lib.hid (below_drewN HB.out nq)
      clear s1 s2 k0 k1 s1' s2' k0' k1' HB
      generalize wr.drewN nq = w2 at *
      go_wp2_with fail
      go_roundg gn
      case measure => omega
      case rel => exact ⟨i + 1, by omega, congrArg (Value.int .i64) (by omega), HB2.out⟩
end Go.Proofs.YtolkpjbbfopmnaaDoor
namespace Go.Proofs.YtolkpjbbfopmnaaDoor
open Go.RowKit
open Tr

def PairsPost (w : World) (ps : Prs) (e : Ending) (w' : World) : Prop := ∃ A n c, e = .returned (.slice A n c) ∧ PRd w' w'.heap.size A n ps ∧ n ≤ c ∧ (A = none → c = 0) ∧ Below w.heap.size w w'

theorem cutL_take (ps : Prs) (i : Nat) (p : List UInt8 × List UInt8) (k : List UInt8) (h : ps[i]? = some p) : cutL (ps.take (i + 1)) k = cutL (ps.take i) k ++ (if p.1 = k then [] else [p]) := by
  rw [List.take_add_one, h, cutL_append]
  congr 1
  by_cases e : p.1 = k
  · simp [cutL, e]
  · simp [cutL, e]

set_option maxRecDepth 100000 in
set_option maxHeartbeats 1000000 in
theorem cutPair_any (A : Option Addr) (n c : Nat) (D : Option Addr) (m d : Nat) (ps : Prs) (k : List UInt8) (w : World) (hp : PRd w w.heap.size A n ps) (hk : Rd w w.heap.size D m k) (hn : n ≤ 1000000) :
    Calls Tryd.prog 34 #[.slice A n c, .slice D m d] w (PairsPost w (cutL ps k)) := by
  have HP := Lib.hid hp
  have HK := Lib.hid hk
  have HLEN := Lib.hid hp.len
  clear hp hk
  go_enter Tryd.func34, Tryd.ntmps34
  go_wp2_with fail
  go_loopg [5, 6] n (fun gk s5 s6 wx => ∃ i q, i + gk = n ∧ q ≤ i ∧ s6 = .int .i64 (i : Nat) ∧ POwn wx w.heap.size s5 q (cutL (ps.take i) k) ∧ Below w.heap.size w wx)
  case atStart => exact ⟨0, 0, by omega, by omega, rfl, POwn.nil _ _, Below.refl _ _⟩
  case round =>
    obtain ⟨i, q, hi, hqi, rfl, hO, hb⟩ := hrel
    obtain ⟨Ao, co, rfl, hco, hAo⟩ := hO.form
    have HAO := Lib.hid hAo
    clear hAo
    have HO := Lib.hid hO
    have HB := Lib.hid hb
    have hs := hb.size
    clear hO hb
    cases gk with
    | zero =>
      obtain rfl : i = n := by omega
      go_wp2_with fail
      go_ret
      have hO := HO.out
      rw [List.take_of_length_le (by rw [HLEN.out]; exact Nat.le_refl _)] at hO
      exact ⟨Ao, q, co, rfl, hO.rd, hco, HAO.out, HB.out⟩
    | succ gn =>
      have hin : i < n := by omega
      obtain ⟨p, hpi⟩ : ∃ p, ps[i]? = some p := ⟨_, List.getElem?_eq_getElem (by rw [HLEN.out]; exact hin)⟩
      obtain ⟨b, o, A1, n1, c1, A2, n2, c2, rfl, hbb, k0, k1, nc1, nc2, r1, r2⟩ := (HP.out.below HB.out (Nat.le_refl _)).at_ hpi
      have k0' : wr.cell? ⟨b, o + i * 2, none⟩ = some (.slice A1 n1 c1) := by rw [Nat.mul_comm]; exact k0
      have k1' : wr.cell? ⟨b, o + i * 2 + 1, none⟩ = some (.slice A2 n2 c2) := by rw [Nat.mul_comm, Nat.add_assoc]; exact k1
      clear k0 k1
      have s1 := fun j => run_string (wr.drewN j) _ A1 n1 c1 p.1 (r1.drewN j)
      have s2 := fun j => run_string (wr.drewN j) _ D m d k ((HK.out.below HB.out (Nat.le_refl _)).drewN j)
      have HR1 := Lib.hid r1
      have HR2 := Lib.hid r2
      have HT := Lib.hid (cutL_take ps i p k hpi)
      clear r1 r2 hpi
      obtain ⟨p1, p2⟩ := p
      dsimp only at s1 HR1 HR2 HT
      by_cases hpk : p1 = k
      · subst hpk
        go_wp2_with fail
        go_quiet (fail)
        rename Nat => nq
        have HO2 : Hid (POwn (wr.drewN nq) w.heap.size (.slice Ao q co) q (cutL (ps.take i) p1)) := Lib.hid HO.out
        have HB2 := Lib.hid (below_drewN HB.out nq)
        clear s1 s2 k0' k1' HO HB
        generalize wr.drewN nq = w2 at *
        go_wp2_with fail
        go_roundg gn
        case measure => omega
        case rel => exact ⟨i + 1, q, by omega, by omega, congrArg (Value.int .i64) (by omega), by rw [HT.out, if_pos trivial, List.append_nil]; exact HO2.out, HB2.out⟩
      · have hq : (p1 == k) = false := by simpa using hpk
        go_wp2_with fail
        go_quiet (fail)
        rename Nat => nq
        have HO2 : Hid (POwn (wr.drewN nq) w.heap.size (.slice Ao q co) q (cutL (ps.take i) k)) := Lib.hid HO.out
        have HB2 := Lib.hid (below_drewN HB.out nq)
        have k0 : (wr.drewN nq).cell? ⟨b, o + i * 2, none⟩ = some (.slice A1 n1 c1) := k0'
        have k1 : (wr.drewN nq).cell? ⟨b, o + i * 2 + 1, none⟩ = some (.slice A2 n2 c2) := k1'
        have HR12 : Hid (Rd (wr.drewN nq) w.heap.size A1 n1 p1) := Lib.hid HR1.out
        have HR22 : Hid (Rd (wr.drewN nq) w.heap.size A2 n2 p2) := Lib.hid HR2.out
        have hs2 : w.heap.size ≤ (wr.drewN nq).heap.size := hs
        clear s1 s2 k0' k1' HO HB HR1 HR2
        generalize wr.drewN nq = w2 at *
        go_upto_region 6 with (fail)
        refine wp_region_lit ?_
        iterate 18 go_step
        refine wpList_append_pair rfl (.tmp 22) (.tmp 27) rfl w.heap.size _ q _ (p1, p2) rfl HO2.out A1 n1 c1 A2 n2 c2 rfl nc1 nc2 (by obtain ⟨_, h1, _⟩ := HO2.out; exact rdx_old h1 HR12.out hs2) (by obtain ⟨_, h1, _⟩ := HO2.out; exact rdx_old h1 HR22.out hs2) (by omega) hs2 ?_
        intro v3 w3 hO3 hb3 hs3
        have HO3 := Lib.hid hO3
        have HB3 := Lib.hid (HB2.out.trans hb3)
        clear hO3 hb3 HO2 HB2 HR12 HR22 k0 k1
        go_simp
        go_wp2_with fail
        go_roundg gn
        case measure => omega
        case rel => exact ⟨i + 1, q + 1, by omega, by omega, congrArg (Value.int .i64) (by omega), by rw [HT.out, if_neg hpk]; exact HO3.out, HB3.out⟩
end Go.Proofs.YtolkpjbbfopmnaaDoor
namespace Go.Proofs.YtolkpjbbfopmnaaDoor
open Go.RowKit
open Tr

theorem putL_drop (k v : List UInt8) (ps : Prs) (i : Nat) (p : List UInt8 × List UInt8) (h : ps[i]? = some p) : putL (ps.drop i) k v = if lt p.1 k then p :: putL (ps.drop (i + 1)) k v else if p.1 = k then (k, v) :: ps.drop (i + 1) else (k, v) :: p :: ps.drop (i + 1) := by
  obtain ⟨hl, rfl⟩ := List.getElem?_eq_some_iff.1 h
  rw [List.drop_eq_getElem_cons hl]
  rfl
theorem take_snoc {α : Type} (ps : List α) (i : Nat) (p : α) (h : ps[i]? = some p) : ps.take (i + 1) = ps.take i ++ [p] := by
  rw [List.take_add_one, h]; rfl

/-- The rest of a row of pairs behind others. -/
theorem wpList_append_rest {ops : Array Oper} {rest : List Oper} {o : Oper} {a : Act} {w : World} {Q : Exit → Act → World → Prop} (hgd : o.guard = none) (s x : Operand)
    (ho : o.op = .call { callee := .builtin .append, args := #[s, x], argTypes := #[25, 25] })
    (base : Nat) (v : Value) (n : Nat) (ps qs : Prs) (hs : a.eval s = v) (hown : POwn w base v n ps) (A : Option Addr) (m c : Nat)
    (hx : a.eval x = .slice A m c) (hr : PRd w base A m qs) (hn : n + m ≤ 1000000) (hbase : base ≤ w.heap.size)
    (h : ∀ v' w', POwn w' base v' (n + m) (ps ++ qs) → Below base w w' → w.heap.size ≤ w'.heap.size → wpList Tryd.prog ops Q rest (a.put o.dst v') w') :
    wpList Tryd.prog ops Q (o :: rest) a w := by
  obtain ⟨xs, h1, h2, h3⟩ := hown
  obtain ⟨ys, g1, g2, g3⟩ := hr
  obtain ⟨v', w', hrun, k2, k3, k4⟩ := run_append_rd w base 25 o.type 42 _ 2 48 Tryd.underlying25 info44 rfl (by omega) v n xs h1 _ A m c ys g1 g3.one (by unfold maxLen; omega) (by omega) hbase
  have hbg : Below base w w' := (Below.refl base w).grown k3 hbase (fun k hk => (h1.lt k hk).1)
  refine wpList_plain hgd fun K hK => ?_
  unfold Oper.wp execOp
  simp only [ho, resolve, invoke, builtin, Sem.run_bind, Sem.run_pure, Result.andThen_ok, List.map_toArray, List.map_cons, List.map_nil, hs, hx, hrun]
  refine hK _ _ (h v' w' ⟨xs ++ ys, k2, by rw [List.length_append, h2, g2], ?_⟩ hbg hbg.size)
  exact (h3.append (g3.mono fun A n bs hq => rdx_old h1 hq hbase)).mono fun A n bs hx => (hx.grown k3 (Nat.le_refl _) k4).more k3.size
theorem PRd.drop {w : World} {B b o n : Nat} {ps : Prs} (h : PRd w B (some ⟨b, o, none⟩) n ps) (i : Nat) (hi : i ≤ n) : PRd w B (some ⟨b, o + i * 2, none⟩) (n - i) (ps.drop i) := by
  obtain ⟨xs, h1, h2, h3⟩ := h
  refine ⟨xs.drop (2 * i), ⟨by rw [List.length_drop, h1.1]; omega, fun hn => ?_⟩, by rw [List.length_drop, h2], h3.drop i⟩
  obtain ⟨b', o', e, hb, hc⟩ := h1.2 (by omega)
  injection e with e
  injection e with e1 e2
  subst e1 e2
  refine ⟨b, o + i * 2, rfl, hb, fun j u hu => ?_⟩
  rw [List.getElem?_drop] at hu
  have := hc _ u hu
  rwa [show o + (2 * i + j) = o + i * 2 + j by omega] at this

set_option maxRecDepth 100000 in
set_option maxHeartbeats 1000000 in
theorem putPair_any (A : Option Addr) (n c : Nat) (D : Option Addr) (m d : Nat) (E : Option Addr) (me ce : Nat) (ps : Prs) (k v : List UInt8) (w : World) (hp : PRd w w.heap.size A n ps) (hnc : n ≤ c) (hA : A = none → c = 0) (hk : Rd w w.heap.size D m k) (hmd : m ≤ d) (hv : Rd w w.heap.size E me v) (hme : me ≤ ce) (hn : n ≤ 100000) :
    Calls Tryd.prog 33 #[.slice A n c, .slice D m d, .slice E me ce] w (PairsPost w (putL ps k v)) := by
  have HP := Lib.hid hp
  have HK := Lib.hid hk
  have HV := Lib.hid hv
  have HLEN := Lib.hid hp.len
  have HA := Lib.hid hA
  clear hp hk hv hA
  go_enter Tryd.func33, Tryd.ntmps33
  go_wp2_with fail
  go_loopg [7, 8] n (fun gk s7 s8 wx => ∃ i, i + gk = n ∧ s8 = .int .i64 (i : Nat) ∧ POwn wx w.heap.size s7 i (ps.take i) ∧ putL ps k v = ps.take i ++ putL (ps.drop i) k v ∧ Below w.heap.size w wx)
  case atStart => exact ⟨0, by omega, rfl, POwn.nil _ _, rfl, Below.refl _ _⟩
  case round =>
    obtain ⟨i, hi, rfl, hO, hput, hb⟩ := hrel
    obtain ⟨Ao, co, rfl, hco, hAo⟩ := hO.form
    clear hAo
    have HO := Lib.hid hO
    have HB := Lib.hid hb
    have HPUT := Lib.hid hput
    have hs := hb.size
    clear hO hb hput
    cases gk with
    | zero =>
      obtain rfl : i = n := by omega
      have HDN : Hid (ps.drop i = []) := Lib.hid (List.drop_eq_nil_of_le (by rw [HLEN.out]; exact Nat.le_refl _))
      go_wp2_with fail
      go_quiet (fail)
      rename Nat => nq
      have HO2 : Hid (POwn (wr.drewN nq) w.heap.size (.slice Ao i co) i (ps.take i)) := Lib.hid HO.out
      have HB2 := Lib.hid (below_drewN HB.out nq)
      have hs2 : w.heap.size ≤ (wr.drewN nq).heap.size := hs
      clear HO HB hs
      generalize wr.drewN nq = w2 at *
      go_upto_region 6 with (fail)
      refine wp_region_lit ?_
      iterate 15 go_step
      refine wpList_append_pair rfl (.tmp 33) (.tmp 37) rfl w.heap.size _ i _ (k, v) rfl HO2.out D m d E me ce rfl hmd hme (by obtain ⟨_, h1, _⟩ := HO2.out; exact rdx_old h1 (HK.out.below HB2.out (Nat.le_refl _)) hs2) (by obtain ⟨_, h1, _⟩ := HO2.out; exact rdx_old h1 (HV.out.below HB2.out (Nat.le_refl _)) hs2) (by omega) hs2 ?_
      intro v3 w3 hO3 hb3 hs3
      obtain ⟨A3, c3, rfl, hc3, _⟩ := hO3.form
      have HO3 := Lib.hid hO3
      have HB3 := Lib.hid (HB2.out.trans hb3)
      clear hO3 hb3 HO2 HB2
      have hs3' : w.heap.size ≤ w3.heap.size := by omega
      clear hs3 hs2
      go_simp
      go_wp2_with fail
      go_quiet (fail)
      rename Nat => nq3
      have HO4 : Hid (POwn (w3.drewN nq3) w.heap.size (.slice A3 (i + 1) c3) (i + 1) (ps.take i ++ [(k, v)])) := Lib.hid HO3.out
      have HB4 := Lib.hid (below_drewN HB3.out nq3)
      have hs4 : w.heap.size ≤ (w3.drewN nq3).heap.size := hs3'
      clear HO3 HB3 hs3'
      generalize w3.drewN nq3 = w4 at *
      go_upto_region 9 with (fail)
      refine wp_region_lit ?_
      iterate 12 go_step
      refine wpList_append_rest rfl (.tmp 56) (.tmp 59) rfl w.heap.size _ (i + 1) _ ([]) rfl HO4.out _ (0) _ rfl ?_ (by omega) hs4 ?_
      · exact PRd.nil
      intro v5 w5 hO5 hb5 hs5
      obtain ⟨A5, c5, rfl, hc5, hA5⟩ := hO5.form
      have HO5 := Lib.hid (And.intro hO5.rd hA5)
      have HB5 := Lib.hid (HB4.out.trans hb5)
      clear hO5 hb5 HO4 HB4 hA5
      go_simp
      go_wp2_with fail
      all_goals
        go_ret
        refine ⟨A5, _, c5, rfl, ?_, hc5, HO5.out.2, HB5.out⟩
        have h5 := HO5.out.1
        rw [HPUT.out, HDN.out, show putL [] k v = [(k, v)] from rfl]
        simpa using h5
    | succ gn =>
      have hin : i < n := by omega
      obtain ⟨p, hpi⟩ : ∃ p, ps[i]? = some p := ⟨_, List.getElem?_eq_getElem (by rw [HLEN.out]; exact hin)⟩
      obtain ⟨b, o, A1, n1, c1, A2, n2, c2, rfl, hbb, kk0, kk1, nc1, nc2, rr1, rr2⟩ := HP.out.at_ hpi
      have HDR := Lib.hid (putL_drop k v ps i p hpi)
      have HTK := Lib.hid (take_snoc ps i p hpi)
      have HDC : Hid (ps.drop i = p :: ps.drop (i + 1)) := Lib.hid (by obtain ⟨hl, rfl⟩ := List.getElem?_eq_some_iff.1 hpi; exact List.drop_eq_getElem_cons hl)
      clear hpi HA
      obtain ⟨p1, p2⟩ := p
      have HF : Hid (∀ u, Below w.heap.size w u → u.cell? ⟨b, o + i * 2, none⟩ = some (.slice A1 n1 c1) ∧ u.cell? ⟨b, o + i * 2 + 1, none⟩ = some (.slice A2 n2 c2) ∧ Rd u w.heap.size A1 n1 p1 ∧ Rd u w.heap.size A2 n2 p2) := Lib.hid (fun u hb => by
        refine ⟨?_, ?_, rr1.below hb (Nat.le_refl _), rr2.below hb (Nat.le_refl _)⟩
        · rw [Nat.mul_comm i 2]; exact (hb.cell (p := ⟨b, o + 2 * i, none⟩) hbb).trans kk0
        · rw [Nat.mul_comm i 2, Nat.add_assoc]; exact (hb.cell (p := ⟨b, o + (2 * i + 1), none⟩) hbb).trans kk1)
      dsimp only at HDR HTK HDC
      clear kk0 kk1 rr1 rr2
      obtain ⟨k0, k1, r1, r2⟩ := HF.out wr HB.out
      have s1 := fun j => run_string (wr.drewN j) _ A1 n1 c1 p1 (r1.drewN j)
      have s2 := fun j => run_string (wr.drewN j) _ D m d k ((HK.out.below HB.out (Nat.le_refl _)).drewN j)
      clear r1 r2
      by_cases hlt : lt p1 k = true
      · have hq : Go.Op.bytesLess p1 k = true := hlt
        go_wp2_with fail
        go_quiet (fail)
        rename Nat => nq
        have HO2 : Hid (POwn (wr.drewN nq) w.heap.size (.slice Ao i co) i (ps.take i)) := Lib.hid HO.out
        have HB2 := Lib.hid (below_drewN HB.out nq)
        have hs2 : w.heap.size ≤ (wr.drewN nq).heap.size := hs
        clear HO HB hs s1 s2 k0 k1
        generalize wr.drewN nq = w2 at *
        obtain ⟨k0, k1, r1, r2⟩ := HF.out w2 HB2.out
        have HR1 := Lib.hid r1
        have HR2 := Lib.hid r2
        clear r1 r2
        go_upto_region 4 with (fail)
        refine wp_region_lit ?_
        iterate 18 go_step
        refine wpList_append_pair rfl (.tmp 24) (.tmp 29) rfl w.heap.size _ i _ (p1, p2) rfl HO2.out A1 n1 c1 A2 n2 c2 rfl nc1 nc2 (by obtain ⟨_, h1, _⟩ := HO2.out; exact rdx_old h1 HR1.out hs2) (by obtain ⟨_, h1, _⟩ := HO2.out; exact rdx_old h1 HR2.out hs2) (by omega) hs2 ?_
        intro v3 w3 hO3 hb3 hs3
        have HO3 := Lib.hid hO3
        have HB3 := Lib.hid (HB2.out.trans hb3)
        clear hO3 hb3 HO2 HB2 HR1 HR2 k0 k1
        go_simp
        go_wp2_with fail
        go_roundg gn
        case measure => omega
        case rel =>
          refine ⟨i + 1, by omega, congrArg (Value.int .i64) (by omega), by rw [HTK.out]; exact HO3.out, ?_, HB3.out⟩
          rw [HPUT.out, HDR.out, if_pos hlt, HTK.out, List.append_assoc]
          rfl
      · have hq : Go.Op.bytesLess p1 k = false := (Bool.not_eq_true _).mp hlt
        go_wp2_with fail
        go_quiet (fail)
        rename Nat => nq
        have HO2 : Hid (POwn (wr.drewN nq) w.heap.size (.slice Ao i co) i (ps.take i)) := Lib.hid HO.out
        have HB2 := Lib.hid (below_drewN HB.out nq)
        have hs2 : w.heap.size ≤ (wr.drewN nq).heap.size := hs
        clear HO HB hs s1 s2 k0 k1
        generalize wr.drewN nq = w2 at *
        go_upto_region 6 with (fail)
        refine wp_region_lit ?_
        iterate 15 go_step
        refine wpList_append_pair rfl (.tmp 33) (.tmp 37) rfl w.heap.size _ i _ (k, v) rfl HO2.out D m d E me ce rfl hmd hme (by obtain ⟨_, h1, _⟩ := HO2.out; exact rdx_old h1 (HK.out.below HB2.out (Nat.le_refl _)) hs2) (by obtain ⟨_, h1, _⟩ := HO2.out; exact rdx_old h1 (HV.out.below HB2.out (Nat.le_refl _)) hs2) (by omega) hs2 ?_
        intro v3 w3 hO3 hb3 hs3
        obtain ⟨A3, c3, rfl, hc3, _⟩ := hO3.form
        have HO3 := Lib.hid hO3
        have HB3 := Lib.hid (HB2.out.trans hb3)
        clear hO3 hb3 HO2 HB2
        have hs3' : w.heap.size ≤ w3.heap.size := by omega
        clear hs3 hs2
        go_simp
        obtain ⟨k0, k1, r1, r2⟩ := HF.out w3 HB3.out
        have s1 := fun j => run_string (w3.drewN j) _ A1 n1 c1 p1 (r1.drewN j)
        have s2 := fun j => run_string (w3.drewN j) _ D m d k ((HK.out.below HB3.out (Nat.le_refl _)).drewN j)
        clear r1 r2
        by_cases hpk : p1 = k
        · have hqk : (p1 == k) = true := by simpa using hpk
          go_wp2_with fail
          go_quiet (fail)
          rename Nat => nq3
          have HO4 : Hid (POwn (w3.drewN nq3) w.heap.size (.slice A3 (i + 1) c3) (i + 1) (ps.take i ++ [(k, v)])) := Lib.hid HO3.out
          have HB4 := Lib.hid (below_drewN HB3.out nq3)
          have hs4 : w.heap.size ≤ (w3.drewN nq3).heap.size := hs3'
          clear HO3 HB3 hs3' s1 s2 k0 k1
          generalize w3.drewN nq3 = w4 at *
          go_upto_region 9 with (fail)
          refine wp_region_lit ?_
          iterate 12 go_step
          refine wpList_append_rest rfl (.tmp 56) (.tmp 59) rfl w.heap.size _ (i + 1) _ (ps.drop (i + 1)) rfl HO4.out _ (n - (i + 1)) _ rfl ?_ (by omega) hs4 ?_
          · by_cases hci : c = i + 1
            · rw [if_pos hci, show n - (i + 1) = 0 by omega, List.drop_eq_nil_of_le (by rw [HLEN.out]; omega)]; exact PRd.nil
            · rw [if_neg hci]
              exact (HP.out.drop (i + 1) (by omega)).below HB4.out (Nat.le_refl _)
          intro v5 w5 hO5 hb5 hs5
          obtain ⟨A5, c5, rfl, hc5, hA5⟩ := hO5.form
          have HO5 := Lib.hid (And.intro hO5.rd hA5)
          have HB5 := Lib.hid (HB4.out.trans hb5)
          clear hO5 hb5 HO4 HB4 hA5
          go_simp
          go_wp2_with fail
          all_goals
            go_ret
            refine ⟨A5, _, c5, rfl, ?_, hc5, HO5.out.2, HB5.out⟩
            have h5 := HO5.out.1
            rw [HPUT.out, HDR.out, if_neg hlt, if_pos hpk]
            simpa using h5
        · have hqk : (p1 == k) = false := by simpa using hpk
          go_wp2_with fail
          go_quiet (fail)
          rename Nat => nq3
          have HO4 : Hid (POwn (w3.drewN nq3) w.heap.size (.slice A3 (i + 1) c3) (i + 1) (ps.take i ++ [(k, v)])) := Lib.hid HO3.out
          have HB4 := Lib.hid (below_drewN HB3.out nq3)
          have hs4 : w.heap.size ≤ (w3.drewN nq3).heap.size := hs3'
          clear HO3 HB3 hs3' s1 s2 k0 k1
          generalize w3.drewN nq3 = w4 at *
          go_upto_region 9 with (fail)
          refine wp_region_lit ?_
          iterate 12 go_step
          refine wpList_append_rest rfl (.tmp 56) (.tmp 59) rfl w.heap.size _ (i + 1) _ (ps.drop i) rfl HO4.out _ (n - i) _ rfl ?_ (by omega) hs4 ?_
          · exact (HP.out.drop i (by omega)).below HB4.out (Nat.le_refl _)
          intro v5 w5 hO5 hb5 hs5
          obtain ⟨A5, c5, rfl, hc5, hA5⟩ := hO5.form
          have HO5 := Lib.hid (And.intro hO5.rd hA5)
          have HB5 := Lib.hid (HB4.out.trans hb5)
          clear hO5 hb5 HO4 HB4 hA5
          go_simp
          go_wp2_with fail
          all_goals
            go_ret
            refine ⟨A5, _, c5, rfl, ?_, hc5, HO5.out.2, HB5.out⟩
            have h5 := HO5.out.1
            rw [HPUT.out, HDR.out, if_neg hlt, if_neg hpk, ← HDC.out]
            simpa using h5
end Go.Proofs.YtolkpjbbfopmnaaDoor
namespace Go.Proofs.YtolkpjbbfopmnaaDoor
open Go.RowKit
open Tr

structure Ac where
  kind : UInt8
  no : UInt8
  raw : List UInt8
  val : List UInt8
def kb1 (x : UInt8) : UInt8 := UInt8.ofNat (97 + x.toNat % 26)
def kb2 (x : UInt8) : UInt8 := UInt8.ofNat (97 + x.toNat / 26)
def Ac.key (a : Ac) : List UInt8 := if a.raw = [] then [107, kb1 a.no, kb2 a.no] else a.raw
def Ac.cut (a : Ac) : List UInt8 := a.val.take 100
theorem Ac.key_pos (a : Ac) : 1 ≤ a.key.length := by
  unfold Ac.key
  split
  · show 1 ≤ 3; omega
  · rename_i h
    cases hr : a.raw with
    | nil => exact absurd hr h
    | cons x r => simp

theorem key_cells (x : UInt8) : #[Value.int .u8 107, Value.int .u8 (97 + (x.toNat : Int) % 26), Value.int .u8 ((97 + (x.toNat : Int) / 26) % 256)] = (([107, kb1 x, kb2 x] : List UInt8).map V8).toArray := by
  have h1 : ((kb1 x).toNat : Int) = 97 + (x.toNat : Int) % 26 := by
    unfold kb1
    rw [UInt8.toNat_ofNat']
    omega
  have h2 : ((kb2 x).toNat : Int) = (97 + (x.toNat : Int) / 26) % 256 := by
    unfold kb2
    rw [UInt8.toNat_ofNat']
    omega
  simp only [List.map_cons, List.map_nil, V8, h1, h2]
  rfl

set_option maxRecDepth 100000 in
theorem key_any (a : Ac) (A1 A2 : Option Addr) (n1 c1 n2 c2 : Nat) (w : World) (h1 : Rd w w.heap.size A1 n1 a.raw) (hnc : n1 ≤ c1) :
    Calls Tryd.prog 9 #[.agg #[.int .u8 a.kind.toNat, .int .u8 a.no.toNat, .slice A1 n1 c1, .slice A2 n2 c2]] w (BytesPost w a.key) := by
  have hb0 : Below w.heap.size w (w.alloc (.cells #[.int .u8 a.kind.toNat, .int .u8 a.no.toNat, .slice A1 n1 c1, .slice A2 n2 c2] 33)) := (Below.refl _ _).alloc (Nat.le_refl _) _
  have hw0 := Whole.made w 33 #[.int .u8 a.kind.toNat, .int .u8 a.no.toNat, .slice A1 n1 c1, .slice A2 n2 c2]
  have c1' := hw0.at_ (i := 1) rfl
  have c2' := hw0.at_ (i := 2) rfl
  have hs0 : (w.alloc (.cells #[.int .u8 a.kind.toNat, .int .u8 a.no.toNat, .slice A1 n1 c1, .slice A2 n2 c2] 33)).heap.size = w.heap.size + 1 := size_alloc _ _
  have HR := Lib.hid h1
  have HB := Lib.hid hb0
  have hlen := h1.len
  clear h1 hb0 hw0
  by_cases hr : a.raw = []
  · have HK : Hid (a.key = [107, kb1 a.no, kb2 a.no]) := Lib.hid (by unfold Ac.key; rw [if_pos hr])
    obtain rfl : n1 = 0 := by rw [← hlen, hr]; rfl
    clear hlen hr
    go_enter Tryd.func9, Tryd.ntmps9
    go_upto_region 3 with (fail)
    generalize w.alloc (.cells #[.int .u8 a.kind.toNat, .int .u8 a.no.toNat, .slice A1 0 c1, .slice A2 n2 c2] 33) = w1 at *
    refine wp_region_lit ?_
    iterate 27 go_step
    have hb2 : Below w1.heap.size w1 (w1.alloc (.cells #[.int .u8 107, .int .u8 (97 + (a.no.toNat : Int) % 26), .int .u8 ((97 + (a.no.toNat : Int) / 26) % 256)] 5)) := (Below.refl _ _).alloc (Nat.le_refl _) _
    have hr2 : Rd (w1.alloc (.cells #[.int .u8 107, .int .u8 (97 + (a.no.toNat : Int) % 26), .int .u8 ((97 + (a.no.toNat : Int) / 26) % 256)] 5)) (w1.heap.size + 1) (some ⟨w1.heap.size, 0, none⟩) 3 [107, kb1 a.no, kb2 a.no] := rd_new w1 5 _ 3 rfl _ (key_cells a.no)
    have hs2 : (w1.alloc (.cells #[.int .u8 107, .int .u8 (97 + (a.no.toNat : Int) % 26), .int .u8 ((97 + (a.no.toNat : Int) / 26) % 256)] 5)).heap.size = w1.heap.size + 1 := size_alloc _ _
    rw [hs0] at hr2
    have HR2 := Lib.hid (hr2.more (B' := (w1.alloc (.cells #[.int .u8 107, .int .u8 (97 + (a.no.toNat : Int) % 26), .int .u8 ((97 + (a.no.toNat : Int) / 26) % 256)] 5)).heap.size) (by omega))
    have HB2 := Lib.hid (HB.out.trans (hb2.mono HB.out.size))
    clear hr2 hb2 hs2 c1' c2'
    generalize w1.alloc (.cells #[.int .u8 107, .int .u8 (97 + (a.no.toNat : Int) % 26), .int .u8 ((97 + (a.no.toNat : Int) / 26) % 256)] 5) = w2 at *
    go_wp2_with fail
    go_ret
    exact ⟨_, 3, 3, rfl, by rw [HK.out]; exact HR2.out, Nat.le_refl _, HB2.out⟩
  · have HK : Hid (a.key = a.raw) := Lib.hid (by unfold Ac.key; rw [if_neg hr])
    have hn : 0 < n1 := by
      rw [← hlen]
      cases ha : a.raw with
      | nil => exact absurd ha hr
      | cons x r => simp
    clear hlen hr
    go_enter Tryd.func9, Tryd.ntmps9
    go_upto_region 1 with (fail)
    generalize w.alloc (.cells #[.int .u8 a.kind.toNat, .int .u8 a.no.toNat, .slice A1 n1 c1, .slice A2 n2 c2] 33) = w1 at *
    go_wp2_with fail
    go_ret
    exact ⟨A1, n1, c1, rfl, by rw [HK.out]; exact (HR.out.below HB.out (Nat.le_refl _)).more HB.out.size, hnc, HB.out⟩

/-- The cells of one call. -/
def Ac.cells (a : Ac) (A1 : Option Addr) (n1 c1 : Nat) (A2 : Option Addr) (n2 c2 : Nat) : Array Value := #[.int .u8 a.kind.toNat, .int .u8 a.no.toNat, .slice A1 n1 c1, .slice A2 n2 c2]
/-- The slice with address A and n elements reads as calls. -/
def ARd (w : World) (B : Nat) (A : Option Addr) (n : Nat) (cs : List Ac) : Prop :=
  cs.length = n ∧ ∀ (j : Nat) (a : Ac), cs[j]? = some a → ∃ b o A1 n1 c1 A2 n2 c2, A = some ⟨b, o, none⟩ ∧ b < B ∧ w.cell? ⟨b, o + j * 4, none⟩ = some (.int .u8 a.kind.toNat) ∧ w.cell? ⟨b, o + j * 4 + 1, none⟩ = some (.int .u8 a.no.toNat) ∧
    w.cell? ⟨b, o + j * 4 + 2, none⟩ = some (.slice A1 n1 c1) ∧ w.cell? ⟨b, o + j * 4 + 3, none⟩ = some (.slice A2 n2 c2) ∧ n1 ≤ c1 ∧ n2 ≤ c2 ∧ n1 ≤ 140737488355328 ∧ n2 ≤ 140737488355328 ∧ Rd w B A1 n1 a.raw ∧ Rd w B A2 n2 a.val
theorem ARd.below {w w' : World} {B B' n : Nat} {A : Option Addr} {cs : List Ac} (h : ARd w B A n cs) (hb : Below B' w w') (hB : B ≤ B') : ARd w' B A n cs :=
  ⟨h.1, fun j a ha => by
    obtain ⟨b, o, A1, n1, c1, A2, n2, c2, e, hbb, k0, k1, k2, k3, m1, m2, m3, m4, r1, r2⟩ := h.2 j a ha
    have hc : ∀ q, w'.cell? ⟨b, q, none⟩ = w.cell? ⟨b, q, none⟩ := fun q => hb.cell (p := ⟨b, q, none⟩) (Nat.lt_of_lt_of_le hbb hB)
    exact ⟨b, o, A1, n1, c1, A2, n2, c2, e, hbb, (hc _).trans k0, (hc _).trans k1, (hc _).trans k2, (hc _).trans k3, m1, m2, m3, m4, r1.below hb hB, r2.below hb hB⟩⟩

theorem ARd.more {w : World} {B B' n : Nat} {A : Option Addr} {cs : List Ac} (h : ARd w B A n cs) (hB : B ≤ B') : ARd w B' A n cs :=
  ⟨h.1, fun j a ha => by
    obtain ⟨b, o, A1, n1, c1, A2, n2, c2, e, hbb, k0, k1, k2, k3, m1, m2, m3, m4, r1, r2⟩ := h.2 j a ha
    exact ⟨b, o, A1, n1, c1, A2, n2, c2, e, Nat.lt_of_lt_of_le hbb hB, k0, k1, k2, k3, m1, m2, m3, m4, r1.more hB, r2.more hB⟩⟩

/-- One call on a tree. -/
def gstep (o : Option T) (a : Ac) : Option T :=
  if a.kind.toNat % 6 < 4 then some (oput o a.key a.cut) else if (ofind o a.key).isSome then ocut o a.key else o
/-- Calls on a tree, no more than so many, as long as keys may be. -/
def grow : Nat → List Ac → Option T → Option T
  | 0, _, o => o
  | _ + 1, [], o => o
  | m + 1, a :: r, o => if 90 < a.key.length then o else grow m r (gstep o a)
/-- A tree that is in order. -/
def OAvl : Option T → Prop
  | none => True
  | some t => Avl t
structure Fine (o : Option T) : Prop where
  srt : Srt (optLeaves o)
  avl : OAvl o
theorem Fine.none : Fine none := ⟨List.Pairwise.nil, trivial⟩
theorem oput_leaves (o : Option T) (k v : List UInt8) (h : Srt (optLeaves o)) : (oput o k v).leaves = putL (optLeaves o) k v := by
  cases o with
  | none => rfl
  | some t => exact put_leaves k v t h
theorem Fine.put {o : Option T} (h : Fine o) (k v : List UInt8) : Fine (some (oput o k v)) := by
  refine ⟨?_, ?_⟩
  · show Srt (oput o k v).leaves
    rw [oput_leaves o k v h.srt]
    exact putL_srt k v _ h.srt
  · cases o with
    | none => exact trivial
    | some t => exact (put_avl k v t h.avl).1
theorem ofind_leaves (o : Option T) (k : List UInt8) (h : Srt (optLeaves o)) : ofind o k = findL (optLeaves o) k := by
  cases o with
  | none => rfl
  | some t => exact find_leaves k t h
theorem ocut_leaves (o : Option T) (k : List UInt8) (h : Srt (optLeaves o)) (hf : (ofind o k).isSome = true) : optLeaves (ocut o k) = cutL (optLeaves o) k := by
  cases o with
  | none => cases hf
  | some t => exact cut_leaves k t h hf
theorem Fine.cut {o : Option T} (h : Fine o) (k : List UInt8) (hf : (ofind o k).isSome = true) : Fine (ocut o k) := by
  refine ⟨?_, ?_⟩
  · rw [ocut_leaves o k h.srt hf]
    exact cutL_srt k h.srt
  · cases o with
    | none => exact trivial
    | some t =>
      show OAvl (t.cut k)
      cases hc : t.cut k with
      | none => exact trivial
      | some t' => exact (cut_avl k t t' h.avl hc).1
theorem findL_none_cut {l : Prs} {k : List UInt8} (h : findL l k = none) : cutL l k = l := by
  refine cutL_none fun p hp e => ?_
  induction l with
  | nil => cases hp
  | cons x r ih =>
    unfold findL at h
    split at h
    · cases h
    · rename_i hx
      rcases List.mem_cons.1 hp with rfl | hp
      · exact hx e
      · exact ih h hp
theorem oln_leaves (o : Option T) : (optLeaves o).length = oln o := by
  cases o with
  | none => rfl
  | some t => exact T.n_leaves t
theorem cutL_le (l : Prs) (k : List UInt8) : (cutL l k).length ≤ l.length := List.length_filter_le _ _
theorem gstep_put {o : Option T} {a : Ac} (h : a.kind.toNat % 6 < 4) : gstep o a = some (oput o a.key a.cut) := by unfold gstep; rw [if_pos h]
theorem grow_stop (m : Nat) (a : Ac) (r : List Ac) (o : Option T) (h : 90 < a.key.length) : grow m (a :: r) o = o := by
  cases m with
  | zero => rfl
  | succ m => show (if 90 < a.key.length then o else _) = o; rw [if_pos h]
theorem grow_nil (m : Nat) (o : Option T) : grow m [] o = o := by cases m <;> rfl
theorem grow_step (m : Nat) (a : Ac) (r : List Ac) (o : Option T) (h : ¬ 90 < a.key.length) : grow (m + 1) (a :: r) o = grow m r (gstep o a) := by
  show (if 90 < a.key.length then o else grow m r (gstep o a)) = _
  rw [if_neg h]
end Go.Proofs.YtolkpjbbfopmnaaDoor
