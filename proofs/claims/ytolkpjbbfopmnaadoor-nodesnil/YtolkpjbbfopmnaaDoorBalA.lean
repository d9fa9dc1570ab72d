/-
  Small facts for the law TreeBalance: sums of answered nodes, ways in a queue: conditions: they lie in memory.
-/
import Derived.Test.YtolkpjbbfopmnaaDoorQueue
import Derived.Test.YtolkpjbbfopmnaaDoorAllM
namespace Go.Proofs.YtolkpjbbfopmnaaDoor
open Go.RowKit
open Tr

/-- The sum of a node that was answered. -/
theorem hash_told (s : T) (cs : Array Value) (A A' : Option Addr) (n c n' c' B : Nat) (w w0 : World) (h : Told w B s cs A n c A' n' c') (hb : Below w.heap.size w w0) (hn : s.n ≤ 1000) (ht : Sh.Tab w0 1) (hw : 1 < w0.heap.size) :
    Calls Tryd.prog 26 #[.agg cs] w0 fun e w' => e = .returned (.agg (Sh.bcells s.sum)) ∧ Below w0.heap.size w0 w' := by
  rw [h.eq]
  have hk := (h.key.below hb (Nat.le_refl _)).more hb.size
  have hv := (h.val.below hb (Nat.le_refl _)).more hb.size
  have h1 := h.kle
  have h2 := h.vle
  cases s with
  | leaf k v => exact hash_leaf A n c A' n' c' _ _ _ k v w0 hk hv h.knc h.vnc (by omega) (by omega) ht hw
  | node l r =>
    have hz : (UInt64.ofNat (T.node l r).n).toNat = (T.node l r).n := by
      rw [UInt64.toNat_ofNat']
      exact Nat.mod_eq_of_lt (by omega)
    have := hash_inner (.slice A n c) (.slice A' n' c') ((T.node l r).h : Int) (UInt8.ofNat (T.node l r).h) (UInt64.ofNat (T.node l r).n) l.sum r.sum w0 (by have := h_ne l r; omega) (u8_len _) (sum32 l) (sum32 r) ht hw
    rw [hz] at this
    exact this

theorem oat_snoc (t : T) : ∀ (way : List Bool) (l r : T) (b : Bool), oat (some t) way = some (.node l r) → oat (some t) (way ++ [b]) = some (if b then r else l) := by
  intro way
  induction way generalizing t with
  | nil =>
    intro l r b h
    rw [oat_nil] at h
    injection h with h
    subst h
    cases b <;> simp [oat]
  | cons x way ih =>
    intro l r b h
    cases t with
    | leaf k v => simp [oat] at h
    | node tl tr =>
      cases x
      · simp [oat] at h ⊢
        exact ih tl l r b h
      · simp [oat] at h ⊢
        exact ih tr l r b h
theorem n_pos : ∀ t : T, 1 ≤ t.n
  | .leaf _ _ => Nat.le_refl _
  | .node l r => by have := n_pos l; show 1 ≤ l.n + r.n; omega
theorem oat_deep (t : T) : ∀ (way : List Bool) (s : T), oat (some t) way = some s → way.length + s.n ≤ t.n := by
  intro way
  induction way generalizing t with
  | nil =>
    intro s h
    rw [oat_nil] at h
    injection h with h
    subst h
    simp
  | cons x way ih =>
    intro s h
    cases t with
    | leaf k v => simp [oat] at h
    | node tl tr =>
      have h1 := n_pos tl
      have h2 := n_pos tr
      show way.length + 1 + s.n ≤ tl.n + tr.n
      cases x
      · have := ih tl s (by simpa [oat] using h)
        omega
      · have := ih tr s (by simpa [oat] using h)
        omega

/-- A way in a cell of a queue, in another block than the queue's. -/
def WAt (w : World) (row : Option Nat) (u : Value) (way : List Bool) : Prop :=
  ∃ A n c, u = .slice A n c ∧ n ≤ c ∧ RdV w w.heap.size 1 A n (way.map Value.bool) ∧ ∀ b o, A = some ⟨b, o, none⟩ → 0 < n → row ≠ some b
theorem WAt.below {w w' : World} {row : Option Nat} {u : Value} {way : List Bool} (h : WAt w row u way) (hb : Below w.heap.size w w') : WAt w' row u way := by
  obtain ⟨A, n, c, h1, h2, h3, h4⟩ := h
  exact ⟨A, n, c, h1, h2, (h3.below hb (Nat.le_refl _)).more hb.size, h4⟩
theorem WAt.grown {w w' : World} {row row' : Option Nat} {u : Value} {way : List Bool} (h : WAt w row u way) (hg : w.grownBy w' row) (hr : row' = row ∨ ∃ b, row' = some b ∧ w.heap.size ≤ b) : WAt w' row' u way := by
  obtain ⟨A, n, c, h1, h2, h3, h4⟩ := h
  refine ⟨A, n, c, h1, h2, ⟨h3.1, fun hn => ?_⟩, fun b o e hn => ?_⟩
  · obtain ⟨b, o, e, hb, hc⟩ := h3.2 hn
    exact ⟨b, o, e, Nat.lt_of_lt_of_le hb hg.size, fun j u hu => (World.cell?_of_block (w := w) (hg.block b hb (fun e' => h4 b o e hn e'.symm))).trans (hc j u hu)⟩
  · rcases hr with rfl | ⟨q, rfl, hq⟩
    · exact h4 b o e hn
    · obtain ⟨b', o', e', hb, _⟩ := h3.2 hn
      rw [e] at e'
      injection e' with e'
      injection e' with e' _
      subst e'
      intro e2
      injection e2 with e2
      omega
end Go.Proofs.YtolkpjbbfopmnaaDoor
