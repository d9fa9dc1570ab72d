/-
  A range over a function whose iterator keeps memory of its own: the caller's blocks and the iterator's are told apart by a set of blocks.
-/
import Derived.RangeFuncNested
import Derived.RangeFuncBound
import Derived.Test.YtehmkkccnadhoaaDoorPN07
namespace Go.Proofs.YtehmkkccnadhoaaDoor.Fl
open Go.RowKit

theorem Kept.grown {O : Nat → Prop} {a w w' : World} {row : Option Nat} (h : Kept O a w) (hg : w.grownBy w' row) (hr : ∀ k, row = some k → k < a.heap.size → O k) : Kept O a w' :=
  ⟨hg.os.trans h.os, hg.tape.trans h.tape, hg.output.trans h.output, Nat.le_trans h.size hg.size,
    fun k hk hn => (hg.block k (Nat.lt_of_lt_of_le hk h.size) (fun e => hn (hr k e.symm hk))).trans (h.block k hk hn)⟩

abbrev Blocks := Nat → Prop

/-- From W to W' only blocks of O have turned; O' are those of O, and new ones. -/
structure Ext (O O' : Blocks) (W W' : World) : Prop where
  kept : Kept O W W'
  grows : ∀ k, O' k → (O k ∨ W.heap.size ≤ k) ∧ k < W'.heap.size

theorem Ext.refl {O : Blocks} {W : World} (h : ∀ k, O k → k < W.heap.size) : Ext O O W W := ⟨Kept.refl _ _, fun k hk => ⟨Or.inl hk, h k hk⟩⟩
theorem Ext.trans {O O' O'' : Blocks} {a b c : World} (h : Ext O O' a b) (k : Ext O' O'' b c) : Ext O O'' a c :=
  ⟨h.kept.trans k.kept (fun i hi ho => (h.grows i ho).1.resolve_right (by omega)), fun i hi => by
    obtain ⟨h1, h2⟩ := k.grows i hi
    refine ⟨?_, h2⟩
    rcases h1 with h1 | h1
    · exact (h.grows i h1).1
    · exact Or.inr (Nat.le_trans h.kept.size h1)⟩

/-- It speaks of the blocks of its set, and of those below B, alone. -/
def Stable {β : Type} (B : Nat) (I : β → Blocks → World → Prop) : Prop := ∀ s O W W', I s O W → W.heap.size ≤ W'.heap.size → (∀ k, O k ∨ k < B → W'.heap[k]? = W.heap[k]?) → I s O W'

/-- What a round does: it goes on, or says 'no more'. -/
def roundR {α : Type} (J Jx : List α → Blocks → World → Prop) (pre : List α) (O : Blocks) (W : World) (e : Ending) (W' : World) : Prop :=
  ∃ O', Ext O O' W W' ∧ ((e = .returned (.bool true) ∧ J pre O' W') ∨ (e = .returned (.bool false) ∧ Jx pre O' W'))

/-- The iterator's contract. -/
def Iter {α : Type} (B m : Nat) (P : Program) (gf : Nat) (lb : Array Value) (encs : α → Array Value) (ok : List α → Prop) (S : List α → Prop) (O1 : Blocks) (l : Nat) (W1 : World) : Prop :=
  ∀ (J Jx : List α → Blocks → World → Prop), Stable B J → Stable B Jx → (∀ k, O1 k → k < W1.heap.size) →
    (∀ pre x O W2, J pre O W2 → (∀ k, O k → k < W2.heap.size) → ok (pre ++ [x]) → YieldAt Fence.wide (m - 1) P l (encs x) W2 (roundR J Jx (pre ++ [x]) O W2)) →
    J [] O1 W1 →
    CallsIn Fence.wide m P gf (#[.func (.yield l) #[] #[]] ++ lb) W1 fun e W' => (∃ v, e = .returned v) ∧ ∃ O', Ext O1 O' W1 W' ∧ ((∃ xs, S xs ∧ J xs O' W') ∨ (∃ pre, ok pre ∧ Jx pre O' W'))

/-- How the body of a round may be left. -/
def bodyP {α : Type} (I : List α → Blocks → World → Prop) (Ix : Code → List α → Blocks → World → Prop) (xs : List α) (O : Blocks) (W : World) : Exit → Act → World → Prop
  | .normal, _, W' => ∃ O', Ext O O' W W' ∧ I xs O' W'
  | .ret, _, W' => ∃ O', Ext O O' W W' ∧ Ix .ret xs O' W'
  | .exit id, _, W' => ∃ O', Ext O O' W W' ∧ Ix (.exit id) xs O' W'
  | .goto t, _, W' => ∃ O', Ext O O' W W' ∧ Ix (.goto t) xs O' W'
  | .panic _, _, _ => False
  | .outgrown, _, _ => False

theorem range_law {α : Type} {n : Nat} (B : Nat) {P : Program} {g : Operand} {ps : Array Tmp} {assign body : Code} {Q : Exit → Act → World → Prop} {a : Act} {w : World}
    {gf : Nat} {lb : Array Value} (hg : a.eval g = .func (.func gf) #[] lb) (eg : ∀ args w, (callFunc gf args).run P w = .ok (.enter gf args) w)
    {encs : α → Array Value} {ok S : List α → Prop} (hps : ∀ x, (encs x).size = ps.size)
    (hB : B ≤ w.heap.size) (O : Blocks) (hO : ∀ k, O k → k < w.heap.size)
    (hit : ∀ W1, Below w.heap.size w W1 → W1.heap.size = w.heap.size + 2 → Iter B (n - 1) P gf lb encs ok S (fun k => O k ∨ k = w.heap.size ∨ k = w.heap.size + 1) (w.heap.size + 1) W1)
    (I : List α → Blocks → World → Prop) (Ix : Code → List α → Blocks → World → Prop) (hI : Stable B I) (hIx : ∀ c, Stable B (Ix c)) (h0 : I [] O w)
    (hround : ∀ (l : Nat) (pre : List α) (x : α) (O : Blocks) (W : World), I pre O W → (∀ k, O k → k < W.heap.size) → ok (pre ++ [x]) → w.heap.size ≤ W.heap.size → ¬ O l → l < W.heap.size → w.heap.size ≤ l →
      assign.wpIn (Fence.wide.inRound l) (n - 1 - 1) P (Exit.then (fun a' W' => ∃ O', Ext O O' W W' ∧ ∀ W2, W2.heap.size = W'.heap.size → (∀ k, k ≠ l → W2.heap[k]? = W'.heap[k]?) → W2.os = W'.os → W2.tape = W'.tape → W2.output = W'.output →
          body.wpIn (Fence.wide.inRound l) (n - 1 - 1) P (bodyP I Ix (pre ++ [x]) O' W2) a' W2) (fun _ _ _ => False))
        { tmps := (ps.zip (encs x)).foldl (fun t (p, v) => t.setIfInBounds p v) a.tmps, defers := [] } W)
    (hdone : ∀ (xs : List α) (O' : Blocks) (W : World), S xs → I xs O' W → Ext O O' w W → ¬ O' w.heap.size → W.heap[w.heap.size]? = some (.deferred (some [])) →
      Q .normal { a with defers := { target := .collected w.heap.size, args := #[] } :: a.defers } W)
    (hstop : ∀ (c : Code) (pre : List α) (O' : Blocks) (W : World), ok pre → Ix c pre O' W → Ext O O' w W → ¬ O' w.heap.size → W.heap[w.heap.size]? = some (.deferred (some [])) →
      c.wpIn Fence.wide n P Q { a with defers := { target := .collected w.heap.size, args := #[] } :: a.defers } W) :
    (Code.rangeFunc g ps assign body).wpIn Fence.wide n P Q a w := by
  refine wpIn_rangeFunc ?_
  intro fn hfn
  obtain ⟨rec, hrec⟩ : ∃ rec : LoopState → Option Code → Loop, rec = fun st pe => { state := st, pending := pe, fn, tmps := a.tmps, params := ps, assign, body, defers := w.heap.size } := ⟨_, rfl⟩
  obtain ⟨W1, hW1⟩ : ∃ W1, (w.alloc (.deferred (some []))).alloc (.loop (rec .ready none)) = W1 := ⟨_, rfl⟩
  have hL1 : W1.heap[w.heap.size + 1]? = some (.loop (rec .ready none)) := by
    rw [← hW1]; have := World.alloc_heap_new (w.alloc (.deferred (some []))) (.loop (rec .ready none)); rwa [World.size_alloc] at this
  have hK1 : W1.heap[w.heap.size]? = some (.deferred (some [])) := by
    rw [← hW1]; exact (Below.heap_alloc _ _ _ (by simp)).trans (World.alloc_heap_new w _)
  have hs1 : W1.heap.size = w.heap.size + 2 := by rw [← hW1]; simp
  have hb1 : Below w.heap.size w W1 := by
    rw [← hW1]; exact ((Below.refl _ w).alloc (Nat.le_refl _) _).alloc (by simp) _
  have hI1 : I [] O W1 := hI _ _ _ _ h0 (by omega) (fun k hk => hb1.block k (by rcases hk with hk | hk; exact hO k hk; omega))
  have hE1 : Kept noBlock w W1 := Kept.of_below' hb1
  refine ⟨w.heap.size + 1, [{ target := .collected w.heap.size, args := #[] }], W1, { target := .fn (.func gf) lb, args := #[.func (.yield (w.heap.size + 1)) #[] #[]] }, W1, gf,
    #[.func (.yield (w.heap.size + 1)) #[] #[]] ++ lb, W1, ?_, ?_, ?_, ?_, fun h => by simp [Fence.wide] at h, ?_⟩
  · rw [← hW1, hrec]; exact run_enterLoop_outer _ _ _ _ _
  · simp only [resolve, hg]
    simp [go_sem]
  · intro f' _; trivial
  · simp [invoke, go_sem, eg]
  · generalize hD : w.heap.size = D at *
    refine (hit W1 hb1 hs1
      (fun pre O1 W => ∃ O, (∀ k, O1 k ↔ O k ∨ k = D ∨ k = D + 1) ∧ ¬ O D ∧ ¬ O (D + 1) ∧ I pre O W ∧ W.heap[D + 1]? = some (.loop (rec .ready none)) ∧ W.heap[D]? = some (.deferred (some [])))
      (fun pre O1 W => ∃ O c, (∀ k, O1 k ↔ O k ∨ k = D ∨ k = D + 1) ∧ ¬ O D ∧ ¬ O (D + 1) ∧ Ix c pre O W ∧ W.heap[D + 1]? = some (.loop (rec .done (some c))) ∧ W.heap[D]? = some (.deferred (some [])))
      ?_ ?_ ?_ ?_ ⟨O, fun _ => Iff.rfl, fun h => by have := hO _ h; omega, fun h => by have := hO _ h; omega, hI1, hL1, hK1⟩).mono ?_
    · rintro s O1 A B ⟨O, hiff, n1, n2, hi, hl, hk⟩ hsz hbl
      exact ⟨O, hiff, n1, n2, hI _ _ _ _ hi hsz (fun k hk' => hbl k (by rcases hk' with h | h; exact .inl ((hiff k).2 (.inl h)); exact .inr h)), (hbl _ (.inl ((hiff _).2 (.inr (.inr rfl))))).trans hl, (hbl _ (.inl ((hiff _).2 (.inr (.inl rfl))))).trans hk⟩
    · rintro s O1 A B ⟨O, c, hiff, n1, n2, hi, hl, hk⟩ hsz hbl
      exact ⟨O, c, hiff, n1, n2, hIx c _ _ _ _ hi hsz (fun k hk' => hbl k (by rcases hk' with h | h; exact .inl ((hiff k).2 (.inl h)); exact .inr h)), (hbl _ (.inl ((hiff _).2 (.inr (.inr rfl))))).trans hl, (hbl _ (.inl ((hiff _).2 (.inr (.inl rfl))))).trans hk⟩
    · rintro k (hk | hk | hk)
      · have := hO k hk; omega
      · omega
      · omega
    · -- one round
      rintro pre x O1 W ⟨O, hiff, n1, n2, hi, hl, hk⟩ hlt1 hok
      have hlW : D + 1 < W.heap.size := (Array.getElem?_eq_some_iff.1 hl).1
      have hOW : ∀ k, O k → k < W.heap.size := fun k hk' => hlt1 k ((hiff k).2 (.inl hk'))
      have hy := run_yield (P := P) (args := encs x) hl (by rw [hrec]; exact hps x)
      rw [hrec] at hy
      refine ⟨fn, _, assign, body, hy, roundIn_of_wpIn hfn (wpIn_mono (hround (D + 1) pre x O W hi hOW hok (by omega) n2 hlW (by omega)) ?_)⟩
      clear hy
      rintro e a' Wa hp
      cases e with
      | normal =>
        obtain ⟨O', hE1', hbody⟩ := hp
        have hla : Wa.heap[D + 1]? = some (.loop (rec .ready none)) := (hE1'.kept.block _ hlW n2).trans hl
        have hka : Wa.heap[D]? = some (.deferred (some [])) := (hE1'.kept.block _ (by omega) n1).trans hk
        refine ⟨_, run_beginRound hla (by rw [hrec]), ?_⟩
        have hla2 : D + 1 < Wa.heap.size := Nat.lt_of_lt_of_le hlW hE1'.kept.size
        have hl2 : (Wa.putObj (D + 1) (.loop { rec .ready none with state := .busy })).heap[D + 1]? = some (.loop { rec .ready none with state := .busy }) := World.putObj_heap_same hla2
        have hk2 : (Wa.putObj (D + 1) (.loop { rec .ready none with state := .busy })).heap[D]? = some (.deferred (some [])) := (World.putObj_heap_other (by omega)).trans hka
        have hz2 : (Wa.putObj (D + 1) (.loop { rec .ready none with state := .busy })).heap.size = Wa.heap.size := World.putObj_size
        have m1 : ¬ O' D := fun h => by rcases (hE1'.grows D h).1 with h | h; exact n1 h; omega
        have m2 : ¬ O' (D + 1) := fun h => by rcases (hE1'.grows (D + 1) h).1 with h | h; exact n2 h; omega
        have fin : ∀ (jump : Option Code) (O'' : Blocks) (W3 : World), Ext O' O'' (Wa.putObj (D + 1) (.loop { rec .ready none with state := .busy })) W3 →
            (Instr.endRound (D + 1) jump).run P W3 = .ok (.bool jump.isNone) (W3.putObj (D + 1) (.loop (rec (if jump.isNone then .ready else .done) jump))) ∧
            ¬ O'' D ∧ ¬ O'' (D + 1) ∧
            Ext O1 (fun k => O'' k ∨ k = D ∨ k = D + 1) W (W3.putObj (D + 1) (.loop (rec (if jump.isNone then .ready else .done) jump))) ∧
            (W3.putObj (D + 1) (.loop (rec (if jump.isNone then .ready else .done) jump))).heap[D + 1]? = some (.loop (rec (if jump.isNone then .ready else .done) jump)) ∧
            (W3.putObj (D + 1) (.loop (rec (if jump.isNone then .ready else .done) jump))).heap[D]? = some (.deferred (some [])) := fun jump O'' W3 hE2 => by
          have hl3 := (hE2.kept.block _ (by rw [hz2]; exact hla2) m2).trans hl2
          have hk3 := (hE2.kept.block _ (by rw [hz2]; omega) m1).trans hk2
          have q1 : ¬ O'' D := fun h => by rcases (hE2.grows D h).1 with h | h; exact m1 h; rw [hz2] at h; omega
          have q2 : ¬ O'' (D + 1) := fun h => by rcases (hE2.grows (D + 1) h).1 with h | h; exact m2 h; rw [hz2] at h; omega
          have hr := run_endRound (P := P) jump hl3
          have hz3 := hE2.kept.size
          rw [hz2] at hz3
          refine ⟨by rw [hrec] at hr ⊢; exact hr, q1, q2, ⟨?_, ?_⟩, World.putObj_heap_same (by omega), (World.putObj_heap_other (by omega)).trans hk3⟩
          · refine Kept.putObj (Kept.trans (Kept.putObj (hE1'.kept.mono (fun i _ h => (hiff i).2 (.inl h))) (fun _ => (hiff _).2 (.inr (.inr rfl))) _) hE2.kept ?_) (fun _ => (hiff _).2 (.inr (.inr rfl))) _
            intro i hi' ho
            rcases (hE1'.grows i ho).1 with h | h
            · exact (hiff i).2 (.inl h)
            · omega
          · rintro k (h | h | h)
            · obtain ⟨h1, h2⟩ := hE2.grows k h
              refine ⟨?_, by simpa using h2⟩
              rcases h1 with h1 | h1
              · rcases (hE1'.grows k h1).1 with h3 | h3
                · exact .inl ((hiff k).2 (.inl h3))
                · exact .inr h3
              · rw [hz2] at h1; have := hE1'.kept.size; exact .inr (by omega)
            · subst h; exact ⟨.inl ((hiff _).2 (.inr (.inl rfl))), by simp; omega⟩
            · subst h; exact ⟨.inl ((hiff _).2 (.inr (.inr rfl))), by simp; omega⟩
        have turn : ∀ (K : List α → Blocks → World → Prop) (O'' : Blocks) (W3 : World) (o : Obj), Stable B K → ¬ O'' (D + 1) → K (pre ++ [x]) O'' W3 → K (pre ++ [x]) O'' (W3.putObj (D + 1) o) := fun K O'' W3 o hK hn h =>
          hK _ _ _ _ h (by simp) (fun k hk' => World.putObj_heap_other (fun e => by subst e; rcases hk' with h' | h'; exact hn h'; omega))
        refine wpIn_mono (hbody (Wa.putObj (D + 1) (.loop { rec .ready none with state := .busy })) World.putObj_size (fun k hk' => World.putObj_heap_other hk') rfl rfl rfl) ?_
        rintro e a3 W3 hp
        cases e with
        | normal =>
          obtain ⟨O'', hE2, hi3⟩ := hp
          obtain ⟨hr, q1, q2, hE4, hl4, hk4⟩ := fin none O'' W3 hE2
          exact ⟨_, _, hr, _, hE4, .inl ⟨rfl, O'', fun _ => Iff.rfl, q1, q2, turn I _ _ _ hI q2 hi3, hl4, hk4⟩⟩
        | ret =>
          obtain ⟨O'', hE2, hi3⟩ := hp
          obtain ⟨hr, q1, q2, hE4, hl4, hk4⟩ := fin (some .ret) O'' W3 hE2
          exact ⟨_, _, hr, _, hE4, .inr ⟨rfl, O'', .ret, fun _ => Iff.rfl, q1, q2, turn _ _ _ _ (hIx _) q2 hi3, hl4, hk4⟩⟩
        | exit id =>
          obtain ⟨O'', hE2, hi3⟩ := hp
          obtain ⟨hr, q1, q2, hE4, hl4, hk4⟩ := fin (some (.exit id)) O'' W3 hE2
          exact ⟨_, _, hr, _, hE4, .inr ⟨rfl, O'', .exit id, fun _ => Iff.rfl, q1, q2, turn _ _ _ _ (hIx _) q2 hi3, hl4, hk4⟩⟩
        | goto t =>
          obtain ⟨O'', hE2, hi3⟩ := hp
          obtain ⟨hr, q1, q2, hE4, hl4, hk4⟩ := fin (some (.goto t)) O'' W3 hE2
          exact ⟨_, _, hr, _, hE4, .inr ⟨rfl, O'', .goto t, fun _ => Iff.rfl, q1, q2, turn _ _ _ _ (hIx _) q2 hi3, hl4, hk4⟩⟩
        | panic ch => exact hp.elim
        | outgrown => exact hp.elim
      | exit id => exact hp.elim
      | goto t => exact hp.elim
      | ret => exact hp.elim
      | panic ch => exact hp.elim
      | outgrown => exact hp.elim
    · -- behind the iterator
      rintro e W2 ⟨⟨v, rfl⟩, O1', hE, hend⟩
      have ext : ∀ (O2 : Blocks) (o : Obj), (∀ k, O1' k ↔ O2 k ∨ k = D ∨ k = D + 1) → Ext O O2 w (W2.putObj (D + 1) o) := fun O2 o hiff => by
        refine ⟨Kept.putObj (Kept.trans (hE1.mono (fun i _ h => h.elim)) hE.kept ?_) (fun h => by omega) _, ?_⟩
        · rintro i hi' (h | h | h)
          · exact h
          · omega
          · omega
        · intro k hk'
          obtain ⟨h1, h2⟩ := hE.grows k ((hiff k).2 (.inl hk'))
          refine ⟨?_, by simpa using h2⟩
          rcases h1 with (h1 | h1 | h1) | h1
          · exact .inl h1
          · exact .inr (by omega)
          · exact .inr (by omega)
          · exact .inr (by omega)
      rcases hend with ⟨xs, hS, O2, hiff, n1, n2, hi, hl, hk⟩ | ⟨pre, hSp, O2, c, hiff, n1, n2, hi, hl, hk⟩
      · refine ⟨none, _, by have := run_endLoop (P := P) hl (by rw [hrec]; simp); rw [hrec] at this; exact this, ?_⟩
        exact hdone xs O2 _ hS (hI _ _ _ _ hi (by simp) (fun k hk' => World.putObj_heap_other (fun e => by subst e; rcases hk' with h' | h'; exact n2 h'; omega))) (ext O2 _ hiff) n1 ((World.putObj_heap_other (by omega)).trans hk)
      · refine ⟨some c, _, by have := run_endLoop (P := P) hl (by rw [hrec]; simp); rw [hrec] at this; exact this, ?_⟩
        exact hstop c pre O2 _ hSp (hIx c _ _ _ _ hi (by simp) (fun k hk' => World.putObj_heap_other (fun e => by subst e; rcases hk' with h' | h'; exact n2 h'; omega))) (ext O2 _ hiff) n1 ((World.putObj_heap_other (by omega)).trans hk)
end Go.Proofs.YtehmkkccnadhoaaDoor.Fl
