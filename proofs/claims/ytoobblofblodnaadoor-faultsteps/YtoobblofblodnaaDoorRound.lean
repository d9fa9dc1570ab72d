/-
  The gate and inner, of any error that the laws make.
-/
import Derived.Test.YtoobblofblodnaaDoorBack
import Derived.Test.YtoobblofblodnaaDoorInner
namespace Go.Proofs.YtoobblofblodnaaDoor
open Go.RowKit Go.Shelf

/-- What it wraps. -/
def Err.wraps : Err → Option Err
  | .num _ => none
  | .text _ => none
  | .step _ _ _ e => some e
  | .other e => some e
/-- The Step that it is. -/
def Err.own : Err → List Nat
  | .step b _ _ _ => [b]
  | _ => []
/-- Is it another's wrapping? -/
def Err.foreign : Err → Nat
  | .other _ => 1
  | _ => 0

/-- The gate's memory. -/
def GateSt (W : World) (Mb M Fb : Nat) (met : List Nat) (k : Nat) : Prop :=
  ∃ es clock, W.heap[Mb]? = some (.cells #[.map (some M)] 110 (0, 0)) ∧ W.heap[M]? = some (.map es clock) ∧ W.heap[Fb]? = some (.cells #[.int .i64 k] 3 (0, 0)) ∧
    es.toList.map (·.key) = met.map (fun b => Value.pointer (some ⟨b, 0, none⟩))

def gateO (M Fb : Nat) : Blocks := fun i => i = M ∨ i = Fb

theorem GateSt.kept {O : Blocks} {W W' : World} {Mb M Fb : Nat} {met : List Nat} {k : Nat} (h : GateSt W Mb M Fb met k) (hk : Kept O W W') (h1 : ¬ O Mb) (h2 : ¬ O M) (h3 : ¬ O Fb) : GateSt W' Mb M Fb met k := by
  obtain ⟨es, clock, hMb, hM, hF, hk'⟩ := h
  exact ⟨es, clock, (hk.block _ (lt_of_block hMb) h1).trans hMb, (hk.block _ (lt_of_block hM) h2).trans hM, (hk.block _ (lt_of_block hF) h3).trans hF, hk'⟩

theorem block_setCell {w : World} {b : Nat} {v u : Value} {t : TypeId} (h : w.heap[b]? = some (.cells #[v] t (0, 0))) : (w.setCell ⟨b, 0, none⟩ u).heap[b]? = some (.cells #[u] t (0, 0)) := by
  obtain ⟨hlt, hk⟩ := Array.getElem?_eq_some_iff.1 h
  show (w.heap.modify b _)[b]? = _
  rw [Array.getElem?_eq_getElem (by rw [Array.size_modify]; exact hlt), Array.getElem_modify_self, hk]
  rfl
theorem frozen_of_block {w : World} {b i : Nat} {c : Array Value} {t : TypeId} (h : w.heap[b]? = some (.cells c t (0, 0))) : w.frozen? ⟨b, i, none⟩ = false := by
  simp [World.frozen?, h]

theorem gate_any (e : Err) (Mb M Fb : Nat) (met : List Nat) (k : Nat) (w : World) (hs : GateSt w Mb M Fb met k) (hk : k < 1000) (hne : Mb ≠ M ∧ Mb ≠ Fb ∧ M ≠ Fb) (he : e.In w) (hmet : ∀ b ∈ met, e.top ≤ b ∧ ∃ c t, w.heap[b]? = some (.cells c t (0, 0))) :
    Calls Tryd.prog 45 #[e.val, .pointer (some ⟨Mb, 0, none⟩), .pointer (some ⟨Fb, 0, none⟩)] w fun ev w' => ev = .returned (.bool true) ∧ Kept (gateO M Fb) w w' ∧ GateSt w' Mb M Fb (met ++ e.own) (k + e.foreign) := by
  cases e with
  | num n =>
    refine (gate_24 _ _ _ w).mono ?_
    rintro ev w' ⟨rfl, rfl⟩
    exact ⟨rfl, Kept.refl _ _, by simpa [Err.own, Err.foreign] using hs⟩
  | text b =>
    refine (gate_94 _ _ _ w).mono ?_
    rintro ev w' ⟨rfl, rfl⟩
    exact ⟨rfl, Kept.refl _ _, by simpa [Err.own, Err.foreign] using hs⟩
  | step b s n e =>
    obtain ⟨es, clock, hMb, hM, hF, hkeys⟩ := hs
    obtain ⟨hb, _, _⟩ := he
    refine (gate_step b Mb M Fb _ _ es clock met w (cell_of_block hMb 0) hM hb ⟨hkeys, fun x hx => (hmet x hx).2⟩ (fun hx => by have := (hmet b hx).1; simp only [Err.top] at this; omega)).mono ?_
    rintro ev w' ⟨rfl, rfl⟩
    refine ⟨rfl, ((Kept.refl _ w).alloc _).putObj (fun _ => Or.inl rfl) _, es.push { key := .pointer (some ⟨b, 0, none⟩), val := .agg #[], born := clock }, clock + 1, ?_, ?_, ?_, ?_⟩
    · exact (World.putObj_heap_other hne.1).trans ((Below.heap_alloc w _ _ (lt_of_block hMb)).trans hMb)
    · exact World.putObj_heap_same (by have := lt_of_block hM; simp; omega)
    · exact (World.putObj_heap_other (Ne.symm hne.2.2)).trans ((Below.heap_alloc w _ _ (lt_of_block hF)).trans hF)
    · simp [Err.own, hkeys]
  | other e =>
    obtain ⟨es, clock, hMb, hM, hF, hkeys⟩ := hs
    refine (gate_other _ _ Fb k hk w (cell_of_block hF 0) (frozen_of_block hF)).mono ?_
    rintro ev w' ⟨rfl, rfl⟩
    refine ⟨rfl, (Kept.refl _ w).setCell (fun _ => Or.inr rfl) _, es, clock, ?_, ?_, ?_, by simpa [Err.own] using hkeys⟩
    · exact (Below.heap_setCell w _ _ _ hne.2.1).trans hMb
    · exact (Below.heap_setCell w _ _ _ hne.2.2).trans hM
    · rw [block_setCell hF]; simp [Err.foreign]

/-- What inner answers. -/
def InnerR (e : Err) (w : World) (ev : Ending) (w' : World) : Prop := Below w.heap.size w w' ∧ ∃ r, ev = .returned r ∧ match e.wraps with
  | none => r = .slice none 0 0
  | some x => ∃ A, r = .slice (some ⟨A, 0, none⟩) 1 1 ∧ w.heap.size ≤ A ∧ A < w'.heap.size ∧ w'.cell? ⟨A, 0, none⟩ = some x.val

theorem inner_any (e : Err) (w : World) (he : e.In w) : Calls Tryd.prog 39 #[e.val] w (InnerR e w) := by
  cases e with
  | num n =>
    refine (inner_24 _ w).mono ?_
    rintro ev w' ⟨rfl, hb⟩
    exact ⟨hb, _, rfl, rfl⟩
  | text b =>
    refine (inner_94 _ w).mono ?_
    rintro ev w' ⟨rfl, hb⟩
    exact ⟨hb, _, rfl, rfl⟩
  | step b s n e =>
    obtain ⟨t, v, hv⟩ := e.val_iface
    refine (inner_step b t v w (by rw [cell_of_block he.1, hv]; rfl)).mono ?_
    rintro ev w' ⟨A, rfl, h1, h2, h3, hb⟩
    exact ⟨hb, _, rfl, A, rfl, h1, h2, by rw [h3, hv]⟩
  | other e =>
    obtain ⟨t, v, hv⟩ := e.val_iface
    have h := inner_other t v w
    rw [← hv] at h
    refine h.mono ?_
    rintro ev w' ⟨A, rfl, h1, h2, h3, hb⟩
    exact ⟨hb, _, rfl, A, rfl, h1, h2, h3⟩
end Go.Proofs.YtoobblofblodnaaDoor
