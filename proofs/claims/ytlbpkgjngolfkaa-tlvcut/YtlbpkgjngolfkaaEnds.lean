/-
  A map from numbers to bools that the call has made, as a set of numbers: no condition.
-/
import Derived.Test.YtlbpkgjngolfkaaFields
import Derived.Maps.Own
import Derived.Maps.Views
namespace Go.Proofs.Ytlbpkgjngolfkaa
open Go.RowKit Go.Maps

/-- Block b is a map of no more than n entries that has true at just the numbers E. -/
def SetAt (w : World) (b n : Nat) (E : List Int) : Prop :=
  ∃ D : DataW Unit, w.ownsMap Try.prog 3 (plainElem Try.prog 4) b n D ∧ IsMap D ∧ ∀ k : Int, D.atKey (.int .i64 k) (.lit (.bool false)) = .lit (.bool (decide (k ∈ E)))

theorem set_made (w : World) : SetAt (w.alloc (.map #[] 0)) w.heap.size 0 [] :=
  ⟨_, World.ownsMap_made w Try.prog 3 _, ⟨_, rfl⟩, fun k => by rw [WideAt.atKey_none]; rfl; simp⟩
theorem SetAt.lt {w : World} {b n : Nat} {E : List Int} (h : SetAt w b n E) : b < w.heap.size := by
  obtain ⟨D, h, _⟩ := h
  exact h.lt
theorem SetAt.below {w w' : World} {b n : Nat} {E : List Int} (h : SetAt w b n E) (hb : Below w.heap.size w w') : SetAt w' b n E := by
  obtain ⟨D, h1, h2⟩ := h
  exact ⟨D, h1.kept (row := none) ⟨hb.os, hb.tape, hb.output, hb.size, fun i hi _ => hb.block i hi⟩ (by simp), h2⟩
theorem SetAt.put {w : World} {b n : Nat} {E : List Int} (h : SetAt w b n E) (hn : n < 1000000) (x : Int) (h0 : 0 ≤ x) (h1 : x ≤ 1000000) :
    ∃ w', (Instr.mapUpdate 59 (.map (some b)) (.int .i64 x) (.bool true)).run Try.prog w = .ok () w' ∧ SetAt w' b (n + 1) (x :: E) ∧ w.grownBy w' (some b) := by
  obtain ⟨D, ho, hm, hat⟩ := h
  have hwf : (Lit.int .i64 x).wf = true := WalkArith.wf_i64 (by omega)
  obtain ⟨w', hrun, ho', hg⟩ := ho.update (int_keyed Try.underlying3) Try.underlying59 (by unfold maxLen; omega) (keyOf_int_mk Try.underlying3 hwf) (plainElem_bool Try.underlying4 true)
  refine ⟨w', hrun, ⟨_, ho', ?_, fun k => ?_⟩, hg⟩
  · obtain ⟨es, rfl⟩ := hm
    exact ⟨_, rfl⟩
  · by_cases hk : k = x
    · subst hk
      rw [atKey_put_same (k := .int .i64 k) hm (show WideAt.IsKeyLit (.int .i64 k) from trivial)]
      simp
    · rw [atKey_put_other (fun e => hk (by injection e))]
      rw [hat k]
      simp [hk]
theorem plain_bool_inv {v : Value} {x : Bool} {ps : List MemPlace} (h : plainElem (H := Unit) Try.prog 4 v = some (.lit (.bool x), ps)) : v = .bool x := by
  unfold plainElem at h
  rw [Try.underlying4] at h
  cases v <;> simp at h
  rw [h.1]
theorem SetAt.look {w : World} {b n : Nat} {E : List Int} (h : SetAt w b n E) (x : Int) (h0 : 0 ≤ x) (h1 : x ≤ 1000000) :
    (Instr.lookup 59 (.map (some b)) (.int .i64 x) false).run Try.prog w = .ok (.bool (decide (x ∈ E))) w := by
  obtain ⟨D, ho, hm, hat⟩ := h
  have hwf : (Lit.int .i64 x).wf = true := WalkArith.wf_i64 (by omega)
  have hz : (zeroValue 4).run Try.prog w = .ok (.bool false) w := by simp [Try.zeroValue4]
  obtain ⟨v, ps, hrun, hv⟩ := ho.lookup (int_keyed Try.underlying3) Try.underlying59 hz (plainElem_bool Try.underlying4 false) (keyOf_int_mk Try.underlying3 hwf)
  rw [hat x] at hv
  rw [hrun, plain_bool_inv hv]

theorem wpList_set_put {ops : Array Oper} {rest : List Oper} {o : Oper} {a : Act} {w : World} {Q : Exit → Act → World → Prop} (hgd : o.guard = none) (m x v : Operand) (ho : o.op = .insert 59 m x v ∨ o.op = .mapUpdate 59 m x v)
    (b n : Nat) (E : List Int) (hm : a.eval m = .map (some b)) (hs : SetAt w b n E) (hn : n < 1000000) (z : Int) (hx : a.eval x = .int .i64 z) (hv : a.eval v = .bool true) (h0 : 0 ≤ z) (h1 : z ≤ 1000000)
    (h : ∀ w', SetAt w' b (n + 1) (z :: E) → w.grownBy w' (some b) → wpList Try.prog ops Q rest (a.put o.dst undef) w') : wpList Try.prog ops Q (o :: rest) a w := by
  obtain ⟨w', hrun, h2, h3⟩ := hs.put hn z h0 h1
  refine wpList_plain hgd fun K hK => ?_
  rcases ho with ho | ho
  all_goals
    unfold Oper.wp
    simp [execOp, ho, hm, hx, hv, hrun, Result.andThen]
    exact hK _ _ (h w' h2 h3)
end Go.Proofs.Ytlbpkgjngolfkaa
