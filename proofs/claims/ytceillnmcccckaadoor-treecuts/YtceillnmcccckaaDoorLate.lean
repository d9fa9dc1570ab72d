/-
  A law of my own for a region that draws its order: a condition on memory that holds behind every operation but the late ones (a store at the region's end), and what is read under it is taken first, if every late operation waits for it: no condition.
-/
import Derived.Test.YtceillnmcccckaaDoorWay
namespace Go.Proofs.YtceillnmcccckaaDoor
open Go.RowKit

section
variable {P : Program} {ops : Array Oper} {Q : Exit → Act → World → Prop} {md : Region.Mode} {S : World → Prop} {late : Nat → Bool}

/-- Whatever comes up next; S is shown behind it, if it is not late. -/
def wpLate (P : Program) (md : Region.Mode) (ops : Array Oper) (Q : Exit → Act → World → Prop) (S : World → Prop) (late : Nat → Bool) : Nat → Array Bool → Act → World → Prop
  | 0, done, a, w => Region.ready md ops done = [] ∧ Q .normal a w
  | f + 1, done, a, w => (Region.ready md ops done = [] → Q .normal a w) ∧
    ∀ k ∈ Region.ready md ops done, wpOp P ops Q k (fun b u => (late k = false → S u) ∧ wpLate P md ops Q S late f (done.setIfInBounds k true) b u) a w

theorem wpAny_of_late : ∀ (f : Nat) (done : Array Bool) (a : Act) (w : World), wpLate P md ops Q S late f done a w → wpAny P md ops Q f done a w
  | 0, _, _, _, h => h
  | f + 1, _, _, _, h => ⟨h.1, fun k hk => wpOp_mono (fun b u g => wpAny_of_late f _ b u g.2) (h.2 k hk)⟩

/-- Operation j waits for operation i. -/
def waits (md : Region.Mode) (ops : Array Oper) (j i : Nat) : Bool :=
  match ops[j]? with
  | some o => o.after.any fun e => Region.binds md e && e.on == i
  | none => true

theorem wpLate_first {i : Nat} {oi : Oper} {v : Value} (hi : ops[i]? = some oi) (hsel : ∀ (j : Nat) (o : Oper) cs b, ops[j]? = some o → o.op ≠ .select cs b)
    (hQ : ∀ c a w, Q (.panic c) (a.put oi.dst v) w → Q (.panic c) a w) (hl : ∀ j, j < ops.size → late j = true → waits md ops j i = true) :
    ∀ (f : Nat) (done : Array Bool) (a : Act) (w : World),
      (∀ j oj, ops[j]? = some oj → j ≠ i → done.getD j true = false → (∀ e ∈ oj.after, Region.binds md e = true → e.on ≠ i) → oi.apart ops oj = true) →
      i ∈ Region.ready md ops done → YieldsIf P ops S oi v a → S w →
      wpLate P md ops Q S late f (done.setIfInBounds i true) (a.put oi.dst v) w → wpLate P md ops Q S late (f + 1) done a w := by
  intro f
  induction f with
  | zero =>
    intro done a w _ hr hy hS H
    refine ⟨fun h => absurd hr (by rw [h]; simp), fun j hj => ?_⟩
    rcases Nat.decEq j i with hji | hji
    · have := ready_mono hj hji
      rw [H.1] at this
      cases this
    · subst hji
      exact hy.wpOp hi hS ⟨fun _ => hS, H⟩
  | succ f ih =>
    intro done a w hfree hr hy hS H
    refine ⟨fun h => absurd hr (by rw [h]; simp), fun j hj => ?_⟩
    rcases Nat.decEq j i with hji | hji
    · have hrest := H.2 j (ready_mono hj hji)
      obtain ⟨hjun, oj, hoj, hall⟩ := mem_ready.1 hj
      have hnot : ∀ e ∈ oj.after, Region.binds md e = true → e.on ≠ i := fun e he hb heq => by
        have g1 := hall e he hb
        have g0 := (mem_ready.1 hr).1
        rw [heq] at g1
        rcases Nat.lt_or_ge i done.size with hlt | hge
        · simp [hlt] at g0 g1
          rw [g0] at g1
          cases g1
        · simp [Array.getElem?_eq_none hge] at g1
      have hearly : late j = false := by
        cases hlj : late j with
        | false => rfl
        | true =>
          have hw := hl j (Array.getElem?_eq_some_iff.1 hoj).1 hlj
          unfold waits at hw
          rw [hoj] at hw
          obtain ⟨k, hk, he⟩ := Array.any_iff_exists.1 hw
          simp only [Bool.and_eq_true, beq_iff_eq] at he
          exact absurd he.2.2.2 (hnot _ (Array.getElem_mem _) he.2.2.1)
      have hput := wpOp_putIf hoj (hfree j oj hoj hji hjun hnot) (fun cs b => hsel i oi cs b hi) (fun cs b => hsel j oj cs b hoj) hQ hy hrest
      refine wpOp_mono (fun b u g => ⟨fun _ => g.2.1 hearly, ih (done.setIfInBounds j true) b u ?_ (ready_mono hr (Ne.symm hji)) g.1 (g.2.1 hearly) ?_⟩) hput
      · intro k ok hk hki hun hno
        refine hfree k ok hk hki ?_ hno
        rcases Nat.decEq j k with hjk | hjk
        · rwa [getD_set_ne true hjk] at hun
        · subst hjk
          exact hjun
      · rw [Array.setIfInBounds_comm _ _ hji]
        exact g.2.2
    · subst hji
      exact hy.wpOp hi hS ⟨fun _ => hS, H⟩

theorem wpLate_take {i : Nat} {oi : Oper} {v : Value} {f : Nat} {done : Array Bool} {a : Act} {w : World} (hi : ops[i]? = some oi)
    (hs : Region.noSelect ops = true) (hf : Region.free md ops done i = true) (hr : (Region.ready md ops done).contains i = true) (hl : ((List.range ops.size).all fun j => !late j || waits md ops j i) = true)
    (hQ : ∀ c a w, Q (.panic c) (a.put oi.dst v) w → Q (.panic c) a w) (hy : YieldsIf P ops S oi v a) (hS : S w)
    (h : wpLate P md ops Q S late f (done.setIfInBounds i true) (a.put oi.dst v) w) : wpLate P md ops Q S late (f + 1) done a w :=
  wpLate_first hi (Region.noSelect_spec hs) hQ (fun j hj hlj => by
    have := List.all_eq_true.1 hl j (List.mem_range.2 hj)
    rw [hlj] at this
    simpa using this) f done a w (Region.free_spec hi hf) (by simpa using hr) hy hS h

/-- Each of these comes up next. -/
def AllLate (P : Program) (md : Region.Mode) (ops : Array Oper) (Q : Exit → Act → World → Prop) (S : World → Prop) (late : Nat → Bool) (f : Nat) (done : Array Bool) (a : Act) (w : World) (rs : List Nat) : Prop :=
  ∀ k ∈ rs, wpOp P ops Q k (fun b u => (late k = false → S u) ∧ wpLate P md ops Q S late f (done.setIfInBounds k true) b u) a w
theorem AllLate.nil {f : Nat} {done : Array Bool} {a : Act} {w : World} : AllLate P md ops Q S late f done a w [] := fun _ h => by cases h
theorem AllLate.cons {f : Nat} {done : Array Bool} {a : Act} {w : World} {i : Nat} {o : Oper} {rs : List Nat} (ho : ops[i]? = some o)
    (h : ∀ K : Act → World → Prop, Shut (∀ b u, (late i = false → S u) → wpLate P md ops Q S late f (done.setIfInBounds i true) b u → K b u) → if Region.wanted o (yielded ops a.tmps) = true then Oper.wp P o a w K Q else K (a.put o.dst undef) w)
    (hs : AllLate P md ops Q S late f done a w rs) : AllLate P md ops Q S late f done a w (i :: rs) := fun j hj => by
  rcases List.mem_cons.1 hj with rfl | hj
  · exact wpOp_step ho (fun K hK => h K (fun b u hS hW => hK b u ⟨hS, hW⟩))
  · exact hs j hj
theorem wpLate_ready {rs : List Nat} {f : Nat} {done : Array Bool} {a : Act} {w : World} (hr : Region.ready md ops done = rs) (hne : rs ≠ [])
    (h : AllLate P md ops Q S late f done a w rs) : wpLate P md ops Q S late (f + 1) done a w := ⟨fun h0 => absurd (hr ▸ h0) hne, hr ▸ h⟩
theorem wpLate_done {done : Array Bool} {a : Act} {w : World} (hr : Region.ready md ops done = []) (h : Q .normal a w) : ∀ f, wpLate P md ops Q S late f done a w
  | 0 => ⟨hr, h⟩
  | _ + 1 => ⟨fun _ => h, by rw [hr]; simp⟩
theorem wp_region_late {id : Nat} {a : Act} {w : World} (hm : P.follows .mixedOrders = true) (h : wpLate P .any ops Q S late ops.size (Array.replicate ops.size false) a w.drew) : (Code.region id ops true).wp P Q a w :=
  wp_region_any hm (wpAny_of_late _ _ _ _ h)
end
end Go.Proofs.YtceillnmcccckaaDoor
