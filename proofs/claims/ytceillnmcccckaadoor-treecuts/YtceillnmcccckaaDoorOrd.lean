/-
  The order of byte strings, as the model compares strings and as bytes.Compare does: plain mathematics, no condition.
-/
import Derived.Lib.Bytealg
namespace Go.Proofs.YtceillnmcccckaaDoor
namespace Tr

/-- a stands ahead of b. -/
def lt (a b : List UInt8) : Bool := Go.Op.bytesLess a b

theorem lt_cons (a b : UInt8) (x y : List UInt8) : lt (a :: x) (b :: y) = (decide (a < b) || (a == b && lt x y)) := rfl
theorem lt_nil (a : List UInt8) : lt a [] = false := by cases a <;> rfl
theorem nil_lt (b : UInt8) (y : List UInt8) : lt [] (b :: y) = true := rfl

theorem lt_irrefl : ∀ a, lt a a = false
  | [] => rfl
  | a :: x => by
    rw [lt_cons, lt_irrefl x]
    simp
theorem lt_trans : ∀ a b c, lt a b = true → lt b c = true → lt a c = true
  | _, [], _, h, _ => by rw [lt_nil] at h; cases h
  | _, _ :: _, [], _, h => by rw [lt_nil] at h; cases h
  | [], _ :: _, _ :: _, _, _ => rfl
  | a :: x, b :: y, c :: z, h1, h2 => by
    rw [lt_cons] at h1 h2 ⊢
    simp only [Bool.or_eq_true, decide_eq_true_eq, Bool.and_eq_true, beq_iff_eq] at h1 h2 ⊢
    rcases h1 with h1 | ⟨rfl, h1⟩
    · rcases h2 with h2 | ⟨rfl, h2⟩
      · exact .inl (UInt8.lt_trans h1 h2)
      · exact .inl h1
    · rcases h2 with h2 | ⟨rfl, h2⟩
      · exact .inl h2
      · exact .inr ⟨rfl, lt_trans x y z h1 h2⟩
theorem lt_asymm {a b : List UInt8} (h : lt a b = true) : lt b a = false := by
  cases h2 : lt b a with
  | false => rfl
  | true => have := lt_trans a b a h h2; rw [lt_irrefl] at this; cases this
theorem lt_tri : ∀ a b, lt a b = false → lt b a = false → a = b
  | [], [], _, _ => rfl
  | [], _ :: _, h, _ => by cases h
  | _ :: _, [], _, h => by cases h
  | a :: x, b :: y, h1, h2 => by
    rw [lt_cons] at h1 h2
    simp only [Bool.or_eq_false_iff, decide_eq_false_iff_not, Bool.and_eq_false_iff, beq_eq_false_iff_ne] at h1 h2
    have hab : a = b := UInt8.le_antisymm (UInt8.not_lt.1 h2.1) (UInt8.not_lt.1 h1.1)
    subst hab
    rw [lt_tri x y (by rcases h1.2 with h | h; exact absurd rfl h; exact h) (by rcases h2.2 with h | h; exact absurd rfl h; exact h)]
theorem lt_ne {a b : List UInt8} (h : lt a b = true) : a ≠ b := by
  rintro rfl
  rw [lt_irrefl] at h; cases h
/-- Not ahead of: behind, or the same. -/
theorem lt_of_not {a b : List UInt8} (h : lt a b = false) (hne : a ≠ b) : lt b a = true := by
  cases h2 : lt b a with
  | true => rfl
  | false => exact absurd (lt_tri a b h h2) hne
theorem le_lt_trans {a b c : List UInt8} (h1 : lt b a = false) (h2 : lt b c = true) : lt a c = true := by
  by_cases h : a = b
  · subst h; exact h2
  · exact lt_trans a b c (lt_of_not h1 (fun e => h e.symm)) h2
theorem lt_le_trans {a b c : List UInt8} (h1 : lt a b = true) (h2 : lt c b = false) : lt a c = true := by
  by_cases h : c = b
  · subst h; exact h1
  · exact lt_trans a b c h1 (lt_of_not h2 h)

theorem cmp_self : ∀ a, Lib.compareBytes a a = 0
  | [] => rfl
  | a :: x => by
    unfold Lib.compareBytes
    rw [if_neg (UInt8.lt_irrefl a), if_neg (UInt8.lt_irrefl a)]
    exact cmp_self x
theorem cmp_lt : ∀ a b, lt a b = true → Lib.compareBytes a b = -1
  | _, [], h => by rw [lt_nil] at h; cases h
  | [], _ :: _, _ => rfl
  | a :: x, b :: y, h => by
    rw [lt_cons] at h
    simp only [Bool.or_eq_true, decide_eq_true_eq, Bool.and_eq_true, beq_iff_eq] at h
    unfold Lib.compareBytes
    rcases h with h | ⟨rfl, h⟩
    · rw [if_pos h]
    · rw [if_neg (UInt8.lt_irrefl a), if_neg (UInt8.lt_irrefl a)]
      exact cmp_lt x y h
theorem cmp_gt : ∀ a b, lt b a = true → Lib.compareBytes a b = 1
  | [], _, h => by rw [lt_nil] at h; cases h
  | _ :: _, [], _ => rfl
  | a :: x, b :: y, h => by
    rw [lt_cons] at h
    simp only [Bool.or_eq_true, decide_eq_true_eq, Bool.and_eq_true, beq_iff_eq] at h
    unfold Lib.compareBytes
    rcases h with h | ⟨rfl, h⟩
    · rw [if_neg (fun h2 => UInt8.lt_irrefl a (UInt8.lt_trans h2 h)), if_pos h]
    · rw [if_neg (UInt8.lt_irrefl b), if_neg (UInt8.lt_irrefl b)]
      exact cmp_gt x y h
theorem cmp_ge (a b : List UInt8) (h : lt a b = false) : 0 ≤ Lib.compareBytes a b := by
  by_cases e : a = b
  · subst e; rw [cmp_self]; omega
  · rw [cmp_gt a b (lt_of_not h e)]; omega
/-- What isRight answers. -/
theorem cmp_dec (a b : List UInt8) : decide (0 ≤ Lib.compareBytes a b) = !lt a b := by
  cases h : lt a b with
  | true => rw [cmp_lt a b h]; decide
  | false => have := cmp_ge a b h; simp [this]
end Tr
end Go.Proofs.YtceillnmcccckaaDoor
