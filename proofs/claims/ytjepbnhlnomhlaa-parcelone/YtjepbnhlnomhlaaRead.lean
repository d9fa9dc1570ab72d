/-
  Fields taken one behind the other, as parcel's readers take them: plain mathematics; no condition but those that each fact names.
-/
import Derived.Test.YtjepbnhlnomhlaaVal
namespace Go.Proofs.Ytjepbnhlnomhlaa.Tlv

abbrev Fs := List (UInt8 × List UInt8)
/-- What is left, and the first fault. -/
abbrev St := Fs × Nat
def take (t : UInt8) : Fs → List UInt8 × Fs
  | [] => ([], [])
  | f :: r => if f.1 = t then (f.2, r) else ([], f :: r)
theorem take_here {t : UInt8} {f : UInt8 × List UInt8} {r : Fs} (h : f.1 = t) : take t (f :: r) = (f.2, r) := if_pos h
theorem take_not {t : UInt8} {f : UInt8 × List UInt8} {r : Fs} (h : f.1 ≠ t) : take t (f :: r) = ([], f :: r) := if_neg h
def refuse (bad : Bool) (e : Nat) (s : St) : St := if bad = true ∧ s.2 = 0 then (s.1, e) else s
instance (v : List UInt8) : Decidable (okv v) := inferInstanceAs (Decidable (_ ∧ _))
def numv (v : List UInt8) : Nat := if okv v then val v else 0
def rnum (t : UInt8) (s : St) : Nat × St := (numv (take t s.1).1, refuse (decide (¬ okv (take t s.1).1)) 7 ((take t s.1).2, s.2))
def rtext (t : UInt8) (s : St) : List UInt8 × St := ((take t s.1).1, ((take t s.1).2, s.2))
def zeros : List UInt8 := List.replicate 32 0
def sumv (v : List UInt8) : List UInt8 := if v = [] then zeros else (v ++ zeros).take 32
def rsum (t : UInt8) (s : St) : List UInt8 × St := (sumv (take t s.1).1, refuse (decide ((take t s.1).1 ≠ [] ∧ ((take t s.1).1.length ≠ 32 ∨ sumv (take t s.1).1 = zeros))) 7 ((take t s.1).2, s.2))
def rend (s : St) : Nat := (refuse (decide (s.1 ≠ [])) 8 s).2

structure Pk where
  ch : Nat
  seq : Nat
  tm : Nat
  den : List UInt8
  amt : Nat
  frm : List UInt8
  dst : List UInt8
structure Hd where
  ht : Nat
  tm : Nat
  root : List UInt8
  vals : List UInt8
  next : List UInt8
  sl : List UInt8

def readP (s : St) : Nat × Pk :=
  match rnum 1 s with
  | (n1, s1) => match rnum 2 (refuse (decide (4 ≤ n1)) 2 s1) with
    | (n2, s2) => match rnum 3 s2 with
      | (n3, s3) => match rtext 4 s3 with
        | (t4, s4) => match rnum 5 s4 with
          | (n5, s5) => match rtext 6 s5 with
            | (t6, s6) => match rtext 7 s6 with
              | (t7, s7) => (rend s7, ⟨n1, n2, n3, t4, n5, t6, t7⟩)
def ackBad (a b : Nat) : Bool := decide (1 < a) || decide (2147483648 < b) || (decide (a = 1) != decide (b = 0))
def readA (s : St) : Nat × (Bool × Nat) :=
  match rnum 1 s with
  | (n1, s1) => match rnum 2 s1 with
    | (n2, s2) => (rend (refuse (ackBad n1 n2) 2 s2), (decide (n1 = 1), n2))
def readH (s : St) : Nat × Hd :=
  match rnum 1 s with
  | (n1, s1) => match rnum 2 s1 with
    | (n2, s2) => match rsum 3 s2 with
      | (h3, s3) => match rsum 4 s3 with
        | (h4, s4) => match rsum 5 s4 with
          | (h5, s5) => match rsum 6 s5 with
            | (h6, s6) => (rend s6, ⟨n1, n2, h3, h4, h5, h6⟩)

/-! ## A fault stays -/
theorem refuse_zero {b : Bool} {e : Nat} {s : St} (he : e ≠ 0) (h : (refuse b e s).2 = 0) : b = false ∧ refuse b e s = s := by
  unfold refuse at h ⊢
  split at h
  · exact absurd h he
  · rename_i hn
    refine ⟨?_, if_neg hn⟩
    cases b with
    | false => rfl
    | true => exact absurd ⟨rfl, h⟩ hn
theorem rend_zero {s : St} (h : rend s = 0) : s = ([], 0) := by
  obtain ⟨h1, h2⟩ := refuse_zero (by omega) h
  unfold rend at h
  rw [h2] at h
  obtain ⟨a, b⟩ := s
  simp at h1
  subst h1
  simp at h
  rw [h]

/-! ## Back from bytes: what is read without a fault is what was there -/
/-- The fields all have bytes, and not too many. -/
def full (fs : Fs) : Prop := ∀ f ∈ fs, f.2 ≠ [] ∧ f.2.length ≤ 65535
theorem take_full {t : UInt8} {fs : Fs} (h : full fs) : full (take t fs).2 ∧ (take t fs).1.length ≤ 65535 := by
  cases fs with
  | nil => exact ⟨by intro f hf; simp [take] at hf, by simp [take]⟩
  | cons f r =>
    by_cases e : f.1 = t
    · rw [take_here e]
      exact ⟨fun g hg => h g (by simp [hg]), (h f (by simp)).2⟩
    · rw [take_not e]
      exact ⟨h, by simp⟩
theorem take_put {t : UInt8} {fs : Fs} (acc : List UInt8) (h : full fs) : put acc t (take t fs).1 ++ body (take t fs).2 = acc ++ body fs := by
  cases fs with
  | nil => simp [take, put]
  | cons f r =>
    by_cases e : f.1 = t
    · rw [take_here e]
      subst e
      simp only
      rw [put_some _ _ _ (h f (by simp)).1, body_cons]
      simp
    · rw [take_not e]
      simp only
      rw [put_nil]
theorem okv_back {v : List UInt8} (h : okv v) : numv v = val v ∧ num (numv v) = v ∧ numv v < 18446744073709551616 := by
  have e : numv v = val v := if_pos h
  refine ⟨e, by rw [e]; exact num_val v h.2, ?_⟩
  rw [e]
  have h1 := val_lt v
  have h2 : 256 ^ v.length ≤ 256 ^ 8 := Nat.pow_le_pow_right (by omega) h.1
  rw [show (256 : Nat) ^ 8 = 18446744073709551616 from rfl] at h2
  omega
/-- A number that is read without a fault. -/
theorem rnum_back {t : UInt8} {s : St} {n : Nat} {s' : St} (acc : List UInt8) (h : rnum t s = (n, s')) (hf : full s.1) (h0 : s'.2 = 0) :
    s.2 = 0 ∧ full s'.1 ∧ n < 18446744073709551616 ∧ put acc t (num n) ++ body s'.1 = acc ++ body s.1 := by
  unfold rnum at h
  injection h with h1 h2
  subst h1 h2
  obtain ⟨g1, g2⟩ := refuse_zero (by omega) h0
  rw [g2] at h0 ⊢
  have hok : okv (take t s.1).1 := by simpa using g1
  obtain ⟨_, e2, e3⟩ := okv_back hok
  exact ⟨h0, (take_full hf).1, e3, by rw [e2]; exact take_put acc hf⟩
theorem rtext_back {t : UInt8} {s : St} {v : List UInt8} {s' : St} (acc : List UInt8) (h : rtext t s = (v, s')) (hf : full s.1) (h0 : s'.2 = 0) :
    s.2 = 0 ∧ full s'.1 ∧ v.length ≤ 65535 ∧ put acc t v ++ body s'.1 = acc ++ body s.1 := by
  unfold rtext at h
  injection h with h1 h2
  subst h1 h2
  exact ⟨h0, (take_full hf).1, (take_full hf).2, take_put acc hf⟩
/-- A sum's field: none of noughts. -/
def putSum (b : List UInt8) (t : UInt8) (h : List UInt8) : List UInt8 := if h = zeros then b else put b t h
theorem rsum_back {t : UInt8} {s : St} {v : List UInt8} {s' : St} (acc : List UInt8) (h : rsum t s = (v, s')) (hf : full s.1) (h0 : s'.2 = 0) :
    s.2 = 0 ∧ full s'.1 ∧ putSum acc t v ++ body s'.1 = acc ++ body s.1 := by
  unfold rsum at h
  injection h with h1 h2
  subst h1 h2
  obtain ⟨g1, g2⟩ := refuse_zero (by omega) h0
  rw [g2] at h0 ⊢
  refine ⟨h0, (take_full hf).1, ?_⟩
  have htp := take_put (t := t) acc hf
  have hok := of_decide_eq_false g1
  by_cases hv : (take t s.1).1 = []
  · have : sumv (take t s.1).1 = zeros := if_pos hv
    rw [this]
    rw [hv, put_nil] at htp
    unfold putSum
    rw [if_pos rfl]
    exact htp
  · have hl : (take t s.1).1.length = 32 := Decidable.byContradiction fun e => hok ⟨hv, .inl e⟩
    have hz : sumv (take t s.1).1 ≠ zeros := fun e => hok ⟨hv, .inr e⟩
    have e : sumv (take t s.1).1 = (take t s.1).1 := by
      unfold sumv
      rw [if_neg hv, List.take_left' hl]
    unfold putSum
    rw [if_neg hz, e]
    exact htp
end Go.Proofs.Ytjepbnhlnomhlaa.Tlv
