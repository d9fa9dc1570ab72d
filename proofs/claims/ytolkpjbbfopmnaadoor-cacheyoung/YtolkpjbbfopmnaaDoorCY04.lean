/-
  Numbers as few bytes, and back: plain mathematics; no condition but those that each fact names.
  Nodes as plain data: their bytes, and the node of bytes: plain mathematics; no condition but those that each fact names.
-/
import Derived.Lib.BitFns
import Derived.Test.YtolkpjbbfopmnaaDoorCY03
namespace Go.Proofs.YtolkpjbbfopmnaaDoor.Tl.Tlv

def num (n : Nat) : List UInt8 := if _h : n = 0 then [] else num (n / 256) ++ [UInt8.ofNat n]
  termination_by n
  decreasing_by exact Nat.div_lt_self (by omega) (by omega)
theorem num_zero : num 0 = [] := by rw [num]; simp
theorem num_pos (n : Nat) (h : n ≠ 0) : num n = num (n / 256) ++ [UInt8.ofNat n] := by
  rw [num, dif_neg h]
theorem bits_small (x : Nat) (h : x < 256) (h0 : x ≠ 0) : (Lib.bitLen x + 7) / 8 = 1 := by
  have h1 : ∀ n : Fin 256, n.val ≠ 0 → (Lib.bitLen n.val + 7) / 8 = 1 := by decide +kernel
  exact h1 ⟨x, h⟩ h0
theorem num_bits (x : Nat) (hx : x < 18446744073709551616) : (Lib.bitLen x + 7) / 8 = (num x).length := by
  induction x using Nat.strongRecOn with
  | ind x ih =>
    by_cases h0 : x = 0
    · subst h0
      rw [num_zero]
      decide
    · rw [num_pos x h0, List.length_append, List.length_singleton]
      by_cases h1 : x < 256
      · rw [show x / 256 = 0 by omega, num_zero, bits_small x h1 h0]
        rfl
      · rw [Lib.bitLen_shift8 x (by omega) hx, ← ih (x / 256) (by omega) (by omega)]
        omega
theorem num_len8 (x : Nat) (hx : x < 18446744073709551616) : (num x).length ≤ 8 := by
  rw [← num_bits x hx]
  have := Lib.bitLen_le x 64 (by omega) hx
  omega
theorem num_get (k n : Nat) (h : k < (num n).length) : (num n)[(num n).length - 1 - k]? = some (UInt8.ofNat (n / 256 ^ k)) := by
  induction k generalizing n with
  | zero =>
    have h0 : n ≠ 0 := fun e => by subst e; rw [num_zero] at h; simp at h
    rw [num_pos n h0]
    simp
  | succ k ih =>
    have h0 : n ≠ 0 := fun e => by subst e; rw [num_zero] at h; simp at h
    rw [num_pos n h0] at h ⊢
    simp only [List.length_append, List.length_singleton] at h ⊢
    rw [List.getElem?_append_left (by omega), show (num (n / 256)).length + 1 - 1 - (k + 1) = (num (n / 256)).length - 1 - k by omega, ih (n / 256) (by omega), Nat.div_div_eq_div_mul, Nat.pow_succ, Nat.mul_comm 256]
/-- How it stands behind k rounds: the last k bytes are there. -/
def half (n k : Nat) : List UInt8 := List.replicate ((num n).length - k) 0 ++ (num n).drop ((num n).length - k)
theorem half_zero (n : Nat) : half n 0 = List.replicate (num n).length 0 := by simp [half]
theorem half_all (n : Nat) : half n (num n).length = num n := by simp [half]
theorem half_length (n k : Nat) (h : k ≤ (num n).length) : (half n k).length = (num n).length := by
  rw [half, List.length_append, List.length_replicate, List.length_drop]
  omega
theorem half_set (n k : Nat) (h : k < (num n).length) : (half n k).set ((num n).length - 1 - k) (UInt8.ofNat (n / 256 ^ k)) = half n (k + 1) := by
  apply List.ext_getElem?
  intro i
  have hg := num_get k n h
  rw [List.getElem?_set]
  unfold half
  by_cases hi : (num n).length - 1 - k = i
  · subst hi
    rw [if_pos rfl, if_pos (by simp; omega), List.getElem?_append_right (by simp; omega), List.getElem?_drop, ← hg]
    congr 1
    simp
    omega
  · rw [if_neg hi]
    by_cases h2 : i < (num n).length - (k + 1)
    · rw [List.getElem?_append_left (by simp; omega), List.getElem?_append_left (by simp; omega), List.getElem?_replicate, List.getElem?_replicate, if_pos (by omega), if_pos (by omega)]
    · rw [List.getElem?_append_right (by simp; omega), List.getElem?_append_right (by simp; omega), List.getElem?_drop, List.getElem?_drop]
      congr 1
      simp
      omega
def val (bs : List UInt8) : Nat := bs.foldl (fun a b => a * 256 + b.toNat) 0
theorem val_nil : val [] = 0 := rfl
theorem val_snoc (bs : List UInt8) (b : UInt8) : val (bs ++ [b]) = val bs * 256 + b.toNat := by simp [val]
theorem val_num (n : Nat) : val (num n) = n := by
  induction n using Nat.strongRecOn with
  | ind n ih =>
    by_cases h0 : n = 0
    · subst h0; rw [num_zero, val_nil]
    · rw [num_pos n h0, val_snoc, ih (n / 256) (by omega), UInt8.toNat_ofNat']
      omega
theorem list_snoc_ind {P : List UInt8 → Prop} (h0 : P []) (h1 : ∀ l b, P l → P (l ++ [b])) (l : List UInt8) : P l := by
  have : ∀ l : List UInt8, P l.reverse := by
    intro l
    induction l with
    | nil => exact h0
    | cons b l ih => rw [List.reverse_cons]; exact h1 _ _ ih
  have := this l.reverse
  rwa [List.reverse_reverse] at this
theorem val_lt (bs : List UInt8) : val bs < 256 ^ bs.length := by
  refine list_snoc_ind (P := fun bs => val bs < 256 ^ bs.length) (by simp [val_nil]) (fun l b ih => ?_) bs
  rw [val_snoc, List.length_append, List.length_singleton, Nat.pow_succ]
  have := b.toNat_lt
  omega
theorem head_app (l r : List UInt8) (h : l ≠ []) : (l ++ r).head? = l.head? := by
  cases l with
  | nil => exact absurd rfl h
  | cons a l => rfl
theorem num_head (n : Nat) : (num n).head? ≠ some 0 := by
  induction n using Nat.strongRecOn with
  | ind n ih =>
    by_cases h0 : n = 0
    · subst h0; rw [num_zero]; simp
    · rw [num_pos n h0]
      by_cases h1 : n / 256 = 0
      · rw [h1, num_zero]
        simp only [List.nil_append, List.head?_cons, ne_eq, Option.some.injEq]
        intro e
        have := congrArg UInt8.toNat e
        rw [UInt8.toNat_ofNat'] at this
        simp at this
        omega
      · have hne : num (n / 256) ≠ [] := by rw [num_pos _ h1]; simp
        rw [head_app _ _ hne]
        exact ih _ (by omega)
theorem num_nil (a : Nat) : (num a).length = 0 ↔ a = 0 := by
  constructor
  · intro h
    have := val_num a
    rw [List.eq_nil_of_length_eq_zero h, val_nil] at this
    exact this.symm
  · rintro rfl; rw [num_zero]; rfl
theorem or_byte (a b : Nat) (h : b < 256) : a * 256 ||| b = a * 256 + b := by
  have := Nat.two_pow_add_eq_or_of_lt (i := 8) (b := b) h a
  rw [show 2 ^ 8 = 256 from rfl, Nat.mul_comm] at this
  exact this.symm
end Go.Proofs.YtolkpjbbfopmnaaDoor.Tl.Tlv
namespace Go.Proofs.YtolkpjbbfopmnaaDoor.Tl.Tlv

/-- A node: key, value, height, size, two sums. -/
structure Nd where
  key : List UInt8
  value : List UInt8
  h : Int
  z : Nat
  l : List UInt8
  r : List UInt8
def nought : List UInt8 := List.replicate 32 0
theorem nought_len : nought.length = 32 := by simp [nought]
def Nd.zero : Nd := ⟨[], [], 0, 0, nought, nought⟩
def Nd.one : Nd := ⟨[], [], 0, 1, nought, nought⟩
/-- May it be, beside its key? -/
def Nd.may (n : Nd) : Bool :=
  if n.h < 0 ∨ 64 < n.h then false
  else if 0 < n.h then n.value.length == 0
  else decide (n.value.length ≤ 256) && decide (n.z = 1) && (n.l == nought && n.r == nought)
/-- The fields ahead of an inner node's. -/
def Nd.front (n : Nd) : List UInt8 := put (put [] 1 n.key) 2 n.value
def Nd.mid (n : Nd) : List UInt8 := put n.front 3 (num n.h.toNat)
def Nd.whole (n : Nd) : List UInt8 := put (put (put n.mid 4 (num n.z)) 5 n.l) 6 n.r
def Nd.bytes (n : Nd) : List UInt8 := if 0 < n.h then n.whole else n.mid
/-- An error's number, and the bytes. -/
def enc (n : Nd) : Nat × List UInt8 :=
  if n.key.length < 1 ∨ 96 < n.key.length then (10, [])
  else if n.may = false then (12, []) else (0, n.bytes)
/-- Are they a number's bytes? -/
def okb (v : List UInt8) : Bool := decide (v.length ≤ 8) && !(v.head? == some 0)
/-- What a field says: an error's number, and the node then. -/
def say (n : Nd) (t : UInt8) (v : List UInt8) : Nat × Nd :=
  if t = 1 then (0, { n with key := v })
  else if t = 2 then (0, { n with value := v })
  else if t = 3 then (if okb v = true then (0, { n with h := ((min (val v) 65 : Nat) : Int) }) else (7, n))
  else if t = 4 then (if okb v = true then (0, { n with z := val v }) else (7, n))
  else if t = 5 then (if v.length = 32 then (0, { n with l := v }) else (7, n))
  else if t = 6 then (if v.length = 32 then (0, { n with r := v }) else (7, n))
  else (8, n)
def says (n : Nd) : List (UInt8 × List UInt8) → Nat × Nd
  | [] => (0, n)
  | f :: fs => if (say n f.1 f.2).1 = 0 then says (say n f.1 f.2).2 fs else ((say n f.1 f.2).1, n)
def judge (n : Nd) (b : List UInt8) : Nat × Nd :=
  if (enc n).1 = 0 then (if (enc n).2 = b then (0, n) else (7, Nd.zero)) else ((enc n).1, Nd.zero)
def dec (b : List UInt8) : Nat × Nd :=
  if (parse b).1 = 0 then (if (says Nd.one (parse b).2).1 = 0 then judge (says Nd.one (parse b).2).2 b else ((says Nd.one (parse b).2).1, Nd.zero))
  else ((parse b).1, Nd.zero)

theorem says_go {n : Nd} {f : UInt8 × List UInt8} {fs : List (UInt8 × List UInt8)} (h : (say n f.1 f.2).1 = 0) : says n (f :: fs) = says (say n f.1 f.2).2 fs := by rw [says, if_pos h]
theorem says_stop {n : Nd} {f : UInt8 × List UInt8} {fs : List (UInt8 × List UInt8)} (h : (say n f.1 f.2).1 ≠ 0) : (says n (f :: fs)).1 = (say n f.1 f.2).1 := by rw [says, if_neg h]

/-- Sums have 32 bytes, and the size is one of 64 bits. -/
def Nd.fit (n : Nd) : Prop := n.l.length = 32 ∧ n.r.length = 32 ∧ n.z < 18446744073709551616
theorem fit_zero : Nd.zero.fit := ⟨nought_len, nought_len, by decide⟩
theorem fit_one : Nd.one.fit := ⟨nought_len, nought_len, by decide⟩
theorem val_fit (v : List UInt8) (h : v.length ≤ 8) : val v < 18446744073709551616 := by
  have h1 := val_lt v
  have h2 : 256 ^ v.length ≤ 256 ^ 8 := Nat.pow_le_pow_right (by decide) h
  have h3 : 256 ^ 8 = 18446744073709551616 := by decide
  omega
theorem okb_iff (v : List UInt8) : okb v = true ↔ v.length ≤ 8 ∧ v.head? ≠ some 0 := by simp [okb]
theorem say_fit {n : Nd} (h : n.fit) (t : UInt8) (v : List UInt8) : (say n t v).2.fit := by
  obtain ⟨h1, h2, h3⟩ := h
  unfold say
  repeat' split
  all_goals first | exact ⟨h1, h2, h3⟩ | skip
  · rename_i hk
    exact ⟨h1, h2, val_fit v ((okb_iff v).1 hk).1⟩
  · rename_i hk
    exact ⟨hk, h2, h3⟩
  · rename_i hk
    exact ⟨h1, hk, h3⟩
end Go.Proofs.YtolkpjbbfopmnaaDoor.Tl.Tlv
