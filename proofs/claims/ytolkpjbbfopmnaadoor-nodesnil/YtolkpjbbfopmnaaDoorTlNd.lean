/-
  Nodes as plain data: their bytes, and the node of bytes: plain mathematics; no condition but those that each fact names.
-/
import Derived.Test.YtolkpjbbfopmnaaDoorTlNums
import Derived.Test.YtolkpjbbfopmnaaDoorTlPure
namespace Go.Proofs.YtolkpjbbfopmnaaDoor.Tl.Tlv

/-- A node: key, value, height, size, two sums. -/
structure Nd where
  key : List UInt8
  value : List UInt8
  h : Int
  z : Nat
  l : List UInt8
  r : List UInt8
def nought : List UInt8 := List.replicate 32 0
theorem nought_len : nought.length = 32 := by simp [nought]
def Nd.zero : Nd := ⟨[], [], 0, 0, nought, nought⟩
def Nd.one : Nd := ⟨[], [], 0, 1, nought, nought⟩
/-- May it be, beside its key? -/
def Nd.may (n : Nd) : Bool :=
  if n.h < 0 ∨ 64 < n.h then false
  else if 0 < n.h then n.value.length == 0
  else decide (n.value.length ≤ 256) && decide (n.z = 1) && (n.l == nought && n.r == nought)
/-- The fields ahead of an inner node's. -/
def Nd.front (n : Nd) : List UInt8 := put (put [] 1 n.key) 2 n.value
def Nd.mid (n : Nd) : List UInt8 := put n.front 3 (num n.h.toNat)
def Nd.whole (n : Nd) : List UInt8 := put (put (put n.mid 4 (num n.z)) 5 n.l) 6 n.r
def Nd.bytes (n : Nd) : List UInt8 := if 0 < n.h then n.whole else n.mid
/-- An error's number, and the bytes. -/
def enc (n : Nd) : Nat × List UInt8 :=
  if n.key.length < 1 ∨ 96 < n.key.length then (10, [])
  else if n.may = false then (12, []) else (0, n.bytes)
/-- Are they a number's bytes? -/
def okb (v : List UInt8) : Bool := decide (v.length ≤ 8) && !(v.head? == some 0)
/-- What a field says: an error's number, and the node then. -/
def say (n : Nd) (t : UInt8) (v : List UInt8) : Nat × Nd :=
  if t = 1 then (0, { n with key := v })
  else if t = 2 then (0, { n with value := v })
  else if t = 3 then (if okb v = true then (0, { n with h := ((min (val v) 65 : Nat) : Int) }) else (7, n))
  else if t = 4 then (if okb v = true then (0, { n with z := val v }) else (7, n))
  else if t = 5 then (if v.length = 32 then (0, { n with l := v }) else (7, n))
  else if t = 6 then (if v.length = 32 then (0, { n with r := v }) else (7, n))
  else (8, n)
def says (n : Nd) : List (UInt8 × List UInt8) → Nat × Nd
  | [] => (0, n)
  | f :: fs => if (say n f.1 f.2).1 = 0 then says (say n f.1 f.2).2 fs else ((say n f.1 f.2).1, n)
def judge (n : Nd) (b : List UInt8) : Nat × Nd :=
  if (enc n).1 = 0 then (if (enc n).2 = b then (0, n) else (7, Nd.zero)) else ((enc n).1, Nd.zero)
def dec (b : List UInt8) : Nat × Nd :=
  if (parse b).1 = 0 then (if (says Nd.one (parse b).2).1 = 0 then judge (says Nd.one (parse b).2).2 b else ((says Nd.one (parse b).2).1, Nd.zero))
  else ((parse b).1, Nd.zero)

theorem says_nil (n : Nd) : says n [] = (0, n) := rfl
theorem says_go {n : Nd} {f : UInt8 × List UInt8} {fs : List (UInt8 × List UInt8)} (h : (say n f.1 f.2).1 = 0) : says n (f :: fs) = says (say n f.1 f.2).2 fs := by rw [says, if_pos h]
theorem says_stop {n : Nd} {f : UInt8 × List UInt8} {fs : List (UInt8 × List UInt8)} (h : (say n f.1 f.2).1 ≠ 0) : (says n (f :: fs)).1 = (say n f.1 f.2).1 := by rw [says, if_neg h]

/-- Sums have 32 bytes, and the size is one of 64 bits. -/
def Nd.fit (n : Nd) : Prop := n.l.length = 32 ∧ n.r.length = 32 ∧ n.z < 18446744073709551616
theorem fit_zero : Nd.zero.fit := ⟨nought_len, nought_len, by decide⟩
theorem fit_one : Nd.one.fit := ⟨nought_len, nought_len, by decide⟩
theorem val_fit (v : List UInt8) (h : v.length ≤ 8) : val v < 18446744073709551616 := by
  have h1 := val_lt v
  have h2 : 256 ^ v.length ≤ 256 ^ 8 := Nat.pow_le_pow_right (by decide) h
  have h3 : 256 ^ 8 = 18446744073709551616 := by decide
  omega
theorem okb_iff (v : List UInt8) : okb v = true ↔ v.length ≤ 8 ∧ v.head? ≠ some 0 := by simp [okb]
theorem say_fit {n : Nd} (h : n.fit) (t : UInt8) (v : List UInt8) : (say n t v).2.fit := by
  obtain ⟨h1, h2, h3⟩ := h
  unfold say
  repeat' split
  all_goals first | exact ⟨h1, h2, h3⟩ | skip
  · rename_i hk
    exact ⟨h1, h2, val_fit v ((okb_iff v).1 hk).1⟩
  · rename_i hk
    exact ⟨hk, h2, h3⟩
  · rename_i hk
    exact ⟨h1, hk, h3⟩
theorem enc_ok {n : Nd} (h : (enc n).1 = 0) : 1 ≤ n.key.length ∧ n.key.length ≤ 96 ∧ n.may = true ∧ (enc n).2 = n.bytes := by
  unfold enc at h ⊢
  split at h
  · simp at h
  · rename_i hk
    split at h
    · simp at h
    · rename_i hm
      rw [if_neg hk, if_neg hm]
      exact ⟨by omega, by omega, by simpa using hm, rfl⟩
/-- What is decoded is encoded as it was. -/
theorem dec_enc {b : List UInt8} (h : (dec b).1 = 0) : enc (dec b).2 = (0, b) := by
  unfold dec at h ⊢
  split at h
  · rename_i h1
    rw [if_pos h1]
    split at h
    · rename_i h2
      rw [if_pos h2]
      generalize (says Nd.one (parse b).2).2 = n at h ⊢
      unfold judge at h ⊢
      split at h
      · rename_i h3
        rw [if_pos h3]
        split at h
        · rename_i h4
          rw [if_pos h4]
          exact Prod.ext h3 h4
        · simp at h
      · rename_i h3
        exact absurd h h3
    · rename_i h2
      exact absurd h h2
  · rename_i h1
    exact absurd h h1
end Go.Proofs.YtolkpjbbfopmnaaDoor.Tl.Tlv
