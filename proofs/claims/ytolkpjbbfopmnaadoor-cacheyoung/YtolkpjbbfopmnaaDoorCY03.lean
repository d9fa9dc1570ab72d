/-
  Pieces, fields and numbers as lists of bytes: plain mathematics; no condition but those that each fact names.
-/
import Derived.KernelRfl
namespace Go.Proofs.YtolkpjbbfopmnaaDoor.Tl.Tlv

def hi (n : Nat) : UInt8 := UInt8.ofNat (n / 256)
def lo (n : Nat) : UInt8 := UInt8.ofNat n
def pieceb (v : List UInt8) : List UInt8 := hi v.length :: lo v.length :: v
def put (b : List UInt8) (t : UInt8) (v : List UInt8) : List UInt8 := if v = [] then b else b ++ t :: pieceb v
def cnt (h l : UInt8) : Nat := h.toNat * 256 + l.toNat
def piece : List UInt8 → Option (List UInt8 × List UInt8)
  | h :: l :: r => if r.length < cnt h l then none else some (r.take (cnt h l), r.drop (cnt h l))
  | _ => none

theorem cnt_len (n : Nat) (h : n ≤ 65535) : cnt (hi n) (lo n) = n := by
  unfold cnt hi lo
  rw [UInt8.toNat_ofNat', UInt8.toNat_ofNat']
  omega
theorem hi_cnt (h l : UInt8) : hi (cnt h l) = h := by
  have := h.toNat_lt
  have := l.toNat_lt
  unfold cnt hi
  apply UInt8.toNat_inj.1
  rw [UInt8.toNat_ofNat']
  omega
theorem lo_cnt (h l : UInt8) : lo (cnt h l) = l := by
  have := h.toNat_lt
  have := l.toNat_lt
  unfold cnt lo
  apply UInt8.toNat_inj.1
  rw [UInt8.toNat_ofNat']
  omega
theorem cnt_le (h l : UInt8) : cnt h l ≤ 65535 := by
  have := h.toNat_lt
  have := l.toNat_lt
  unfold cnt
  omega
theorem pieceb_length (v : List UInt8) : (pieceb v).length = v.length + 2 := by simp [pieceb]
theorem piece_pieceb (v r : List UInt8) (h : v.length ≤ 65535) : piece (pieceb v ++ r) = some (v, r) := by
  unfold pieceb
  simp only [List.cons_append, piece]
  rw [cnt_len _ h, if_neg (by rw [List.length_append]; omega), List.take_left' rfl, List.drop_left' rfl]
theorem piece_some {b v r : List UInt8} (h : piece b = some (v, r)) : b = pieceb v ++ r ∧ v.length ≤ 65535 := by
  match b, h with
  | a :: l :: q, h =>
    simp only [piece] at h
    split at h
    · cases h
    · rename_i hq
      simp only [Option.some.injEq, Prod.mk.injEq] at h
      obtain ⟨rfl, rfl⟩ := h
      have hl : (q.take (cnt a l)).length = cnt a l := by rw [List.length_take]; omega
      refine ⟨?_, by rw [hl]; exact cnt_le a l⟩
      unfold pieceb
      rw [hl, hi_cnt, lo_cnt]
      simp
theorem piece_two (a l : UInt8) (r : List UInt8) : piece (a :: l :: r) = if r.length < cnt a l then none else some (r.take (cnt a l), r.drop (cnt a l)) := rfl

theorem put_nil (b : List UInt8) (t : UInt8) : put b t [] = b := rfl
theorem put_some (b : List UInt8) (t : UInt8) (v : List UInt8) (h : v ≠ []) : put b t v = b ++ t :: pieceb v := if_neg h
theorem put_length (b : List UInt8) (t : UInt8) (v : List UInt8) : (put b t v).length ≤ b.length + v.length + 3 := by
  unfold put
  split
  · omega
  · rw [List.length_append, List.length_cons, pieceb_length]; omega

/-! Fields -/
def rises (acc : List (UInt8 × List UInt8)) (t : UInt8) : Bool := match acc.getLast? with
  | none => true
  | some f => decide (f.1.toNat < t.toNat)
def run : Nat → List (UInt8 × List UInt8) → List UInt8 → Nat × List (UInt8 × List UInt8)
  | _, acc, [] => (0, acc)
  | 0, _, _ :: _ => (0, [])
  | k + 1, acc, t :: b => match piece b with
    | none => (4, [])
    | some (v, r) => if v = [] then (6, []) else if rises acc t = true then run k (acc ++ [(t, v)]) r else (5, [])
/-- The fields of bytes, behind others that are there. -/
def prs (acc : List (UInt8 × List UInt8)) (b : List UInt8) : Nat × List (UInt8 × List UInt8) := run b.length acc b
theorem piece_less {b v r : List UInt8} (h : piece b = some (v, r)) : r.length + 2 ≤ b.length := by
  obtain ⟨rfl, _⟩ := piece_some h
  rw [List.length_append, pieceb_length]; omega
theorem run_fuel : ∀ (k j : Nat) (acc : List (UInt8 × List UInt8)) (b : List UInt8), b.length ≤ k → b.length ≤ j → run k acc b = run j acc b := by
  intro k
  induction k with
  | zero =>
    intro j acc b h _
    obtain rfl : b = [] := List.eq_nil_of_length_eq_zero (by omega)
    simp [run]
  | succ k ih =>
    intro j acc b h hj
    match b, j, h, hj with
    | [], _, _, _ => simp [run]
    | t :: b, j + 1, h, hj =>
      simp only [run]
      cases hp : piece b with
      | none => rfl
      | some p =>
        obtain ⟨v, r⟩ := p
        have := piece_less hp
        simp only [List.length_cons] at h hj
        simp only
        rw [ih j (acc ++ [(t, v)]) r (by omega) (by omega)]
theorem prs_nil (acc : List (UInt8 × List UInt8)) : prs acc [] = (0, acc) := rfl
theorem prs_short (acc : List (UInt8 × List UInt8)) (t : UInt8) (b : List UInt8) (h : piece b = none) : prs acc (t :: b) = (4, []) := by
  simp [prs, run, h]
theorem prs_empty (acc : List (UInt8 × List UInt8)) (t : UInt8) (b r : List UInt8) (h : piece b = some ([], r)) : prs acc (t :: b) = (6, []) := by
  simp [prs, run, h]
theorem prs_order (acc : List (UInt8 × List UInt8)) (t : UInt8) (b v r : List UInt8) (h : piece b = some (v, r)) (hv : v ≠ []) (ho : rises acc t = false) : prs acc (t :: b) = (5, []) := by
  simp [prs, run, h, hv, ho]
theorem prs_next (acc : List (UInt8 × List UInt8)) (t : UInt8) (b v r : List UInt8) (h : piece b = some (v, r)) (hv : v ≠ []) (ho : rises acc t = true) : prs acc (t :: b) = prs (acc ++ [(t, v)]) r := by
  have := piece_less h
  simp only [prs, List.length_cons, run, h, hv, ho, if_true, if_false]
  exact run_fuel _ _ _ _ (by omega) (Nat.le_refl _)
def parse (b : List UInt8) : Nat × List (UInt8 × List UInt8) := prs [] b

/-! Pieces -/
def body (l : List (UInt8 × List UInt8)) : List UInt8 := (l.map fun f => f.1 :: pieceb f.2).flatten
theorem body_nil : body [] = [] := rfl
theorem body_snoc (l : List (UInt8 × List UInt8)) (f : UInt8 × List UInt8) : body (l ++ [f]) = body l ++ f.1 :: pieceb f.2 := by simp [body]
theorem body_cons (l : List (UInt8 × List UInt8)) (f : UInt8 × List UInt8) : body (f :: l) = f.1 :: (pieceb f.2 ++ body l) := by simp [body]
theorem put_body (l : List (UInt8 × List UInt8)) (t : UInt8) (v : List UInt8) (h : v ≠ []) : put (body l) t v = body (l ++ [(t, v)]) := by
  rw [put_some _ _ _ h, body_snoc]
theorem prs_back : ∀ (k : Nat) (acc : List (UInt8 × List UInt8)) (b : List UInt8) (l : List (UInt8 × List UInt8)), b.length ≤ k → prs acc b = (0, l) → ∃ l', l = acc ++ l' ∧ body l' = b ∧ ∀ f ∈ l', f.2 ≠ [] ∧ f.2.length ≤ 65535 := by
  intro k
  induction k with
  | zero =>
    intro acc b l h he
    obtain rfl : b = [] := List.eq_nil_of_length_eq_zero (by omega)
    rw [prs_nil] at he
    injection he with _ he
    exact ⟨[], by simp [he], rfl, by simp⟩
  | succ k ih =>
    intro acc b l h he
    match b with
    | [] =>
      rw [prs_nil] at he
      injection he with _ he
      exact ⟨[], by simp [he], rfl, by simp⟩
    | t :: b =>
      cases hp : piece b with
      | none => rw [prs_short acc t b hp] at he; injection he with h4 _; omega
      | some p =>
        obtain ⟨v, r⟩ := p
        by_cases hv : v = []
        · subst hv; rw [prs_empty acc t b r hp] at he; injection he with h4 _; omega
        · cases ho : rises acc t with
          | false => rw [prs_order acc t b v r hp hv ho] at he; injection he with h4 _; omega
          | true =>
            rw [prs_next acc t b v r hp hv ho] at he
            have := piece_less hp
            simp only [List.length_cons] at h
            obtain ⟨l', h1, h2, h3⟩ := ih _ r l (by omega) he
            obtain ⟨hb', hv'⟩ := piece_some hp
            refine ⟨(t, v) :: l', by rw [h1]; simp, by rw [body_cons, h2, ← hb'], ?_⟩
            intro x hx
            rcases List.mem_cons.1 hx with rfl | hx
            · exact ⟨hv, hv'⟩
            · exact h3 x hx
theorem parse_back (b : List UInt8) (l : List (UInt8 × List UInt8)) (h : parse b = (0, l)) : body l = b ∧ ∀ f ∈ l, f.2 ≠ [] ∧ f.2.length ≤ 65535 := by
  obtain ⟨l', h1, h2, h3⟩ := prs_back b.length [] b l (Nat.le_refl _) h
  rw [List.nil_append] at h1
  subst h1
  exact ⟨h2, h3⟩
/-- The fields rise behind acc, and each has bytes, and not too many. -/
def fine : List (UInt8 × List UInt8) → List (UInt8 × List UInt8) → Prop
  | _, [] => True
  | acc, f :: l => f.2 ≠ [] ∧ f.2.length ≤ 65535 ∧ rises acc f.1 = true ∧ fine (acc ++ [f]) l
theorem prs_body (l acc : List (UInt8 × List UInt8)) (h : fine acc l) : prs acc (body l) = (0, acc ++ l) := by
  induction l generalizing acc with
  | nil => rw [body_nil, prs_nil, List.append_nil]
  | cons f l ih =>
    obtain ⟨h1, h2, h3, h4⟩ := h
    rw [body_cons, prs_next acc f.1 _ f.2 _ (piece_pieceb f.2 (body l) h2) h1 h3, ih _ h4]
    simp
theorem parse_body (l : List (UInt8 × List UInt8)) (h : fine [] l) : parse (body l) = (0, l) := prs_body l [] h
end Go.Proofs.YtolkpjbbfopmnaaDoor.Tl.Tlv
