/-
  What tlv.cutPiece and the document's piece return: the piece at the bytes' beginning and what stands behind it; conditions: the bytes are read. They make no memory.
-/
import Derived.Test.YtolkpjbbfopmnaaDoorTlEight
namespace Go.Proofs.YtolkpjbbfopmnaaDoor.Tl
open Go.RowKit

theorem two_at {w : World} {B : Nat} {A : Option Addr} {n : Nat} {bs : List UInt8} (h : Rd w B A n bs) (hn : 2 ≤ n) :
    ∃ b o x y r, A = some ⟨b, o, none⟩ ∧ bs = x :: y :: r ∧ w.cell? ⟨b, o, none⟩ = some (.int .u8 x.toNat) ∧ w.cell? ⟨b, o + 1, none⟩ = some (.int .u8 y.toNat) := by
  obtain ⟨b, o, e, _, hc⟩ := h.at_ (by omega)
  have hl := h.len
  match bs, hl with
  | [], hl => simp at hl; omega
  | [_], hl => simp at hl; omega
  | x :: y :: r, _ => exact ⟨b, o, x, y, r, e, rfl, hc 0 x rfl, hc 1 y rfl⟩
theorem cnt_or (x y : UInt8) : bits .or .i64 ((x.toNat : Int) * 256) (y.toNat : Int) = (Tlv.cnt x y : Int) := by
  have hx := x.toNat_lt
  have hy := y.toNat_lt
  have h : ∀ a b : Nat, a < 9223372036854775808 → b < 9223372036854775808 → bits .or .i64 (a : Int) (b : Int) = ((a ||| b : Nat) : Int) := by
    intro a b ha hb
    have h1 : ∀ a : Nat, a < 9223372036854775808 → (BitVec.ofInt 64 (a : Int)).toNat = a := by
      intro a ha
      rw [BitVec.ofInt_natCast, BitVec.toNat_ofNat]; exact Nat.mod_eq_of_lt (by omega)
    have hx : a ||| b < 2 ^ 63 := Nat.or_lt_two_pow (by omega) (by omega)
    show IntKind.i64.wrap ((BitVec.ofInt 64 (a : Int) ||| BitVec.ofInt 64 (b : Int)).toNat : Int) = _
    rw [BitVec.toNat_or, h1 a ha, h1 b hb, IntKind.wrap_i64]
    omega
  have := h (x.toNat * 256) y.toNat (by omega) (by omega)
  rw [Tlv.or_byte _ _ (by omega)] at this
  unfold Tlv.cnt
  rw [← this]
  rfl

/-- A piece is there. -/
def CutSome (w : World) (B : Nat) (v r : List UInt8) (e : Ending) (w' : World) : Prop :=
  ∃ k A1 n1 c1 A2 n2 c2, e = .returned (.tuple #[.slice A1 n1 c1, .slice A2 n2 c2, .bool true]) ∧ Rd w B A1 n1 v ∧ n1 ≤ c1 ∧ Rd w B A2 n2 r ∧ n2 ≤ c2 ∧ w' = w.drewN k
def CutNone (w : World) (e : Ending) (w' : World) : Prop :=
  ∃ k, e = .returned (.tuple #[.slice none 0 0, .slice none 0 0, .bool false]) ∧ w' = w.drewN k

set_option maxRecDepth 100000 in
theorem cut_none (A : Option Addr) (n c : Nat) (bs : List UInt8) (w : World) (B : Nat) (hr : Rd w B A n bs) (_hnc : n ≤ c) (hn : n ≤ 9223372036854775807) (hp : Tlv.piece bs = none) :
    Calls Tryd.prog 69 #[.slice A n c] w (CutNone w) := by
  by_cases h2 : n < 2
  · clear hr hp
    go_enter Tryd.func69, Tryd.ntmps69
    go_wp2_with fail
    go_ret3
    exact ⟨0, rfl, rfl⟩
  · obtain ⟨b, o, x, y, r, rfl, rfl, h0, h1⟩ := two_at hr (by omega)
    have hl := hr.len
    simp only [List.length_cons] at hl
    rw [Tlv.piece_two] at hp
    have hlt : r.length < Tlv.cnt x y := by
      by_cases h : r.length < Tlv.cnt x y
      · exact h
      · rw [if_neg h] at hp; cases hp
    have hcn := cnt_or x y
    have hle := Tlv.cnt_le x y
    generalize Tlv.cnt x y = N at *
    have i0 : (0 : Int) < (n : Int) := by omega
    have i1 : (1 : Int) < (n : Int) := by omega
    have hlt2 : ((n - 2 : Nat) : Int) < (N : Int) := by omega
    have hx := x.toNat_lt
    have hy := y.toNat_lt
    clear hp hr hl hlt
    go_enter Tryd.func69, Tryd.ntmps69
    go_wp2_with fail
    go_quiet (fail)
    go_wp2_with fail
    all_goals
      go_ret3
      exact ⟨_, rfl, rfl⟩

set_option maxRecDepth 100000 in
theorem cut_some (A : Option Addr) (n c : Nat) (bs v q : List UInt8) (w : World) (B : Nat) (hr : Rd w B A n bs) (hnc : n ≤ c) (hn : n ≤ 9223372036854775807) (hp : Tlv.piece bs = some (v, q)) :
    Calls Tryd.prog 69 #[.slice A n c] w (CutSome w B v q) := by
  have h2 : 2 ≤ n := by
    have := Tlv.piece_less hp
    rw [hr.len] at this
    omega
  obtain ⟨b, o, x, y, r, rfl, rfl, h0, h1⟩ := two_at hr h2
  have hl := hr.len
  simp only [List.length_cons] at hl
  rw [Tlv.piece_two] at hp
  have hlt : ¬ r.length < Tlv.cnt x y := by
    intro h
    rw [if_pos h] at hp; cases hp
  rw [if_neg hlt] at hp
  simp only [Option.some.injEq, Prod.mk.injEq] at hp
  obtain ⟨rfl, rfl⟩ := hp
  have hcn := cnt_or x y
  have hle := Tlv.cnt_le x y
  generalize Tlv.cnt x y = N at *
  have i0 : (0 : Int) < (n : Int) := by omega
  have i1 : (1 : Int) < (n : Int) := by omega
  have hnot : decide (((n - 2 : Nat) : Int) < (N : Int)) = false := by simp; omega
  have j1 : (N : Int) ≤ ((n - 2 : Nat) : Int) := by omega
  have j2 : (N : Int) ≤ ((c - 2 : Nat) : Int) := by omega
  have hx := x.toNat_lt
  have hy := y.toNat_lt
  have HV : Hid (∀ A', (2 < c → A' = some ⟨b, o + 2, none⟩) → Rd w B A' N (r.take N)) := Lib.hid (fun A' hA => by
    have h3 := hr.cut 2 h2 hnc A' hA
    simp only [List.drop_succ_cons, List.drop_zero] at h3
    rcases Nat.eq_zero_or_pos N with h0 | h0
    · subst h0; exact Rd.nil
    · rw [hA (by omega)] at h3 ⊢
      have := h3.part 0 N (by omega)
      rwa [Nat.add_zero, List.drop_zero] at this)
  have HQ : Hid (∀ A', (2 + N < c → A' = some ⟨b, o + 2 + N, none⟩) → Rd w B A' (n - 2 - N) (r.drop N)) := Lib.hid (fun A' hA => by
    have := hr.cut (2 + N) (by omega) hnc A' (fun h => by rw [hA h, Nat.add_assoc])
    rw [Nat.add_comm 2 N] at this
    simp only [List.drop_succ_cons] at this
    rwa [show n - (N + 2) = n - 2 - N by omega] at this)
  clear hr hl hlt
  go_enter Tryd.func69, Tryd.ntmps69
  go_wp2_with fail
  go_quiet (fail)
  go_wp2_with fail
  all_goals (go_quiet (fail))
  all_goals (go_wp2_with fail)
  all_goals
    go_ret3
    exact ⟨_, _, _, _, _, _, _, rfl, HV.out _ (fun h => by first | rfl | omega), by omega, HQ.out _ (fun h => by first | rfl | omega), by omega, by first | rfl | (rw [World.drewN_drewN])⟩
end Go.Proofs.YtolkpjbbfopmnaaDoor.Tl
