/-
  The law TreeHigh returns true for any calls; conditions: they are read, the table holds its words.
-/
import Derived.Test.YtceillnmcccckaaDoorGrow
namespace Go.Proofs.YtceillnmcccckaaDoor
open Go.RowKit
open Tr

theorem few_three (h : Nat) : 4 * few h ≤ few (h + 3) := by
  have e3 : few (h + 3) = few (h + 2) + few (h + 1) := rfl
  have e2 : few (h + 2) = few (h + 1) + few h := rfl
  cases h with
  | zero => decide
  | succ m =>
    have m1 : few (m + 2) = few (m + 1) + few m := rfl
    have m2 := few_mono m
    have e1 : few (m + 1) ≤ 2 * few m := by
      cases m with
      | zero => decide
      | succ q =>
        have q1 : few (q + 2) = few (q + 1) + few q := rfl
        have q2 := few_mono q
        show few (q + 2) ≤ _
        omega
    have e1' : few (m + 1 + 1) = few (m + 2) := rfl
    omega
theorem few_pow : ∀ j r : Nat, 4 ^ j * few r ≤ few (3 * j + r)
  | 0, r => by simp
  | j + 1, r => by
    have ih := few_pow j r
    have h3 := few_three (3 * j + r)
    rw [show 3 * (j + 1) + r = 3 * j + r + 3 by omega, Nat.pow_succ]
    have : 4 ^ j * 4 * few r = 4 * (4 ^ j * few r) := by rw [Nat.mul_comm (4 ^ j) 4, Nat.mul_assoc]
    omega
theorem pow_two_four (j : Nat) : 2 ^ (2 * j) = 4 ^ j := by rw [Nat.pow_mul]
/-- A tree whose leaves are no more than so many doublings make is no higher than three halves of them, and one. -/
theorem high_le (h d : Nat) (hf : few h ≤ 2 ^ d) : 2 * h ≤ 3 * d + 2 := by
  rcases Nat.lt_or_ge (3 * d + 2) (2 * h) with hc | hc
  · exfalso
    obtain ⟨j, r, hr, rfl⟩ : ∃ j r, r < 3 ∧ h = 3 * j + r := ⟨h / 3, h % 3, Nat.mod_lt _ (by omega), by omega⟩
    have hp := few_pow j r
    have h4 : 0 < 4 ^ j := Nat.pow_pos (by omega)
    match r, hr with
    | 0, _ =>
      have hd : d + 1 ≤ 2 * j := by omega
      have h1 : 2 ^ (d + 1) ≤ 2 ^ (2 * j) := Nat.pow_le_pow_right (by omega) hd
      rw [pow_two_four, Nat.pow_succ] at h1
      have h0 : 0 < 2 ^ d := Nat.pow_pos (by omega)
      have : few 0 = 1 := rfl
      rw [this] at hp
      omega
    | 1, _ =>
      have hd : d ≤ 2 * j := by omega
      have h1 : 2 ^ d ≤ 2 ^ (2 * j) := Nat.pow_le_pow_right (by omega) hd
      rw [pow_two_four] at h1
      have : few 1 = 2 := rfl
      rw [this] at hp
      omega
    | 2, _ =>
      have hd : d ≤ 2 * j := by omega
      have h1 : 2 ^ d ≤ 2 ^ (2 * j) := Nat.pow_le_pow_right (by omega) hd
      rw [pow_two_four] at h1
      have : few 2 = 3 := rfl
      rw [this] at hp
      omega
  · exact hc

theorem wrap_pow : ∀ d : Nat, d ≤ 9 → wrap64 ((2 : Int) ^ d) = ((2 ^ d : Nat) : Int)
  | 0, _ => by decide +kernel
  | 1, _ => by decide +kernel
  | 2, _ => by decide +kernel
  | 3, _ => by decide +kernel
  | 4, _ => by decide +kernel
  | 5, _ => by decide +kernel
  | 6, _ => by decide +kernel
  | 7, _ => by decide +kernel
  | 8, _ => by decide +kernel
  | 9, _ => by decide +kernel
  | d + 10, h => by omega

set_option maxRecDepth 100000 in
set_option maxHeartbeats 1000000 in
theorem treeHigh_any (A : Option Addr) (n c : Nat) (cs : List Ac) (w : World) (hc : ARd w w.heap.size A n cs) (hn : n ≤ 9223372036854775807) (ht : Sh.Tab w 1) (hw : 1 < w.heap.size) :
    Calls Tryd.prog 9 #[.slice A n c] w fun e w' => e = .returned (.bool true) ∧ Below w.heap.size w w' := by
  have HAW := Lib.hid (awake_any w ht hw)
  have HC := Lib.hid hc
  have HT := Lib.hid ht
  clear hc ht
  go_enter Tryd.func9, Tryd.ntmps9
  go_wp2_with fail
  refine HAW.out.mono ?_
  rintro e w1 ⟨rfl, hb1⟩
  have hs1 := hb1.size
  have HC1 := Lib.hid (grow_any A n c cs 200 w1 (ARd.more (HC.out.below hb1 (Nat.le_refl _)) hs1) hn (by omega) (Sh.tab_below HT.out hb1 hw) (by omega))
  have HB1 := Lib.hid hb1
  clear hb1 HAW
  go_wp2_with fail
  refine HC1.out.mono ?_
  rintro e w2 ⟨g, A2, n2, c2, rfl, hT2, hp2, hnc2, _, hF2, hm2, hb2⟩
  generalize grow 200 cs none = o at *
  have hs2 := hb2.size
  have HLN : Hid (n2 = oln o) := Lib.hid (by rw [← hp2.len]; exact oln_leaves o)
  have HF2 := Lib.hid hF2
  have HB2 := Lib.hid (HB1.out.trans (hb2.mono hs1))
  have HC2 := Lib.hid (way_any (some o) (some g) none 0 0 [] w2 ⟨g, rfl, hT2⟩ RdV.nil (by omega))
  have hn200 : n2 ≤ 200 := by have := HLN.out; omega
  clear hT2 hp2 hF2 hb2 HC1 HB1 hm2
  go_wp2_with fail
  refine HC2.out.mono ?_
  rintro e w3 hpost
  rw [show topOf (some o) = o from rfl, oat_nil] at hpost
  rcases hpost with ⟨rfl, rfl, hb3⟩ | ⟨t, xs, A3, n3, c3, A3', n3', c3', rfl, rfl, hTo, hb3⟩
  · have hs3 := hb3.size
    have HB3 := Lib.hid (HB2.out.trans (hb3.mono HB2.out.size))
    obtain rfl : n2 = 0 := HLN.out
    clear hb3 HC2 HB2 HF2 HLN
    simp only []
    have hz64 := zero64
    iterate 13 go_step
    clear hz64
    have hw4 := Whole.made w3 64 z64
    refine wpList_store_mid rfl 64 (.tmp 5) (.tmp 18) rfl w3.heap.size 0 z64 rfl rfl ?_ ?_ z64_one ?_
    · exact hw4.there_
    · rw [z64_size]; exact info64
    have HB5 := Lib.hid (below_setCells w w3.heap.size z64.toList 0 (HB3.out.alloc HB3.out.size (.cells z64 64)) HB3.out.size)
    generalize (w3.alloc (.cells z64 64)).setCells w3.heap.size 0 z64.toList = w5 at *
    clear hw4
    go_wp2_with fail
    go_ret
    exact ⟨rfl, HB5.out⟩
  · have hs3 := hb3.size
    have HB3 := Lib.hid (HB2.out.trans (hb3.mono HB2.out.size))
    have hcs : xs.size = 68 := by rw [hTo.eq, List.size_toArray, acells_len _ _ _ _ _ _ (lsum32 _) (rsum32 _)]
    have hone : xs.all (·.oneCell') = true := by rw [hTo.eq]; exact acells_one ..
    have HX := Lib.hid hTo.eq
    clear hb3 HC2 HB2 hTo
    simp only []
    have hz64 := zero64
    iterate 13 go_step
    clear hz64
    have hw4 := Whole.made w3 64 z64
    refine wpList_store_mid rfl 64 (.tmp 5) (.tmp 18) rfl w3.heap.size 0 xs rfl rfl ?_ ?_ hone ?_
    · rw [hcs]; exact hw4.there_
    · rw [hcs]; exact info64
    have hw5 := hw4.setAll (vs := xs) (by rw [hcs]; rfl)
    have HB5 := Lib.hid (below_setCells w w3.heap.size xs.toList 0 (HB3.out.alloc HB3.out.size (.cells z64 64)) HB3.out.size)
    generalize (w3.alloc (.cells z64 64)).setCells w3.heap.size 0 xs.toList = w5 at *
    generalize w3.heap.size = g5 at *
    rw [HX.out] at hw5
    have k2 := hw5.at_ (i := 2) (v := .int .i64 t.h) rfl
    have k3 := hw5.at_ (i := 3) (v := .int .u64 t.n) rfl
    have hnt : n2 = t.n := HLN.out
    have hpos := t.n_pos
    have HAV : Hid (few t.h ≤ n2) := Lib.hid (by rw [hnt]; exact avl_few t HF2.out.avl)
    have hh := T.h_lt t
    rw [← hnt] at k3 hpos hh
    clear hw4 hw5 hone hcs HB3 HF2 HLN hnt
    generalize t.h = H at *
    go_wp2_with fail
    go_loopg [7] 9 (fun gk s7 wx => ∃ d, d + gk = 9 ∧ s7 = .int .i64 (d : Nat) ∧ (d = 0 ∨ 2 ^ (d - 1) < n2) ∧ wx = w5)
    case atStart => exact ⟨0, by omega, rfl, .inl rfl, rfl⟩
    case round =>
      obtain ⟨d, hd, rfl, hdd, rfl⟩ := hrel
      have HDD := Lib.hid hdd
      clear hdd
      have hd9 : d ≤ 9 := by omega
      obtain ⟨P, hP⟩ : ∃ P : Nat, 2 ^ d = P := ⟨_, rfl⟩
      have hsh : wrap64 ((2 : Int) ^ d) = (P : Int) := by rw [← hP]; exact wrap_pow d hd9
      have HPP := Lib.hid hP
      clear hP
      cases gk with
      | zero =>
        exfalso
        obtain rfl : d = 9 := by omega
        rcases HDD.out with h | h
        · cases h
        · have : (2 : Nat) ^ (9 - 1) = 256 := rfl
          omega
      | succ gn =>
        by_cases hlt : P < n2
        · go_wp2_with fail
          go_roundg gn
          case measure => omega
          case rel => exact ⟨d + 1, by omega, congrArg (Value.int .i64) (by omega), .inr (by show 2 ^ d < n2; rw [HPP.out]; exact hlt), rfl⟩
        · have hfin := high_le H d (by rw [HPP.out]; have := HAV.out; omega)
          have hh2 : H < 200 := by omega
          have hqf : decide (2 * (H : Int) ≤ 3 * (d : Int) + 2) = true := by simp; omega
          go_wp2_with fail
          go_ret
          exact ⟨rfl, HB5.out⟩
end Go.Proofs.YtceillnmcccckaaDoor
