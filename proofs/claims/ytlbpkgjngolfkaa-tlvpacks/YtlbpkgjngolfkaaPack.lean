/-
  What tlv.Pack returns: the pieces of the lists, one behind the other, in new memory; conditions: the lists are read, none is too long, there are no more than a hundred thousand; and ErrLong of one that is too long.
-/
import Derived.Test.YtlbpkgjngolfkaaFields
namespace Go.Proofs.Ytlbpkgjngolfkaa
open Go.RowKit

theorem pack_take (ls : List (List UInt8)) (k : Nat) (l : List UInt8) (h : ls[k]? = some l) : Tlv.pack (ls.take (k + 1)) = Tlv.pack (ls.take k) ++ Tlv.pieceb l := by
  rw [List.take_add_one, h]
  exact Tlv.pack_snoc _ _
theorem pack_bound (ls : List (List UInt8)) (h : ∀ l ∈ ls, l.length ≤ 65535) (k : Nat) : (Tlv.pack (ls.take k)).length ≤ 65537 * k := by
  induction k with
  | zero => simp [Tlv.pack_nil]
  | succ k ih =>
    cases hl : ls[k]? with
    | none => rw [List.take_add_one, hl]; simp; omega
    | some l =>
      rw [pack_take ls k l hl, List.length_append, Tlv.pieceb_length]
      have := h l (List.mem_of_getElem? hl)
      omega

def PackRel (w : World) (ls : List (List UInt8)) (n : Nat) (i o : Value) (wx : World) : Prop :=
  ∃ k N : Nat, k ≤ n ∧ N = (Tlv.pack (ls.take k)).length ∧ i = .int .i64 k ∧ wx.ownsRow w.heap.size 5 1 o N ((Tlv.pack (ls.take k)).map V8) ∧ Below w.heap.size w wx

set_option maxRecDepth 100000 in
set_option maxHeartbeats 1000000 in
theorem pack_any (A : Option Addr) (n c : Nat) (ls : List (List UInt8)) (w : World) (hr : LRd w w.heap.size A n ls) (hn : n ≤ 100000) (h16 : ∀ l ∈ ls, l.length ≤ 65535) :
    Calls Try.prog 21 #[.slice A n c] w (PutPost w (Tlv.pack ls)) := by
  have HR := Lib.hid hr
  have H16 := Lib.hid h16
  have hall : ls.take n = ls := List.take_of_length_le (by rw [hr.len]; exact Nat.le_refl _)
  have hS := pack_bound ls h16 n
  rw [hall] at hS
  obtain ⟨S, hSS⟩ : ∃ S, (Tlv.pack ls).length = S := ⟨_, rfl⟩
  rw [hSS] at hS
  have HALL := Lib.hid hall
  have HSS := Lib.hid hSS
  clear hr h16 hall hSS
  go_enter Try.func21, Try.ntmps21
  go_wp2_with fail
  go_loop [4, 12] (fun s i => ∃ k N : Nat, k ≤ n ∧ N = (Tlv.pack (ls.take k)).length ∧ i = .int .i64 k ∧ s = .int .i64 N) (fun _ i => n - (intOf i).toNat)
  case atStart => exact ⟨0, 0, by omega, rfl, rfl, rfl⟩
  case round =>
    obtain ⟨k, N, hk, hN, rfl, rfl⟩ := hrel
    have hNb := pack_bound ls H16.out k
    rw [← hN] at hNb
    have HN := Lib.hid hN
    clear hN
    by_cases hlt : k < n
    · obtain ⟨l, hl⟩ : ∃ l, ls[k]? = some l := ⟨ls[k]'(by rw [HR.out.len]; exact hlt), List.getElem?_eq_getElem _⟩
      obtain ⟨b1, o1, A', n', c', rfl, hb1, s1, hnc, _, r1⟩ := HR.out.at_ hl
      have hn' : n' ≤ 65535 := by rw [← r1.len]; exact H16.out l (List.mem_of_getElem? hl)
      have q1 : decide (65535 < (n' : Int)) = false := by simp; omega
      have HE : Hid (N + (2 + n') = (Tlv.pack (ls.take (k + 1))).length) := Lib.hid (by rw [pack_take ls k l hl, List.length_append, Tlv.pieceb_length, ← HN.out, r1.len]; omega)
      clear hl r1
      go_wp2_with fail
      go_round
      case rel => exact ⟨k + 1, N + (2 + n'), by omega, HE.out, by go_num, by go_num⟩
      case measure => simp [intOf]; omega
    · obtain rfl : k = n := by omega
      obtain rfl : N = S := by rw [HN.out, HALL.out, HSS.out]
      have hmk := run_mk 0 N (Nat.zero_le _) (by omega) 0 (N : Int) rfl rfl
      go_wp2_with fail
      clear hmk
      have hs0 : PackRel w ls k (.int .i64 0) (.slice (some ⟨w.heap.size, 0, none⟩) 0 N) (w.alloc (.cells (zb N) 5)) :=
        ⟨0, 0, by omega, rfl, rfl, World.ownsRow_made w _ _ (Nat.le_refl _) (by unfold maxLen; omega) (by rw [zb_size, Nat.mul_one]), (Below.refl _ _).alloc (Nat.le_refl _) _⟩
      have HS0 := Lib.hid hs0
      clear hs0
      generalize w.alloc (.cells (zb N) 5) = w1 at *
      go_loopw [29, 7] (fun i o wx => PackRel w ls k i o wx) (fun i _ _ => k - (intOf i).toNat)
      case atStart => exact HS0.out
      case round =>
        clear HS0
        obtain ⟨j, M, hj, hM, rfl, hown, hbl⟩ := hrel
        have hMb := pack_bound ls H16.out j
        rw [← hM] at hMb
        obtain ⟨A0, c0, rfl, hc0, _⟩ := own_form hown
        have HM := Lib.hid hM
        have HO := Lib.hid hown
        have HB := Lib.hid hbl
        have hws : w.heap.size ≤ wr.heap.size := hbl.size
        clear hM hown hbl
        by_cases hlt2 : j < k
        · obtain ⟨l, hl⟩ : ∃ l, ls[j]? = some l := ⟨ls[j]'(by rw [HR.out.len]; exact hlt2), List.getElem?_eq_getElem _⟩
          obtain ⟨b1, o1, A', n', c', rfl, hb1, s1, hnc, _, r1⟩ := HR.out.at_ hl
          have hn' : n' ≤ 65535 := by rw [← r1.len]; exact H16.out l (List.mem_of_getElem? hl)
          have s1' := (HB.out.cell (p := ⟨b1, o1 + j, none⟩) hb1).trans s1
          have R1 := Lib.hid (r1.below HB.out (Nat.le_refl _))
          have HT := Lib.hid (pack_take ls j l hl)
          clear hl r1 s1
          go_wp2_with fail
          refine (appendPiece_any w.heap.size _ M _ wr HO.out A' n' c' l R1.out (by omega) hn' hws).mono ?_
          rintro e w3 ⟨v3, n3, rfl, hown3, hb3⟩
          rw [← HT.out] at hown3
          have hl3 := hown3.1
          rw [List.length_map, Nat.mul_one] at hl3
          have HH := Lib.hid (And.intro hown3 (And.intro hl3 (HB.out.trans hb3)))
          clear hown3 hl3 hb3
          go_wp2_with fail
          go_roundw
          case rel => exact ⟨j + 1, n3, by omega, HH.out.2.1.symm, by go_num, HH.out.1, HH.out.2.2⟩
          case measure => simp [intOf]; omega
        · obtain rfl : j = k := by omega
          have hown := HO.out
          rw [HALL.out] at hown
          have hnew : ∀ b o, A0 = some ⟨b, o, none⟩ → w.heap.size ≤ b := fun b o e => by
            subst e
            exact (hown.lt b rfl).1
          have HH := Lib.hid (And.intro (Rd.of_own hown) hnew)
          clear hown hnew
          go_wp2_with fail
          go_ret2
          exact ⟨A0, M, c0, rfl, HH.out.1, hc0, HH.out.2, HB.out⟩

set_option maxRecDepth 100000 in
theorem pack_long (b o c : Nat) (A' : Option Addr) (n' c' : Nat) (w : World) (hc : w.cell? ⟨b, o, none⟩ = some (.slice A' n' c')) (hn : 65535 < n') :
    Calls Try.prog 21 #[.slice (some ⟨b, o, none⟩) 1 c] w fun e w' => e = .returned (.tuple #[.slice none 0 0, .int .i64 3]) ∧ w = w' := by
  have q1 : decide (65535 < (n' : Int)) = true := by simp; omega
  go_enter Try.func21, Try.ntmps21
  go_wp2_with fail
  go_loop [4, 12] (fun s i => s = .int .i64 0 ∧ i = .int .i64 0) (fun _ _ => 0)
  case atStart => exact ⟨rfl, rfl⟩
  case round =>
    obtain ⟨rfl, rfl⟩ := hrel
    go_wp2_with fail
    go_ret2
    exact ⟨rfl, rfl⟩
end Go.Proofs.Ytlbpkgjngolfkaa
