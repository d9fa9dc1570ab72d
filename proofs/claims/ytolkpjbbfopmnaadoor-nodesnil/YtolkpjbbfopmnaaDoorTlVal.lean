/-
  What tlv.Value and the document's Value, Eight and Num return; conditions: what is handed over is read, a number has 64 bits. They only make memory of their own.
-/
import Derived.Test.YtolkpjbbfopmnaaDoorTlNum
import Derived.Laws.BitsAllLaws
namespace Go.Proofs.YtolkpjbbfopmnaaDoor.Tl
open Go.RowKit

/-- Are the bytes right as a number? -/
def okv (bs : List UInt8) : Prop := bs.length ≤ 8 ∧ bs.head? ≠ some 0
theorem okv_num (n : Nat) (h : n < 18446744073709551616) : okv (Tlv.num n) := ⟨Tlv.num_len8 n h, Tlv.num_head n⟩
theorem val_small (bs : List UInt8) (k : Nat) (hk : k < bs.length) (h8 : bs.length ≤ 8) : Tlv.val (bs.take k) ≤ 72057594037927935 := by
  have h1 := Tlv.val_lt (bs.take k)
  have h2 : (bs.take k).length ≤ 7 := by rw [List.length_take]; omega
  have h3 : 256 ^ (bs.take k).length ≤ 256 ^ 7 := Nat.pow_le_pow_right (by omega) h2
  rw [show (256 : Nat) ^ 7 = 72057594037927936 from rfl] at h3
  omega
theorem val_take (bs : List UInt8) (k : Nat) (x : UInt8) (hx : bs[k]? = some x) : Tlv.val (bs.take (k + 1)) = Tlv.val (bs.take k) * 256 + x.toNat := by
  rw [List.take_add_one, hx]
  exact Tlv.val_snoc _ _
theorem or_u64 (M : Nat) (x : UInt8) (hM : M ≤ 72057594037927935) : bits .or .u64 ((M : Int) * 256) (x.toNat : Int) = ((M * 256 + x.toNat : Nat) : Int) := by
  have hx := x.toNat_lt
  have h := u64_or_nat (M * 256) x.toNat (by omega) (by omega)
  rw [Tlv.or_byte M x.toNat (by omega)] at h
  rw [← h]
  rfl

theorem head_at {w : World} {B : Nat} {A : Option Addr} {n : Nat} {bs : List UInt8} (h : Rd w B A n bs) (hn : 0 < n) : ∃ b o x, A = some ⟨b, o, none⟩ ∧ bs.head? = some x ∧ w.cell? ⟨b, o, none⟩ = some (.int .u8 x.toNat) := by
  obtain ⟨b, o, e, _, hc⟩ := h.at_ hn
  have hl := h.len
  match bs, hl with
  | [], hl => simp at hl; omega
  | x :: r, _ => exact ⟨b, o, x, e, rfl, hc 0 x rfl⟩

set_option maxRecDepth 100000 in
theorem value_bad (A : Option Addr) (n c : Nat) (bs : List UInt8) (w : World) (B : Nat) (hr : Rd w B A n bs) (hok : ¬ okv bs) :
    Calls Tryd.prog 71 #[.slice A n c] w fun e w' => e = .returned (.tuple #[.int .u64 0, .int .i64 7]) ∧ w = w' := by
  by_cases h8 : 8 < n
  · clear hr hok
    go_enter Tryd.func71, Tryd.ntmps71
    go_wp2_with fail
    go_ret2
    exact ⟨rfl, rfl⟩
  · have hl := hr.len
    have hh : bs.head? = some 0 := by
      rcases hb : bs.head? with _ | x
      · exact absurd ⟨by omega, by rw [hb]; simp⟩ hok
      · by_cases hx : x = 0
        · rw [hx]
        · exact absurd ⟨by omega, by rw [hb]; simpa using hx⟩ hok
    have hn : 0 < n := by
      rw [← hl]
      cases bs with
      | nil => simp at hh
      | cons a l => simp
    obtain ⟨b, o, x, rfl, hx, hc⟩ := head_at hr hn
    rw [hh] at hx
    injection hx with hx
    subst hx
    have hc : w.cell? ⟨b, o, none⟩ = some (.int .u8 0) := hc
    clear hr hok hl hh
    go_enter Tryd.func71, Tryd.ntmps71
    go_wp2_with fail
    go_ret2
    exact ⟨rfl, rfl⟩

set_option maxRecDepth 100000 in
theorem value_good (A : Option Addr) (n c : Nat) (bs : List UInt8) (w : World) (B : Nat) (hr : Rd w B A n bs) (hok : okv bs) :
    Calls Tryd.prog 71 #[.slice A n c] w fun e w' => e = .returned (.tuple #[.int .u64 (Tlv.val bs), .int .i64 0]) ∧ w = w' := by
  have hl := hr.len
  have h8 : n ≤ 8 := by rw [← hl]; exact hok.1
  rcases Nat.eq_zero_or_pos n with h0 | h0
  · subst h0
    obtain rfl : bs = [] := List.eq_nil_of_length_eq_zero hl
    clear hr hok hl
    go_enter Tryd.func71, Tryd.ntmps71
    go_wp2_with fail
    go_loop [4, 23] (fun v i => v = .int .u64 0 ∧ i = .int .i64 0) (fun _ _ => 0)
    case atStart => exact ⟨rfl, rfl⟩
    case round =>
      obtain ⟨rfl, rfl⟩ := hrel
      go_wp2_with fail
      go_ret2
      exact ⟨rfl, rfl⟩
  · obtain ⟨b, o, x, rfl, hx, hc⟩ := head_at hr h0
    have hz : ((x.toNat : Int) == 0) = false := by
      have : x ≠ 0 := fun e => hok.2 (by rw [hx, e])
      have : x.toNat ≠ 0 := fun e => this (UInt8.toNat_inj.1 e)
      simpa using this
    have HR := Lib.hid hr
    have HL := Lib.hid hl
    clear hr hok hl hx
    go_enter Tryd.func71, Tryd.ntmps71
    go_wp2_with fail
    clear hz hc
    go_loop [4, 23] (fun v i => ∃ k : Nat, k ≤ n ∧ i = .int .i64 k ∧ v = .int .u64 (Tlv.val (bs.take k))) (fun _ i => n - (intOf i).toNat)
    case atStart => exact ⟨0, by omega, rfl, rfl⟩
    case round =>
      obtain ⟨k, hk, rfl, rfl⟩ := hrel
      by_cases hlt : k < n
      · obtain ⟨y, hy⟩ : ∃ y, bs[k]? = some y := ⟨bs[k]'(by rw [HL.out]; exact hlt), List.getElem?_eq_getElem _⟩
        obtain ⟨b', o', e, _, hall⟩ := HR.out.at_ h0
        injection e with e
        injection e with e1 e2
        subst e1 e2
        have hc := hall k y hy
        have hM := val_small bs k (by rw [HL.out]; exact hlt) (by rw [HL.out]; exact h8)
        have HV := Lib.hid (val_take bs k y hy)
        generalize Tlv.val (bs.take k) = M at *
        have HE := Lib.hid (or_u64 M y hM)
        have hy8 : (y.toNat : Int) < 256 := by have := y.toNat_lt; omega
        clear hall hy
        go_wp2_with fail
        go_round
        case rel => exact ⟨k + 1, by omega, by go_num, by rw [HE.out, HV.out]⟩
        case measure => simp [intOf]; omega
      · obtain rfl : k = n := by omega
        go_wp2_with fail
        go_ret2
        refine ⟨?_, rfl⟩
        rw [List.take_of_length_le (by rw [HL.out]; exact Nat.le_refl _)]
        rfl
end Go.Proofs.YtolkpjbbfopmnaaDoor.Tl
