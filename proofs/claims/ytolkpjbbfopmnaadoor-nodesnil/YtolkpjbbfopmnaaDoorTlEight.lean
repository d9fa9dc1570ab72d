/-
  What the document's Eight and Num return; condition: the number has 64 bits. They only make memory of their own.
-/
import Derived.Test.YtolkpjbbfopmnaaDoorTlVal
namespace Go.Proofs.YtolkpjbbfopmnaaDoor.Tl
open Go.RowKit

/-- A number as eight bytes. -/
def pad (n : Nat) : List UInt8 := List.replicate (8 - (Tlv.num n).length) 0 ++ Tlv.num n
theorem pad_length (n : Nat) (h : n < 18446744073709551616) : (pad n).length = 8 := by
  have := Tlv.num_len8 n h
  rw [pad, List.length_append, List.length_replicate]
  omega
theorem num_top (n : Nat) : n < 256 ^ (Tlv.num n).length := by
  have := Tlv.val_lt (Tlv.num n)
  rwa [Tlv.val_num] at this
theorem pad_at (n : Nat) (h : n < 18446744073709551616) (k : Nat) (hk : k < 8) : (pad n)[k]? = some (UInt8.ofNat (n / 256 ^ (7 - k))) := by
  have h8 := Tlv.num_len8 n h
  unfold pad
  by_cases hlt : k < 8 - (Tlv.num n).length
  · rw [List.getElem?_append_left (by rw [List.length_replicate]; exact hlt), List.getElem?_replicate, if_pos hlt]
    have ht := num_top n
    have h0 : n / 256 ^ (7 - k) = 0 := Nat.div_eq_of_lt (Nat.lt_of_lt_of_le ht (Nat.pow_le_pow_right (by omega) (by omega)))
    rw [h0]
    rfl
  · rw [List.getElem?_append_right (by rw [List.length_replicate]; omega), List.length_replicate, ← Tlv.num_get (7 - k) n (by omega)]
    congr 1
    omega
theorem pad_take (n : Nat) (h : n < 18446744073709551616) (k : Nat) (hk : k < 8) : (pad n).take (k + 1) = (pad n).take k ++ [UInt8.ofNat (n / 256 ^ (7 - k))] := by
  rw [List.take_add_one, pad_at n h k hk]
  rfl

theorem byte_cell (x : Nat) : #[Value.int .u8 ((x : Int) % 256)] = ([UInt8.ofNat x].map V8).toArray := by
  simp only [List.map_cons, List.map_nil, V8, UInt8.toNat_ofNat']
  congr 3

theorem shift_eq (n k : Nat) (hk : k < 8) : (n : Int) / 2 ^ (56 - 8 * k) = ((n / 256 ^ (7 - k) : Nat) : Int) := by
  have h : (2 : Nat) ^ (56 - 8 * k) = 256 ^ (7 - k) := by
    rw [show (256 : Nat) = 2 ^ 8 from rfl, ← Nat.pow_mul]
    congr 1
    omega
  rw [← h, Int.natCast_ediv, Int.natCast_pow]
  rfl

def EightRel (n : Nat) (w : World) (o i : Value) (wx : World) : Prop :=
  ∃ k : Nat, k ≤ 8 ∧ i = .int .i64 k ∧ wx.ownsRow w.heap.size 5 1 o k (((pad n).take k).map V8) ∧ Below w.heap.size w wx

set_option maxRecDepth 100000 in
theorem eight_any (n : Nat) (hn : n < 18446744073709551616) (w : World) : Calls Tryd.prog 89 #[.int .u64 n] w (BytesPost w (pad n)) := by
  go_enter Tryd.func89, Tryd.ntmps89
  go_wp2_with fail
  go_loopw [3, 4] (fun o i wx => EightRel n w o i wx) (fun _ i _ => 8 - (intOf i).toNat)
  case atStart => exact ⟨0, by omega, rfl, World.ownsRow_nil _ _ _ _, Below.refl _ _⟩
  case round =>
    obtain ⟨k, hk, rfl, hown, hbl⟩ := hrel
    obtain ⟨A0, c0, rfl, _, _⟩ := own_form hown
    have HO := Lib.hid hown
    have HB := Lib.hid hbl
    have hbs : w.heap.size ≤ wr.heap.size := hbl.size
    clear hown hbl
    by_cases hlt : k < 8
    · have hsh : (56 - 8 * (k : Int)).toNat = 56 - 8 * k := by omega
      have z0 : 0 ≤ 56 - 8 * (k : Int) := by omega
      have z1 : 56 - 8 * (k : Int) ≤ 64 := by omega
      go_upto_region 5 with (fail)
      refine wp_region_lit ?_
      iterate 24 go_step
      rw [shift_eq n k hlt]
      have hb0 : Below w.heap.size w (wr.alloc (.cells #[.int .u8 (((n / 256 ^ (7 - k) : Nat) : Int) % 256)] 5)) := HB.out.alloc hbs _
      refine wpList_append_b rfl (.tmp 9) (.tmp 16) rfl w.heap.size _ k _ rfl (HO.out.alloc _) _ _ 1 1 [UInt8.ofNat (n / 256 ^ (7 - k))] rfl (rd_new wr 5 _ 1 rfl _ (byte_cell _)) (by omega) (by simp; omega) ?_
      intro v1 w1 hown hb1
      rw [← pad_take n hn k hlt] at hown
      have hb : Below w.heap.size w w1 := hb0.trans hb1
      have HH := Lib.hid (And.intro hown hb)
      clear hb0 hb1 hown hb HO HB hsh
      go_simp
      go_wp2_with fail
      go_roundw
      case rel => exact ⟨k + 1, by omega, by go_num, HH.out.1, HH.out.2⟩
      case measure => simp [intOf]; omega
    · obtain rfl : k = 8 := by omega
      have hl := pad_length n hn
      have hown := HO.out
      rw [List.take_of_length_le (by omega)] at hown
      obtain ⟨A1, c1, e, hc, _⟩ := own_form hown
      injection e with e1 _ e2
      subst e1 e2
      have HH := Lib.hid (Rd.of_own hown)
      clear hown hl HO
      go_wp2_with fail
      go_ret
      exact ⟨A0, 8, c0, rfl, HH.out, hc, HB.out⟩

theorem pad_drop (n : Nat) : (pad n).drop (8 - (Tlv.num n).length) = Tlv.num n := by
  unfold pad
  rw [List.drop_append, List.length_replicate, Nat.sub_self, List.drop_of_length_le (by simp)]
  rfl
theorem pad_zero (n : Nat) (j : Nat) (hj : j < 8 - (Tlv.num n).length) : ((pad n).drop j).head? = some 0 := by
  unfold pad
  rw [List.head?_drop, List.getElem?_append_left (by rw [List.length_replicate]; exact hj), List.getElem?_replicate, if_pos hj]

/-- What is left behind a cut in front. -/
theorem Rd.cut {w : World} {B b o n c : Nat} {bs : List UInt8} (h : Rd w B (some ⟨b, o, none⟩) n bs) (k : Nat) (hk : k ≤ n) (hc : n ≤ c) (A' : Option Addr) (hA : k < c → A' = some ⟨b, o + k, none⟩) : Rd w B A' (n - k) (bs.drop k) := by
  rcases Nat.eq_zero_or_pos (n - k) with h0 | h0
  · rw [h0, List.drop_of_length_le (by rw [h.len]; omega)]
    exact Rd.nil
  · rw [hA (by omega)]
    have := h.part k (n - k) (by omega)
    rwa [List.take_of_length_le (by rw [List.length_drop, h.len]; omega)] at this

def StripRel (n : Nat) (w : World) (v : Value) : Prop :=
  ∃ A m c j, v = .slice A m c ∧ m ≤ c ∧ m ≤ 8 ∧ Rd w w.heap.size A m ((pad n).drop j) ∧ j ≤ 8 - (Tlv.num n).length

def lenOf : Value → Nat
  | .slice _ n _ => n
  | _ => 0
end Go.Proofs.YtolkpjbbfopmnaaDoor.Tl
