/-
  What tlv.Value and the document's Value, Eight and Num return; conditions: what is handed over is read, a number has 64 bits. They only make memory of their own.
-/
import Derived.Test.YtjepbnhlnomhlaaDoorNum
import Derived.Laws.BitsAllLaws
namespace Go.Proofs.YtjepbnhlnomhlaaDoor
open Go.RowKit

/-- Are the bytes right as a number? -/
def okv (bs : List UInt8) : Prop := bs.length ≤ 8 ∧ bs.head? ≠ some 0
theorem okv_num (n : Nat) (h : n < 18446744073709551616) : okv (Tlv.num n) := ⟨Tlv.num_len8 n h, Tlv.num_head n⟩
theorem val_small (bs : List UInt8) (k : Nat) (hk : k < bs.length) (h8 : bs.length ≤ 8) : Tlv.val (bs.take k) ≤ 72057594037927935 := by
  have h1 := Tlv.val_lt (bs.take k)
  have h2 : (bs.take k).length ≤ 7 := by rw [List.length_take]; omega
  have h3 : 256 ^ (bs.take k).length ≤ 256 ^ 7 := Nat.pow_le_pow_right (by omega) h2
  rw [show (256 : Nat) ^ 7 = 72057594037927936 from rfl] at h3
  omega
theorem val_take (bs : List UInt8) (k : Nat) (x : UInt8) (hx : bs[k]? = some x) : Tlv.val (bs.take (k + 1)) = Tlv.val (bs.take k) * 256 + x.toNat := by
  rw [List.take_add_one, hx]
  exact Tlv.val_snoc _ _
theorem or_u64 (M : Nat) (x : UInt8) (hM : M ≤ 72057594037927935) : bits .or .u64 ((M : Int) * 256) (x.toNat : Int) = ((M * 256 + x.toNat : Nat) : Int) := by
  have hx := x.toNat_lt
  have h := u64_or_nat (M * 256) x.toNat (by omega) (by omega)
  rw [Tlv.or_byte M x.toNat (by omega)] at h
  rw [← h]
  rfl

theorem head_at {w : World} {B : Nat} {A : Option Addr} {n : Nat} {bs : List UInt8} (h : Rd w B A n bs) (hn : 0 < n) : ∃ b o x, A = some ⟨b, o, none⟩ ∧ bs.head? = some x ∧ w.cell? ⟨b, o, none⟩ = some (.int .u8 x.toNat) := by
  obtain ⟨b, o, e, _, hc⟩ := h.at_ hn
  have hl := h.len
  match bs, hl with
  | [], hl => simp at hl; omega
  | x :: r, _ => exact ⟨b, o, x, e, rfl, hc 0 x rfl⟩

end Go.Proofs.YtjepbnhlnomhlaaDoor
