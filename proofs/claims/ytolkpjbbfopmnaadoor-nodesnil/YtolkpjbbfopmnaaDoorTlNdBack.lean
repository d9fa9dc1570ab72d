/-
  The node of a right node's bytes is that node: plain mathematics; conditions: the node may be, its key has from 1 to 96 bytes, an inner one's size isn't 0.
-/
import Derived.Test.YtolkpjbbfopmnaaDoorTlNdEnc
namespace Go.Proofs.YtolkpjbbfopmnaaDoor.Tl
open Tlv (Nd)

theorem okb_num (n : Nat) (h : n < 18446744073709551616) : Tlv.okb (Tlv.num n) = true := (Tlv.okb_iff _).2 ⟨Tlv.num_len8 n h, Tlv.num_head n⟩
theorem num_some (n : Nat) (h : n ≠ 0) : Tlv.num n ≠ [] := fun e => h ((Tlv.num_nil n).1 (by rw [e]; rfl))
theorem leaf_bytes {nd : Nd} (hh : nd.h = 0) : nd.bytes = nd.front := by
  unfold Nd.bytes
  rw [if_neg (by omega)]
  unfold Nd.mid
  rw [hh, show (0 : Int).toNat = 0 from rfl, Tlv.num_zero, Tlv.put_nil]
theorem say1 (n : Nd) (v : List UInt8) : Tlv.say n 1 v = (0, { n with key := v }) := rfl
theorem say2 (n : Nd) (v : List UInt8) : Tlv.say n 2 v = (0, { n with value := v }) := rfl
theorem say3 (n : Nd) (x : Nat) (hx : x ≤ 64) : Tlv.say n 3 (Tlv.num x) = (0, { n with h := (x : Int) }) := by
  unfold Tlv.say
  rw [if_neg (by decide), if_neg (by decide), if_pos rfl, if_pos (okb_num x (by omega)), Tlv.val_num, Nat.min_eq_left (by omega)]
theorem say4 (n : Nd) (x : Nat) (hx : x < 18446744073709551616) : Tlv.say n 4 (Tlv.num x) = (0, { n with z := x }) := by
  unfold Tlv.say
  rw [if_neg (by decide), if_neg (by decide), if_neg (by decide), if_pos rfl, if_pos (okb_num x hx), Tlv.val_num]
theorem say5 (n : Nd) (v : List UInt8) (hv : v.length = 32) : Tlv.say n 5 v = (0, { n with l := v }) := by
  unfold Tlv.say
  rw [if_neg (by decide), if_neg (by decide), if_neg (by decide), if_neg (by decide), if_pos rfl, if_pos hv]
theorem say6 (n : Nd) (v : List UInt8) (hv : v.length = 32) : Tlv.say n 6 v = (0, { n with r := v }) := by
  unfold Tlv.say
  rw [if_neg (by decide), if_neg (by decide), if_neg (by decide), if_neg (by decide), if_neg (by decide), if_pos rfl, if_pos hv]
theorem dec_of {nd : Nd} {fs : List (UInt8 × List UInt8)} (hb : nd.bytes = Tlv.body fs) (hf : Tlv.fine [] fs) (hs : Tlv.says Nd.one fs = (0, nd)) (he : Tlv.enc nd = (0, nd.bytes)) : Tlv.dec nd.bytes = (0, nd) := by
  have hp : Tlv.parse nd.bytes = (0, fs) := by rw [hb]; exact Tlv.parse_body fs hf
  unfold Tlv.dec
  rw [hp]
  simp only [hs, if_true]
  unfold Tlv.judge
  rw [he, if_pos rfl, if_pos rfl]
theorem dec_back {nd : Nd} (hk : 1 ≤ nd.key.length ∧ nd.key.length ≤ 96) (hm : nd.may = true) (hf : nd.fit) (hz : nd.z ≠ 0) : Tlv.dec nd.bytes = (0, nd) := by
  have he := enc_good (nd := nd) (by omega) hm
  obtain ⟨h0, h64, hv⟩ := may_bounds hm
  obtain ⟨key, value, h, z, l, r⟩ := nd
  obtain ⟨hl, hr, hzb⟩ := hf
  simp only at hk h0 h64 hv hl hr hzb hz
  have hkn : key ≠ [] := fun e => by rw [e] at hk; simp at hk
  have hb1 : Tlv.put [] 1 key = Tlv.body [(1, key)] := Tlv.put_body [] 1 key hkn
  rcases Int.lt_or_le 0 h with hp | hp
  · obtain ⟨H, rfl⟩ : ∃ H : Nat, h = H := ⟨h.toNat, by omega⟩
    have hvn : value = [] := by
      have := may_in (nd := ⟨key, value, H, z, l, r⟩) hp h64
      rw [hm] at this
      simp at this
      exact this
    subst hvn
    have hnh := num_some H (by omega)
    have hnz := num_some z hz
    have hln : l ≠ [] := fun e => by rw [e] at hl; simp at hl
    have hrn : r ≠ [] := fun e => by rw [e] at hr; simp at hr
    refine dec_of (fs := [(1, key), (3, Tlv.num H), (4, Tlv.num z), (5, l), (6, r)]) ?_ ?_ ?_ he
    · unfold Nd.bytes
      rw [if_pos hp]
      unfold Nd.whole Nd.mid Nd.front
      simp only [Int.toNat_natCast, Tlv.put_nil]
      rw [hb1, Tlv.put_body _ _ _ hnh, Tlv.put_body _ _ _ hnz, Tlv.put_body _ _ _ hln, Tlv.put_body _ _ _ hrn]
      rfl
    · have l3 := Tlv.num_len8 H (by omega)
      have l4 := Tlv.num_len8 z hzb
      simp [Tlv.fine, Tlv.rises, hkn, hnh, hnz, hln, hrn, hl, hr]
      omega
    · have s1 := say1 Nd.one key
      rw [Tlv.says_go (by rw [s1]), s1, Tlv.says_go (by rw [say3 _ H (by omega)]), say3 _ H (by omega), Tlv.says_go (by rw [say4 _ z hzb]), say4 _ z hzb, Tlv.says_go (by rw [say5 _ l hl]), say5 _ l hl, Tlv.says_go (by rw [say6 _ r hr]), say6 _ r hr]
      rfl
  · obtain rfl : h = 0 := by omega
    have hleaf := may_leaf (nd := ⟨key, value, 0, z, l, r⟩) rfl
    rw [hm] at hleaf
    simp at hleaf
    obtain ⟨⟨-, hz1⟩, hl1, hr1⟩ := hleaf
    subst hz1 hl1 hr1
    by_cases hvn : value = []
    · subst hvn
      refine dec_of (fs := [(1, key)]) ?_ ?_ ?_ he
      · rw [leaf_bytes rfl]; unfold Nd.front; simp only [Tlv.put_nil]; exact hb1
      · simp [Tlv.fine, Tlv.rises, hkn]; omega
      · rw [Tlv.says_go (by rw [say1]), say1]; rfl
    · refine dec_of (fs := [(1, key), (2, value)]) ?_ ?_ ?_ he
      · rw [leaf_bytes rfl]; unfold Nd.front; rw [hb1, Tlv.put_body _ _ _ hvn]; rfl
      · simp [Tlv.fine, Tlv.rises, hkn, hvn]; omega
      · rw [Tlv.says_go (by rw [say1]), say1, Tlv.says_go (by rw [say2]), say2]; rfl
end Go.Proofs.YtolkpjbbfopmnaaDoor.Tl
