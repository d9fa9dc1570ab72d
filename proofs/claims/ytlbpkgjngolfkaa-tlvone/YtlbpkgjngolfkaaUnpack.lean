/-
  What tlv.Unpack and the document's Unpack return: the pieces of the bytes, or the error's number; conditions: the bytes are read, no more than a million.
-/
import Derived.Test.YtlbpkgjngolfkaaFields
namespace Go.Proofs.Ytlbpkgjngolfkaa
open Go.RowKit

def ListsPost (w : World) (r : Nat × List (List UInt8)) (e : Ending) (w' : World) : Prop :=
  ∃ A n c, e = .returned (.tuple #[.slice A n c, .int .i64 r.1]) ∧ LRd w' w'.heap.size A n r.2 ∧ n ≤ c ∧ Below w.heap.size w w'

/-- How it stands: what is left of the bytes, and the pieces so far. -/
def URel (w : World) (R : Nat × List (List UInt8)) (L : Nat) (b f : Value) (wx : World) : Prop :=
  ∃ (A : Option Addr) (n c : Nat) (rest : List UInt8) (acc : List (List UInt8)) (xs : List Value) (k : Nat),
    b = .slice A n c ∧ n ≤ c ∧ Rd w w.heap.size A n rest ∧ acc.length = k ∧ wx.ownsRow w.heap.size 22 1 f k xs ∧ LCells wx f.ownBlock xs acc ∧ Tlv.upk acc rest = R ∧ k + n ≤ L ∧ Below w.heap.size w wx

set_option maxRecDepth 100000 in
set_option maxHeartbeats 1000000 in
theorem unpack_any (A : Option Addr) (n c : Nat) (bs : List UInt8) (w : World) (hr : Rd w w.heap.size A n bs) (hnc : n ≤ c) (hn : n ≤ 1000000) :
    Calls Try.prog 22 #[.slice A n c] w (ListsPost w (Tlv.unpack bs)) := by
  obtain ⟨R, hR⟩ : ∃ R, Tlv.unpack bs = R := ⟨_, rfl⟩
  rw [hR]
  have hs : URel w R n (.slice A n c) (.slice none 0 0) w := ⟨A, n, c, bs, [], [], 0, rfl, hnc, hr, rfl, World.ownsRow_nil _ _ _ _, LCells.nil, hR, by omega, Below.refl _ _⟩
  have HS := Lib.hid hs
  clear hs hR hr
  go_enter Try.func22, Try.ntmps22
  go_wp2_with fail
  go_loopw [0, 4] (fun b f wx => URel w R n b f wx) (fun b _ _ => lenOf b)
  case atStart => exact HS.out
  case round =>
    clear HS hnc
    obtain ⟨A0, m, c0, rest, acc, xs, k, rfl, hmc, hr0, hk, hown, hcl, hprs, hkm, hbl⟩ := hrel
    obtain ⟨A4, c4, rfl, hc4, hm4⟩ := own_form hown
    have HR0 := Lib.hid hr0
    have HK := Lib.hid hk
    have HO := Lib.hid hown
    have HC := Lib.hid hcl
    have HP := Lib.hid hprs
    have HB := Lib.hid hbl
    clear hr0 hk hown hcl hprs hbl
    rcases Nat.eq_zero_or_pos m with h0 | h0
    · subst h0
      obtain rfl : rest = [] := List.eq_nil_of_length_eq_zero HR0.out.len
      go_wp2_with fail
      go_ret2
      obtain rfl : (0, acc) = R := HP.out
      exact ⟨A4, k, c4, rfl, HC.out.rd HO.out, hc4, HB.out⟩
    · have hne : rest ≠ [] := fun e => by have := HR0.out.len; rw [e] at this; simp at this; omega
      have HNE := Lib.hid hne
      have HCUT : Hid (Rd wr w.heap.size A0 m rest) := Lib.hid (HR0.out.below HB.out (Nat.le_refl _))
      clear hne
      have q0 : decide (0 < (m : Int)) = true := by simp; omega
      cases hp : Tlv.piece rest with
      | none =>
        have HPP := Lib.hid hp
        clear hp
        go_wp2_with fail
        refine (cut_none A0 m c0 rest wr _ HCUT.out hmc (by omega) HPP.out).mono ?_
        rintro e w1 ⟨j, rfl, rfl⟩
        go_wp2_with fail
        go_ret2
        obtain rfl : (4, []) = R := by rw [← HP.out, Tlv.upk_short _ _ HNE.out HPP.out]
        exact ⟨none, 0, 0, rfl, LRd.nil, Nat.le_refl _, below_drewN HB.out _⟩
      | some p =>
        obtain ⟨v, q⟩ := p
        have HPP := Lib.hid hp
        clear hp
        go_wp2_with fail
        refine (cut_some A0 m c0 rest v q wr _ HCUT.out hmc (by omega) HPP.out).mono ?_
        rintro e w1 ⟨j, A1, n1, c1, A2, n2, c2, rfl, hr1, hnc1, hr2, hnc2, rfl⟩
        have hless := Tlv.piece_less HPP.out
        rw [HCUT.out.len, hr2.len] at hless
        have hn1 : n1 ≤ 65535 := by rw [← hr1.len]; exact (Tlv.piece_some HPP.out).2
        have HR1 := Lib.hid hr1
        have HR2 := Lib.hid hr2
        clear hr1 hr2
        go_upto_region 6 with (fail)
        refine wp_region_lit ?_
        iterate 8 go_step
        have hr1' : Rd (wr.drewN j) (wr.drewN j).heap.size A1 n1 v := HR1.out.more HB.out.size
        refine (clone_new A1 n1 c1 v (wr.drewN j) hr1' (by omega)).mono ?_
        rintro e w2 ⟨A3, n3, c3, rfl, hr3, hnc3, hnew, hb2⟩
        have hcl2 : LCells (wr.drewN j) (Value.slice A4 k c4).ownBlock xs acc := HC.out
        have hown2 : (wr.drewN j).ownsRow w.heap.size 22 1 (Value.slice A4 k c4) k xs := HO.out
        have hx3 := rdx_new hown2 hr3 hnew
        have hn3 : n3 ≤ 9223372036854775807 := by rw [← hr3.len, HR1.out.len]; omega
        have hbw2 : Below w.heap.size w w2 := (below_drewN HB.out j).trans (hb2.mono HB.out.size)
        have HH := Lib.hid (And.intro (hcl2.below hb2) (And.intro (own_below hown2 hb2) (And.intro hx3 hbw2)))
        have hws2 : w.heap.size ≤ w2.heap.size := hbw2.size
        clear hr1' hr3 hnew hb2 hcl2 hown2 hx3 hbw2
        simp only []
        iterate 4 go_step
        refine wpList_append_one rfl (.tmp 19) (.tmp 22) 41 22 _ 1 24 rfl Try.underlying41 info22 rfl (by omega) w.heap.size _ k xs rfl #[.slice A3 n3 c3] rfl HH.out.2.1 rfl (by simp [Value.oneCell']) (by unfold maxLen; omega) (by omega) hws2 ?_
        intro v5 w5 hown5 hg5 hat5
        obtain ⟨hcl2, hown2, hx3, hbw2⟩ := HH.out
        have hcl5 := lcells_step hcl2 v A3 n3 c3 hnc3 hn3 hx3 _ hg5 hat5
        have hbw5 : Below w.heap.size w w5 := (hbw2.alloc hws2 _).grown hg5 (by rw [size_alloc]; omega) (fun i hi => (hown2.lt i hi).1)
        have HN := Lib.hid (And.intro hown5 (And.intro hcl5 hbw5))
        clear hown5 hg5 hat5 hcl2 hown2 hx3 hbw2 hcl5 hbw5 HH
        go_simp
        go_wp2_with fail
        go_roundw
        case rel =>
          exact ⟨A2, n2, c2, q, acc ++ [v], _, k + 1, rfl, hnc2, HR2.out.back HB.out (Nat.le_refl _), by rw [List.length_append, HK.out]; rfl, HN.out.1, HN.out.2.1, by rw [← HP.out, Tlv.upk_next _ _ _ _ HPP.out], by omega, HN.out.2.2⟩
        case measure => simp [lenOf]; omega

set_option maxRecDepth 100000 in
set_option maxHeartbeats 1000000 in
theorem refUnpack_any (A : Option Addr) (n c : Nat) (bs : List UInt8) (w : World) (hr : Rd w w.heap.size A n bs) (hnc : n ≤ c) (hn : n ≤ 1000000) :
    Calls Try.prog 25 #[.slice A n c] w (ListsPost w (Tlv.unpack bs)) := by
  obtain ⟨R, hR⟩ : ∃ R, Tlv.unpack bs = R := ⟨_, rfl⟩
  rw [hR]
  have hs : URel w R n (.slice A n c) (.slice none 0 0) w := ⟨A, n, c, bs, [], [], 0, rfl, hnc, hr, rfl, World.ownsRow_nil _ _ _ _, LCells.nil, hR, by omega, Below.refl _ _⟩
  have HS := Lib.hid hs
  clear hs hR hr
  go_enter Try.func25, Try.ntmps25
  go_wp2_with fail
  go_loopw [0, 4] (fun b f wx => URel w R n b f wx) (fun b _ _ => lenOf b)
  case atStart => exact HS.out
  case round =>
    clear HS hnc
    obtain ⟨A0, m, c0, rest, acc, xs, k, rfl, hmc, hr0, hk, hown, hcl, hprs, hkm, hbl⟩ := hrel
    obtain ⟨A4, c4, rfl, hc4, hm4⟩ := own_form hown
    have HR0 := Lib.hid hr0
    have HK := Lib.hid hk
    have HO := Lib.hid hown
    have HC := Lib.hid hcl
    have HP := Lib.hid hprs
    have HB := Lib.hid hbl
    clear hr0 hk hown hcl hprs hbl
    rcases Nat.eq_zero_or_pos m with h0 | h0
    · subst h0
      obtain rfl : rest = [] := List.eq_nil_of_length_eq_zero HR0.out.len
      go_wp2_with fail
      go_ret2
      obtain rfl : (0, acc) = R := HP.out
      exact ⟨A4, k, c4, rfl, HC.out.rd HO.out, hc4, HB.out⟩
    · have hne : rest ≠ [] := fun e => by have := HR0.out.len; rw [e] at this; simp at this; omega
      have HNE := Lib.hid hne
      have HCUT : Hid (Rd wr w.heap.size A0 m rest) := Lib.hid (HR0.out.below HB.out (Nat.le_refl _))
      clear hne
      have q0 : decide (0 < (m : Int)) = true := by simp; omega
      cases hp : Tlv.piece rest with
      | none =>
        have HPP := Lib.hid hp
        clear hp
        go_wp2_with fail
        refine (piece_none A0 m c0 rest wr _ HCUT.out hmc (by omega) HPP.out).mono ?_
        rintro e w1 ⟨j, rfl, rfl⟩
        go_wp2_with fail
        go_ret2
        obtain rfl : (4, []) = R := by rw [← HP.out, Tlv.upk_short _ _ HNE.out HPP.out]
        exact ⟨none, 0, 0, rfl, LRd.nil, Nat.le_refl _, below_drewN HB.out _⟩
      | some p =>
        obtain ⟨v, q⟩ := p
        have HPP := Lib.hid hp
        clear hp
        go_wp2_with fail
        refine (piece_some A0 m c0 rest v q wr _ HCUT.out hmc (by omega) HPP.out).mono ?_
        rintro e w1 ⟨j, A1, n1, c1, A2, n2, c2, rfl, hr1, hnc1, hr2, hnc2, rfl⟩
        have hless := Tlv.piece_less HPP.out
        rw [HCUT.out.len, hr2.len] at hless
        have hn1 : n1 ≤ 65535 := by rw [← hr1.len]; exact (Tlv.piece_some HPP.out).2
        have HR1 := Lib.hid hr1
        have HR2 := Lib.hid hr2
        clear hr1 hr2
        go_upto_region 6 with (fail)
        refine wp_region_lit ?_
        iterate 9 go_step
        have hown2 : (wr.drewN j).ownsRow w.heap.size 22 1 (Value.slice A4 k c4) k xs := HO.out
        have hcl2 : LCells (wr.drewN j) (Value.slice A4 k c4).ownBlock xs acc := HC.out
        have hr1' : Rd (wr.drewN j) w.heap.size A1 n1 v := HR1.out
        have hbw2 : Below w.heap.size w (wr.drewN j) := below_drewN HB.out j
        have hx3 := rdx_old hown2 hr1' hbw2.size
        have hws2 : w.heap.size ≤ (wr.drewN j).heap.size := hbw2.size
        refine wpList_append_one rfl (.tmp 19) (.tmp 21) 41 22 _ 1 24 rfl Try.underlying41 info22 rfl (by omega) w.heap.size _ k xs rfl #[.slice A1 n1 c1] rfl hown2 rfl (by simp [Value.oneCell']) (by unfold maxLen; omega) (by omega) hws2 ?_
        intro v5 w5 hown5 hg5 hat5
        have hcl5 := lcells_step hcl2 v A1 n1 c1 hnc1 (by omega) hx3 _ hg5 hat5
        have hbw5 : Below w.heap.size w w5 := (hbw2.alloc hws2 _).grown hg5 (by rw [size_alloc]; omega) (fun i hi => (hown2.lt i hi).1)
        have HN := Lib.hid (And.intro hown5 (And.intro hcl5 hbw5))
        clear hown5 hg5 hat5 hcl2 hown2 hx3 hbw2 hcl5 hbw5 hr1'
        go_simp
        go_wp2_with fail
        go_roundw
        case rel =>
          exact ⟨A2, n2, c2, q, acc ++ [v], _, k + 1, rfl, hnc2, HR2.out.back HB.out (Nat.le_refl _), by rw [List.length_append, HK.out]; rfl, HN.out.1, HN.out.2.1, by rw [← HP.out, Tlv.upk_next _ _ _ _ HPP.out], by omega, HN.out.2.2⟩
        case measure => simp [lenOf]; omega
end Go.Proofs.Ytlbpkgjngolfkaa
