/-
  What the document's Parse returns: the fields of the bytes, or the error's number; conditions: the bytes are read, no more than a million.
-/
import Derived.Test.YtemagoacjpilaaaParse
namespace Go.Proofs.Ytemagoacjpilaaa
open Go.RowKit

def lastOf (acc : List (UInt8 × List UInt8)) : Int := match acc.getLast? with
  | none => -1
  | some f => f.1.toNat
theorem last_bounds (acc : List (UInt8 × List UInt8)) : -1 ≤ lastOf acc ∧ lastOf acc ≤ 255 := by
  unfold lastOf
  split
  · omega
  · rename_i f _
    have := f.1.toNat_lt
    omega
theorem last_rises (acc : List (UInt8 × List UInt8)) (t : UInt8) : Tlv.rises acc t = decide (lastOf acc < (t.toNat : Int)) := by
  unfold lastOf Tlv.rises
  cases acc.getLast? with
  | none => simp; omega
  | some f => rw [Bool.eq_iff_iff]; simp
theorem last_snoc (acc : List (UInt8 × List UInt8)) (t : UInt8) (v : List UInt8) : lastOf (acc ++ [(t, v)]) = t.toNat := by
  simp [lastOf]

def QRel (G : Nat → Prop) (B : Nat) (w : World) (R : Nat × List (UInt8 × List UInt8)) (L : Nat) (b f z : Value) (wx : World) : Prop :=
  ∃ (A : Option Addr) (n c : Nat) (rest : List UInt8) (acc : List (UInt8 × List UInt8)) (xs : List Value) (k : Nat),
    b = .slice A n c ∧ n ≤ c ∧ z = .int .i64 (lastOf acc) ∧ Rd w B A n rest ∧ acc.length = k ∧ wx.ownsRow w.heap.size 54 2 f k xs ∧ FCells G wx f.ownBlock xs acc ∧ Tlv.prs acc rest = R ∧ k + n ≤ L ∧ Below w.heap.size w wx

theorem rd_bg {G : Nat → Prop} {w : World} {B n : Nat} {A : Option Addr} {bs : List UInt8} (h : Rd w B A n bs) (hG : ∀ b, b < B → G b) : BG G A n := fun hn b o e => by
  obtain ⟨b', o', e', hb, _⟩ := h.2 hn
  rw [e'] at e
  injection e with e
  injection e with e1 _
  subst e1
  exact hG _ hb

set_option maxRecDepth 100000 in
set_option maxHeartbeats 1000000 in
theorem refParse_any {G : Nat → Prop} {B : Nat} (A : Option Addr) (n c : Nat) (bs : List UInt8) (w : World) (hr : Rd w B A n bs) (hnc : n ≤ c) (hn : n ≤ 1000000) (hB : B ≤ w.heap.size) (hG : ∀ b, b < B → G b) :
    Calls Try.prog 21 #[.slice A n c] w (FieldsPost G w (Tlv.parse bs)) := by
  obtain ⟨R, hR⟩ : ∃ R, Tlv.parse bs = R := ⟨_, rfl⟩
  rw [hR]
  have hs : QRel G B w R n (.slice A n c) (.slice none 0 0) (.int .i64 (-1)) w := ⟨A, n, c, bs, [], [], 0, rfl, hnc, rfl, hr, rfl, World.ownsRow_nil _ _ _ _, FCells.nil, hR, by omega, Below.refl _ _⟩
  have HS := Lib.hid hs
  clear hs hR hr
  go_enter Try.func21, Try.ntmps21
  go_wp2_with fail
  go_loopw [0, 4, 5] (fun b f z wx => QRel G B w R n b f z wx) (fun b _ _ _ => lenOf b)
  case atStart => exact HS.out
  case round =>
    clear HS hnc
    obtain ⟨A0, m, c0, rest, acc, xs, k, rfl, hmc, rfl, hr0, hk, hown, hcl, hprs, hkm, hbl⟩ := hrel
    obtain ⟨A4, c4, rfl, hc4, hm4⟩ := own_form hown
    have HR0 := Lib.hid hr0
    have HK := Lib.hid hk
    have HO := Lib.hid hown
    have HC := Lib.hid hcl
    have HP := Lib.hid hprs
    have HB := Lib.hid hbl
    have HL := Lib.hid (last_rises acc)
    obtain ⟨hl1, hl2⟩ := last_bounds acc
    generalize lastOf acc = z at *
    clear hr0 hk hown hcl hprs hbl
    rcases Nat.eq_zero_or_pos m with h0 | h0
    · subst h0
      obtain rfl : rest = [] := List.eq_nil_of_length_eq_zero HR0.out.len
      go_wp2_with fail
      go_ret2
      obtain rfl : (0, acc) = R := HP.out
      exact ⟨A4, k, c4, rfl, HC.out.rd HO.out, hc4, HB.out⟩
    · obtain ⟨b, o, t, rfl, hx, hc⟩ := head_at HR0.out h0
      obtain ⟨rest', rfl⟩ : ∃ r, rest = t :: r := by
        cases rest with
        | nil => simp at hx
        | cons a l => simp at hx; subst hx; exact ⟨l, rfl⟩
      have hc' : wr.cell? ⟨b, o, none⟩ = some (.int .u8 t.toNat) := by
        obtain ⟨b', o', e, hlt, _⟩ := HR0.out.at_ h0
        injection e with e
        injection e with e1 e2
        subst e1 e2
        exact (HB.out.cell (p := ⟨b, o, none⟩) (Nat.lt_of_lt_of_le hlt hB)).trans hc
      clear hx hc
      have i0 : (1 : Int) ≤ (m : Int) := by omega
      have ht8 := t.toNat_lt
      obtain ⟨A', hif⟩ : ∃ A' : Option Addr, (if c0 = 1 then some (⟨b, o, none⟩ : Addr) else some ⟨b, o + 1, none⟩) = A' := ⟨_, rfl⟩
      have HCUT : Hid (Rd wr B A' (m - 1) rest') := Lib.hid
        ((HR0.out.cut 1 (by omega) hmc A' (fun h => by rw [← hif, if_neg (by omega)])).below HB.out hB)
      cases hp : Tlv.piece rest' with
      | none =>
        have HPP := Lib.hid hp
        clear hp
        go_wp2_with fail
        refine (piece_none A' (m - 1) (c0 - 1) rest' wr _ HCUT.out (by omega) (by omega) HPP.out).mono ?_
        rintro e w1 ⟨j, rfl, rfl⟩
        go_wp2_with fail
        go_ret2
        obtain rfl : (4, []) = R := by rw [← HP.out, Tlv.prs_short _ _ _ HPP.out]
        exact ⟨none, 0, 0, rfl, FRd.nil, Nat.le_refl _, below_drewN HB.out _⟩
      | some p =>
        obtain ⟨v, q⟩ := p
        have HPP := Lib.hid hp
        clear hp
        go_wp2_with fail
        refine (piece_some A' (m - 1) (c0 - 1) rest' v q wr _ HCUT.out (by omega) (by omega) HPP.out).mono ?_
        rintro e w1 ⟨j, A1, n1, c1, A2, n2, c2, rfl, hr1, hnc1, hr2, hnc2, rfl⟩
        have hless := Tlv.piece_less HPP.out
        rw [HCUT.out.len, hr2.len] at hless
        have hn1 : n1 ≤ 65535 := by rw [← hr1.len]; exact (Tlv.piece_some HPP.out).2
        have HR1 := Lib.hid hr1
        have HR2 := Lib.hid hr2
        clear hif hc' hr1 hr2
        rcases Nat.eq_zero_or_pos n1 with h1 | h1
        · subst h1
          obtain rfl : v = [] := List.eq_nil_of_length_eq_zero HR1.out.len
          go_wp2_with fail
          go_ret2
          obtain rfl : (6, []) = R := by rw [← HP.out, Tlv.prs_empty _ _ _ _ HPP.out]
          exact ⟨none, 0, 0, rfl, FRd.nil, Nat.le_refl _, below_drewN HB.out _⟩
        · have hv : v ≠ [] := fun e => by have := HR1.out.len; rw [e] at this; simp at this; omega
          have HV := Lib.hid hv
          clear hv
          have z1 : ((n1 : Int) == 0) = false := by simp; omega
          by_cases hlt : z < (t.toNat : Int)
          · have q6 : decide ((t.toNat : Int) ≤ z) = false := by simp; omega
            go_upto_region 12 with (fail)
            refine wp_region_lit ?_
            iterate 18 go_step
            have hown2 : (wr.drewN j).ownsRow w.heap.size 54 2 (Value.slice A4 k c4) k xs := HO.out
            have hcl2 : FCells G (wr.drewN j) (Value.slice A4 k c4).ownBlock xs acc := HC.out
            have hr1' : Rd (wr.drewN j) w.heap.size A1 n1 v := HR1.out.more hB
            have hbg : BG G A1 n1 := rd_bg HR1.out hG
            have hbw2 : Below w.heap.size w (wr.drewN j) := below_drewN HB.out j
            have hx3 := rdx_old hown2 hr1' hbw2.size
            have hws2 : w.heap.size ≤ (wr.drewN j).heap.size := hbw2.size
            refine wpList_append_one rfl (.tmp 32) (.tmp 37) 50 54 _ 2 32 rfl Try.underlying50 info39 rfl (by omega) w.heap.size _ k xs rfl #[.int .u8 t.toNat, .slice A1 n1 c1] rfl hown2 rfl (by simp [Value.oneCell']) (by unfold maxLen; omega) (by omega) hws2 ?_
            intro v5 w5 hown5 hg5 hat5
            have hcl5 := fcells_step hcl2 (t, v) A1 n1 c1 hnc1 (by omega) hx3 hbg _ hg5 hat5
            have hbw5 : Below w.heap.size w w5 := (hbw2.alloc hws2 _).grown hg5 (by rw [size_alloc]; omega) (fun i hi => (hown2.lt i hi).1)
            have HN := Lib.hid (And.intro hown5 (And.intro hcl5 hbw5))
            clear hown5 hg5 hat5 hcl2 hown2 hx3 hbw2 hcl5 hbw5 hr1'
            go_simp
            go_wp2_with fail
            go_roundw
            case rel =>
              exact ⟨A2, n2, c2, q, acc ++ [(t, v)], _, k + 1, rfl, hnc2, by rw [last_snoc], HR2.out.back HB.out hB, by rw [List.length_append, HK.out]; rfl, HN.out.1, HN.out.2.1, by rw [← HP.out, Tlv.prs_next _ _ _ _ _ HPP.out HV.out (by rw [HL.out]; simpa using hlt)], by omega, HN.out.2.2⟩
            case measure => simp [lenOf]; omega
          · have q6 : decide ((t.toNat : Int) ≤ z) = true := by simp; omega
            go_wp2_with fail
            go_ret2
            obtain rfl : (5, []) = R := by rw [← HP.out, Tlv.prs_order _ _ _ _ _ HPP.out HV.out (by rw [HL.out]; simpa using hlt)]
            exact ⟨none, 0, 0, rfl, FRd.nil, Nat.le_refl _, below_drewN HB.out _⟩
end Go.Proofs.Ytemagoacjpilaaa
