/-
  What tlv.Parse returns: the fields of the bytes, in new memory, or the error's number; conditions: the bytes are read, no more than a million.
-/
import Derived.Test.YtolkpjbbfopmnaaDoorTlFields
namespace Go.Proofs.YtolkpjbbfopmnaaDoor.Tl
open Go.RowKit

def FieldsPost (G : Nat → Prop) (w : World) (r : Nat × List (UInt8 × List UInt8)) (e : Ending) (w' : World) : Prop :=
  ∃ A n c, e = .returned (.tuple #[.slice A n c, .int .i64 r.1]) ∧ FRd G w' w'.heap.size A n r.2 ∧ n ≤ c ∧ Below w.heap.size w w'

/-- How it stands: what is left of the bytes, and the fields so far. -/
def PRel (G : Nat → Prop) (w : World) (R : Nat × List (UInt8 × List UInt8)) (L : Nat) (b f : Value) (wx : World) : Prop :=
  ∃ (A : Option Addr) (n c : Nat) (rest : List UInt8) (acc : List (UInt8 × List UInt8)) (xs : List Value) (k : Nat),
    b = .slice A n c ∧ n ≤ c ∧ Rd w w.heap.size A n rest ∧ acc.length = k ∧ wx.ownsRow w.heap.size 102 2 f k xs ∧ FCells G wx f.ownBlock xs acc ∧ Tlv.prs acc rest = R ∧ k + n ≤ L ∧ Below w.heap.size w wx

theorem rises_nil (t : UInt8) : Tlv.rises [] t = true := rfl
theorem rises_snoc (l : List (UInt8 × List UInt8)) (f : UInt8 × List UInt8) (t : UInt8) : Tlv.rises (l ++ [f]) t = decide (f.1.toNat < t.toNat) := by
  simp [Tlv.rises]

set_option maxRecDepth 100000 in
set_option maxHeartbeats 1000000 in
theorem parse_any {G : Nat → Prop} (A : Option Addr) (n c : Nat) (bs : List UInt8) (w : World) (hr : Rd w w.heap.size A n bs) (hnc : n ≤ c) (hn : n ≤ 1000000) (hG : ∀ b, w.heap.size ≤ b → G b) :
    Calls Tryd.prog 49 #[.slice A n c] w (FieldsPost G w (Tlv.parse bs)) := by
  obtain ⟨R, hR⟩ : ∃ R, Tlv.parse bs = R := ⟨_, rfl⟩
  rw [hR]
  have hs : PRel G w R n (.slice A n c) (.slice none 0 0) w := ⟨A, n, c, bs, [], [], 0, rfl, hnc, hr, rfl, World.ownsRow_nil _ _ _ _, FCells.nil, hR, by omega, Below.refl _ _⟩
  have HS := Lib.hid hs
  clear hs hR hr
  go_enter Tryd.func49, Tryd.ntmps49
  go_wp2_with fail
  go_loopw [0, 4] (fun b f wx => PRel G w R n b f wx) (fun b _ _ => lenOf b)
  case atStart => exact HS.out
  case round =>
    clear HS hnc
    obtain ⟨A0, m, c0, rest, acc, xs, k, rfl, hmc, hr0, hk, hown, hcl, hprs, hkm, hbl⟩ := hrel
    obtain ⟨A4, c4, rfl, hc4, hm4⟩ := own_form hown
    have HR0 := Lib.hid hr0
    have HK := Lib.hid hk
    have HO := Lib.hid hown
    have HC := Lib.hid hcl
    have HP := Lib.hid hprs
    have HB := Lib.hid hbl
    clear hr0 hk hown hcl hprs hbl
    rcases Nat.eq_zero_or_pos m with h0 | h0
    · subst h0
      obtain rfl : rest = [] := List.eq_nil_of_length_eq_zero HR0.out.len
      go_wp2_with fail
      go_ret2
      obtain rfl : (0, acc) = R := HP.out
      exact ⟨A4, k, c4, rfl, HC.out.rd HO.out, hc4, HB.out⟩
    · obtain ⟨b, o, t, rfl, hx, hc⟩ := head_at HR0.out h0
      obtain ⟨rest', rfl⟩ : ∃ r, rest = t :: r := by
        cases rest with
        | nil => simp at hx
        | cons a l => simp at hx; subst hx; exact ⟨l, rfl⟩
      have hc' : wr.cell? ⟨b, o, none⟩ = some (.int .u8 t.toNat) := by
        obtain ⟨b', o', e, hlt, _⟩ := HR0.out.at_ h0
        injection e with e
        injection e with e1 e2
        subst e1 e2
        exact (HB.out.cell (p := ⟨b, o, none⟩) hlt).trans hc
      clear hx hc
      have i0 : (1 : Int) ≤ (m : Int) := by omega
      obtain ⟨A', hif⟩ : ∃ A' : Option Addr, (if c0 = 1 then some (⟨b, o, none⟩ : Addr) else some ⟨b, o + 1, none⟩) = A' := ⟨_, rfl⟩
      have HCUT : Hid (Rd wr w.heap.size A' (m - 1) rest') := Lib.hid
        ((HR0.out.cut 1 (by omega) hmc A' (fun h => by rw [← hif, if_neg (by omega)])).below HB.out (Nat.le_refl _))
      cases hp : Tlv.piece rest' with
      | none =>
        have HPP := Lib.hid hp
        clear hp
        go_wp2_with fail
        refine (cut_none A' (m - 1) (c0 - 1) rest' wr _ HCUT.out (by omega) (by omega) HPP.out).mono ?_
        rintro e w1 ⟨j, rfl, rfl⟩
        go_wp2_with fail
        go_ret2
        obtain rfl : (4, []) = R := by rw [← HP.out, Tlv.prs_short _ _ _ HPP.out]
        exact ⟨none, 0, 0, rfl, FRd.nil, Nat.le_refl _, below_drewN HB.out _⟩
      | some p =>
        obtain ⟨v, q⟩ := p
        have HPP := Lib.hid hp
        clear hp
        go_wp2_with fail
        refine (cut_some A' (m - 1) (c0 - 1) rest' v q wr _ HCUT.out (by omega) (by omega) HPP.out).mono ?_
        rintro e w1 ⟨j, A1, n1, c1, A2, n2, c2, rfl, hr1, hnc1, hr2, hnc2, rfl⟩
        have hless := Tlv.piece_less HPP.out
        rw [HCUT.out.len, hr2.len] at hless
        have hn1 : n1 ≤ 65535 := by rw [← hr1.len]; exact (Tlv.piece_some HPP.out).2
        have HR1 := Lib.hid hr1
        have HR2 := Lib.hid hr2
        clear hif hc' hr1 hr2
        rcases Nat.eq_zero_or_pos n1 with h1 | h1
        · subst h1
          obtain rfl : v = [] := List.eq_nil_of_length_eq_zero HR1.out.len
          go_wp2_with fail
          go_ret2
          obtain rfl : (6, []) = R := by rw [← HP.out, Tlv.prs_empty _ _ _ _ HPP.out]
          exact ⟨none, 0, 0, rfl, FRd.nil, Nat.le_refl _, below_drewN HB.out _⟩
        · have hv : v ≠ [] := fun e => by have := HR1.out.len; rw [e] at this; simp at this; omega
          have HV := Lib.hid hv
          clear hv
          have z1 : ((n1 : Int) == 0) = false := by simp; omega
          rcases List.eq_nil_or_concat acc with rfl | ⟨l, f, hlf⟩
          · obtain rfl : k = 0 := HK.out.symm
            go_upto_region 12 with (fail)
            refine wp_region_lit ?_
            iterate 11 go_step
            have hr1' : Rd (wr.drewN j) (wr.drewN j).heap.size A1 n1 v := HR1.out.more HB.out.size
            refine (clone_new A1 n1 c1 v (wr.drewN j) hr1' (by omega)).mono ?_
            rintro e w2 ⟨A3, n3, c3, rfl, hr3, hnc3, hnew, hb2⟩
            have hcl2 : FCells G (wr.drewN j) (Value.slice A4 0 c4).ownBlock xs [] := HC.out
            have hown2 : (wr.drewN j).ownsRow w.heap.size 102 2 (Value.slice A4 0 c4) 0 xs := HO.out
            have hbg : BG G A3 n3 := fun _ b o e => hG b (Nat.le_trans HB.out.size (hnew b o e).1)
            have hx3 := rdx_new hown2 hr3 (fun b o e => (hnew b o e).1)
            have hn3 : n3 ≤ 9223372036854775807 := by rw [← hr3.len, HR1.out.len]; omega
            have hbw2 : Below w.heap.size w w2 := (below_drewN HB.out j).trans (hb2.mono HB.out.size)
            have HH := Lib.hid (And.intro (hcl2.below hb2) (And.intro (own_below hown2 hb2) (And.intro hx3 hbw2)))
            have hws2 : w.heap.size ≤ w2.heap.size := hbw2.size
            clear hr1' hr3 hnew hb2 hcl2 hown2 hx3 hbw2
            simp only []
            iterate 7 go_step
            refine wpList_append_one rfl (.tmp 42) (.tmp 47) 98 102 _ 2 32 rfl Tryd.underlying98 info39 rfl (by omega) w.heap.size _ 0 xs rfl #[.int .u8 t.toNat, .slice A3 n3 c3] rfl HH.out.2.1 rfl (by simp [Value.oneCell']) (by unfold maxLen; omega) (by omega) hws2 ?_
            intro v5 w5 hown5 hg5 hat5
            obtain ⟨hcl2, hown2, hx3, hbw2⟩ := HH.out
            have hcl5 := fcells_step hcl2 (t, v) A3 n3 c3 hnc3 hn3 hx3 hbg _ hg5 hat5
            have hbw5 : Below w.heap.size w w5 := (hbw2.alloc hws2 _).grown hg5 (by rw [size_alloc]; omega) (fun i hi => (hown2.lt i hi).1)
            have HN := Lib.hid (And.intro hown5 (And.intro hcl5 hbw5))
            clear hown5 hg5 hat5 hcl2 hown2 hx3 hbw2 hcl5 hbw5 HH
            go_simp
            go_wp2_with fail
            go_roundw
            case rel =>
              exact ⟨A2, n2, c2, q, [] ++ [(t, v)], _, 0 + 1, rfl, hnc2, HR2.out.back HB.out (Nat.le_refl _), rfl, HN.out.1, HN.out.2.1, by rw [← HP.out, Tlv.prs_next _ _ _ _ _ HPP.out HV.out (rises_nil t)], by omega, HN.out.2.2⟩
            case measure => simp [lenOf]; omega
          · rw [List.concat_eq_append] at hlf
            subst hlf
            obtain ⟨k', hk'⟩ : ∃ k', k = k' + 1 := ⟨l.length, by rw [← HK.out]; simp⟩
            subst hk'
            obtain ⟨g, cap, hv4, _, _⟩ := HO.out.form (by omega)
            injection hv4 with e1 _ e2
            subst e1 e2
            have hlast : wr.cell? ⟨g, k' * 2, none⟩ = some (.int .u8 f.1.toNat) := by
              have hl : l.length = k' := by have := HK.out; simp at this; omega
              obtain ⟨A9, n9, c9, k1, _⟩ := HC.out.2 k' f (by rw [List.getElem?_append_right (by omega), hl, Nat.sub_self]; rfl)
              have := HO.out.cells (g := g) rfl (2 * k') _ k1
              rw [Addr.add_mid, Nat.zero_add, Nat.mul_comm] at this
              exact this
            have hf8 := f.1.toNat_lt
            have ht8 := t.toNat_lt
            by_cases hlt : f.1.toNat < t.toNat
            · have q5 : decide (t.toNat ≤ f.1.toNat) = false := by simp; omega
              have q6 : decide ((t.toNat : Int) ≤ (f.1.toNat : Int)) = false := by simp; omega
              go_upto_region 12 with (fail)
              refine wp_region_lit ?_
              iterate 11 go_step
              have hr1' : Rd (wr.drewN j) (wr.drewN j).heap.size A1 n1 v := HR1.out.more HB.out.size
              refine (clone_new A1 n1 c1 v (wr.drewN j) hr1' (by omega)).mono ?_
              rintro e w2 ⟨A3, n3, c3, rfl, hr3, hnc3, hnew, hb2⟩
              have hcl2 : FCells G (wr.drewN j) (Value.slice (some ⟨g, 0, none⟩) (k' + 1) c4).ownBlock xs (l ++ [f]) := HC.out
              have hown2 : (wr.drewN j).ownsRow w.heap.size 102 2 (Value.slice (some ⟨g, 0, none⟩) (k' + 1) c4) (k' + 1) xs := HO.out
              have hbg : BG G A3 n3 := fun _ b o e => hG b (Nat.le_trans HB.out.size (hnew b o e).1)
              have hx3 := rdx_new hown2 hr3 (fun b o e => (hnew b o e).1)
              have hn3 : n3 ≤ 9223372036854775807 := by rw [← hr3.len, HR1.out.len]; omega
              have hbw2 : Below w.heap.size w w2 := (below_drewN HB.out j).trans (hb2.mono HB.out.size)
              have HH := Lib.hid (And.intro (hcl2.below hb2) (And.intro (own_below hown2 hb2) (And.intro hx3 hbw2)))
              have hws2 : w.heap.size ≤ w2.heap.size := hbw2.size
              clear hr1' hr3 hnew hb2 hcl2 hown2 hx3 hbw2
              simp only []
              iterate 7 go_step
              refine wpList_append_one rfl (.tmp 42) (.tmp 47) 98 102 _ 2 32 rfl Tryd.underlying98 info39 rfl (by omega) w.heap.size _ (k' + 1) xs rfl #[.int .u8 t.toNat, .slice A3 n3 c3] rfl HH.out.2.1 rfl (by simp [Value.oneCell']) (by unfold maxLen; omega) (by omega) hws2 ?_
              intro v5 w5 hown5 hg5 hat5
              obtain ⟨hcl2, hown2, hx3, hbw2⟩ := HH.out
              have hcl5 := fcells_step hcl2 (t, v) A3 n3 c3 hnc3 hn3 hx3 hbg _ hg5 hat5
              have hbw5 : Below w.heap.size w w5 := (hbw2.alloc hws2 _).grown hg5 (by rw [size_alloc]; omega) (fun i hi => (hown2.lt i hi).1)
              have HN := Lib.hid (And.intro hown5 (And.intro hcl5 hbw5))
              clear hown5 hg5 hat5 hcl2 hown2 hx3 hbw2 hcl5 hbw5 HH
              go_simp
              go_wp2_with fail
              go_roundw
              case rel =>
                exact ⟨A2, n2, c2, q, (l ++ [f]) ++ [(t, v)], _, k' + 1 + 1, rfl, hnc2, HR2.out.back HB.out (Nat.le_refl _), by rw [List.length_append, HK.out]; rfl, HN.out.1, HN.out.2.1, by rw [← HP.out, Tlv.prs_next _ _ _ _ _ HPP.out HV.out (by rw [rises_snoc]; simpa using hlt)], by omega, HN.out.2.2⟩
              case measure => simp [lenOf]; omega
            · have q5 : decide (t.toNat ≤ f.1.toNat) = true := by simp; omega
              have q6 : decide ((t.toNat : Int) ≤ (f.1.toNat : Int)) = true := by simp; omega
              go_wp2_with fail
              go_ret2
              obtain rfl : (5, []) = R := by rw [← HP.out, Tlv.prs_order _ _ _ _ _ HPP.out HV.out (by rw [rises_snoc]; simpa using hlt)]
              exact ⟨none, 0, 0, rfl, FRd.nil, Nat.le_refl _, below_drewN HB.out _⟩
end Go.Proofs.YtolkpjbbfopmnaaDoor.Tl
