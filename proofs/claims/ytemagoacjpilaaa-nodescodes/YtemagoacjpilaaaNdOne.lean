/-
  NodesOne returns true: whatever bytes are a node, they are the one way to write it; condition: its arguments can be read.
-/
import Derived.Test.YtemagoacjpilaaaNdAwk
namespace Go.Proofs.Ytemagoacjpilaaa
open Go.RowKit
open Tlv (Nd)

theorem enc_len {nd : Nd} (hf : nd.fit) : (Tlv.enc nd).2.length ≤ 500 := by
  by_cases h : nd.key.length < 1 ∨ 96 < nd.key.length
  · rw [enc_key h]; simp
  · cases hm : nd.may with
    | false => rw [enc_node h hm]; simp
    | true =>
      rw [enc_good h hm]
      obtain ⟨h0, h1, h2⟩ := may_bounds hm
      have hnum : (Tlv.num nd.h.toNat).length ≤ 8 := Tlv.num_len8 _ (by omega)
      have hnum2 : (Tlv.num nd.z).length ≤ 8 := Tlv.num_len8 _ hf.2.2
      have k1 : (Tlv.put [] 1 nd.key).length ≤ 0 + nd.key.length + 3 := Tlv.put_length [] 1 nd.key
      have k2 : nd.front.length ≤ (Tlv.put [] 1 nd.key).length + nd.value.length + 3 := Tlv.put_length (Tlv.put [] 1 nd.key) 2 nd.value
      have k3 : nd.mid.length ≤ nd.front.length + (Tlv.num nd.h.toNat).length + 3 := Tlv.put_length nd.front 3 (Tlv.num nd.h.toNat)
      have k4 := Tlv.put_length nd.mid 4 (Tlv.num nd.z)
      have k5 := Tlv.put_length (Tlv.put nd.mid 4 (Tlv.num nd.z)) 5 nd.l
      have k6 : nd.whole.length ≤ (Tlv.put (Tlv.put nd.mid 4 (Tlv.num nd.z)) 5 nd.l).length + nd.r.length + 3 := Tlv.put_length (Tlv.put (Tlv.put nd.mid 4 (Tlv.num nd.z)) 5 nd.l) 6 nd.r
      have hl := hf.1
      have hr := hf.2.1
      have hk : nd.key.length ≤ 96 := by omega
      clear h hm h0 h1 hf
      show nd.bytes.length ≤ 500
      unfold Nd.bytes
      split <;> omega

theorem RdI.below {w w' : World} {B B' n : Nat} {A : Option Addr} (h : RdI w B A n) (hb : Below B' w w') (hB : B ≤ B') : RdI w' B A n := fun hn => by
  obtain ⟨b, o, e, hb1, hc⟩ := h hn
  exact ⟨b, o, e, hb1, fun j hj => by
    obtain ⟨z, hz⟩ := hc j hj
    exact ⟨z, (hb.cell (p := ⟨b, o + j, none⟩) (Nat.lt_of_lt_of_le hb1 hB)).trans hz⟩⟩
theorem RdI.more {w : World} {B B' n : Nat} {A : Option Addr} (h : RdI w B A n) (hB : B ≤ B') : RdI w B' A n := fun hn => by
  obtain ⟨b, o, e, hb1, hc⟩ := h hn
  exact ⟨b, o, e, by omega, hc⟩

set_option maxRecDepth 100000 in
set_option maxHeartbeats 1000000 in
theorem nodesOne_any (A0 : Option Addr) (n0 c0 : Nat) (b : List UInt8) (A : Option Addr) (n c : Nat) (A' : Option Addr) (n' c' : Nat) (nd : Nd) (A2 : Option Addr) (n2 c2 : Nat) (A3 : Option Addr) (n3 c3 : Nat) (ys : List UInt8) (w : World)
    (hb0 : Rd w w.heap.size A0 n0 b) (hnc0 : n0 ≤ c0) (hr : NRd w w.heap.size A n c A' n' c' nd) (hf : nd.fit) (hi : RdI w w.heap.size A2 n2) (hy : Rd w w.heap.size A3 n3 ys)
    (h0 : n0 ≤ 140737488355328) (h1 : n ≤ 140737488355328) (h1' : n' ≤ 140737488355328) (h2 : n2 ≤ 9223372036854775807) (h3 : n3 ≤ 9223372036854775807) :
    Calls Try.prog 4 #[.slice A0 n0 c0, .agg (ndc A n c A' n' c' nd).toArray, .slice A2 n2 c2, .slice A3 n3 c3] w fun e w' => e = .returned (.bool true) ∧ Below w.heap.size w w' := by
  have hb : Below w.heap.size w (w.alloc (.cells (ndc A n c A' n' c' nd).toArray 27)) := (Below.refl _ _).alloc (Nat.le_refl _) _
  have hw := Whole.made w 27 (ndc A n c A' n' c' nd).toArray
  have hs0 : (w.alloc (.cells (ndc A n c A' n' c' nd).toArray 27)).heap.size = w.heap.size + 1 := size_alloc _ _
  have HA := Lib.hid (awake_any (w.alloc (.cells (ndc A n c A' n' c' nd).toArray 27)))
  have HB := Lib.hid hb
  have HW := Lib.hid hw
  have HF := Lib.hid hf
  have HR := Lib.hid hr
  have HB0 := Lib.hid hb0
  have HII := Lib.hid (And.intro hi hy)
  have hsz : (ndc A n c A' n' c' nd).toArray.size = 68 := by rw [List.size_toArray, ndc_len hf]
  clear hb hw hf hr hb0 hi hy
  generalize hX : (ndc A n c A' n' c' nd).toArray = X at *
  have HX := Lib.hid hX
  clear hX
  obtain ⟨g0, hg0⟩ : ∃ g, w.heap.size = g := ⟨_, rfl⟩
  rw [hg0] at HB HW HR HB0 HII hs0
  have HG := Lib.hid hg0
  go_enter Try.func4, Try.ntmps4
  go_upto_region 1 with (fail)
  generalize w.alloc (.cells X 27) = w1 at *
  clear hg0
  go_wp2_with fail
  refine HA.out.mono ?_
  rintro e w2 ⟨rfl, hb2⟩
  have hs2 : g0 < w2.heap.size := by have := hb2.size; omega
  have hB2 := HB.out.trans (hb2.mono (by omega))
  have hW2 := HW.out.below hb2 (by omega)
  rw [← HX.out] at hW2
  obtain ⟨k0, k1, k2, k3⟩ := abox hW2
  rw [HX.out] at hW2
  have HB2 := Lib.hid hB2
  have HW2 := Lib.hid hW2
  obtain ⟨S, hS⟩ : ∃ S : Int, (n : Int) + n' = S := ⟨_, rfl⟩
  obtain ⟨S2, hS2⟩ : ∃ S2 : Int, S + n0 = S2 := ⟨_, rfl⟩
  have w1' : wrap64 S = S := by rw [← hS]; unfold wrap64; omega
  have w2' : wrap64 S2 = S2 := by rw [← hS2, ← hS]; unfold wrap64; omega
  have HSS := Lib.hid (And.intro hS hS2)
  have HN2 := Lib.hid ((HR.out.below HB2.out (Nat.le_refl _)).more (B' := w2.heap.size) (by omega))
  clear hB2 hW2 hb2 HA HB HW k2 k3 h1 h1' HR
  by_cases hbig : 2000 < S2
  · have q1 : decide (2000 < S2) = true := by simp; exact hbig
    go_wp2_with fail
    go_ret
    exact ⟨rfl, by rw [HG.out]; exact HB2.out⟩
  have q1 : decide (2000 < S2) = false := by simp; omega
  have hn0 : n0 ≤ 2000 := by have := HSS.out.1; have := HSS.out.2; omega
  have HENC := Lib.hid (encode_any _ _ _ _ _ _ nd w2 HN2.out HF.out)
  have HI : Hid ((Try.prog.info? 27).map (·.size) = some X.size) := Lib.hid (by rw [hsz]; exact info27)
  rw [HX.out] at HENC
  clear hbig HSS HN2
  go_upto_region 5 with (fail)
  clear w1' w2' q1 hS hS2
  refine wp_region_lit ?_
  refine wpList_load_g rfl 27 (.tmp 5) rfl g0 rfl 27 X _ HW2.out Try.underlying27 rfl HI.out ?_
  go_wp2_with fail
  refine HENC.out.mono ?_
  rintro e w3 ⟨Ae, ne, ce, rfl, hre, hce, hb3⟩
  have hne : ne ≤ 500 := by rw [← hre.len]; exact enc_len HF.out
  have hB3 := HB2.out.trans (hb3.mono (Nat.le_of_lt hs2))
  have hs3 : g0 < w3.heap.size := by have := hb3.size; omega
  have hrb := (HB0.out.below hB3 (Nat.le_refl _)).more (B' := w3.heap.size) (by omega)
  have HTU := Lib.hid (turned_any Ae ne ce _ A2 n2 c2 A3 n3 c3 ys w3 hre (by omega) ((HII.out.1.below hB3 (Nat.le_refl _)).more (by omega)) ((HII.out.2.below hB3 (Nat.le_refl _)).more (by omega)) h2 h3)
  have HB3 := Lib.hid hB3
  have HRB := Lib.hid hrb
  clear hre hb3 hB3 hrb HENC HW2 HB2 HB0 HII
  go_wp2_with fail
  refine HTU.out.mono ?_
  rintro e w4 ⟨Az, nz, cz, bz, rfl, hrz, hcz, hnz, hb4⟩
  obtain ⟨ec, hec⟩ : ∃ x, (Tlv.enc nd).1 = x := ⟨_, rfl⟩
  simp only [hec]
  clear hec
  have hrb4 := (HRB.out.below hb4 (Nat.le_refl _)).more hb4.size
  obtain ⟨q, hq⟩ : ∃ q, w4.heap.size = q := ⟨_, rfl⟩
  have hb5 : Below w4.heap.size w4 (w4.alloc (.cells #[.slice A0 n0 c0, .slice Az nz cz] 22)) := (Below.refl _ _).alloc (Nat.le_refl _) _
  have hrow := Whole.made w4 22 #[.slice A0 n0 c0, .slice Az nz cz]
  have hs5 : (w4.alloc (.cells #[.slice A0 n0 c0, .slice Az nz cz] 22)).heap.size = q + 1 := by rw [size_alloc, hq]
  have hR0 := hrb4.below hb5 (Nat.le_refl _)
  have hRz := hrz.below hb5 (Nat.le_refl _)
  rw [hq] at hrow hR0 hRz
  have HROW := Lib.hid hrow
  have HR0 := Lib.hid hR0
  have HRZ := Lib.hid hRz
  have HQ := Lib.hid hq
  have HBW5 := Lib.hid ((HB3.out.trans (hb4.mono (Nat.le_of_lt hs3))).trans (hb5.mono (by have := hb4.size; omega)))
  have hgq : g0 ≤ q := by have := hb4.size; omega
  clear hrb4 hrz hb4 hb5 hrow hR0 hRz HTU HB3 HRB hs2 hs3 hs0 k0 k1
  go_wp2_with fail
  clear hq
  generalize w4.alloc (.cells #[.slice A0 n0 c0, .slice Az nz cz] 22) = w5 at *
  go_loopg [42] 2 (fun gk i wx => ∃ j : Nat, j + gk = 2 ∧ i = .int .i64 j ∧ Below (q + 1) w5 wx)
  case atStart => exact ⟨0, by omega, rfl, Below.refl _ _⟩
  case round =>
    obtain ⟨j, hj, rfl, hbl⟩ := hrel
    have HBL := Lib.hid hbl
    have hqs : q < wr.heap.size := by have := hbl.size; omega
    clear hbl
    cases gk with
    | succ gn =>
      obtain ⟨Aj, nj, cj, bj, hcell, hrj, hnj, hcj⟩ : ∃ Aj nj cj bj, wr.cell? ⟨q, j, none⟩ = some (.slice Aj nj cj) ∧ Rd wr wr.heap.size Aj nj bj ∧ nj ≤ 2000 ∧ nj ≤ cj := by
        have hlt : j < 2 := by omega
        match j, hlt with
        | 0, _ => exact ⟨A0, n0, c0, b, (HBL.out.cell (p := ⟨q, 0, none⟩) (by show q < q + 1; omega)).trans (HROW.out.at_ rfl), (HR0.out.below HBL.out (by omega)).more (Nat.le_of_lt hqs), hn0, hnc0⟩
        | 1, _ => exact ⟨Az, nz, cz, bz, (HBL.out.cell (p := ⟨q, 1, none⟩) (by show q < q + 1; omega)).trans (HROW.out.at_ rfl), (HRZ.out.below HBL.out (by omega)).more (Nat.le_of_lt hqs), by omega, hcz⟩
      have HDEC := Lib.hid (decode_any Aj nj cj bj wr hrj hcj (by omega))
      have HRJ := Lib.hid hrj
      clear hrj
      go_wp2_with fail
      refine HDEC.out.mono ?_
      rintro e w6 ⟨B1, m1, d1, B2, m2, d2, rfl, hN, hb6⟩
      have hfd := dec_fit bj
      have hz27 := zero27
      obtain ⟨dc, hdc⟩ : ∃ x, (Tlv.dec bj).1 = x := ⟨_, rfl⟩
      obtain ⟨m, hm⟩ : ∃ x, (Tlv.dec bj).2 = x := ⟨_, rfl⟩
      rw [hm] at hN hfd
      have hYs : (ndc B1 m1 d1 B2 m2 d2 m).toArray.size = 68 := by rw [List.size_toArray, ndc_len hfd]
      have hYo : (ndc B1 m1 d1 B2 m2 d2 m).toArray.all (·.oneCell') = true := acells_one _ _ _ _ _ _ _ _ _ _
      simp only [hdc, hm]
      obtain ⟨q6, hq6⟩ : ∃ q, w6.heap.size = q := ⟨_, rfl⟩
      have hb7 : Below w6.heap.size w6 (w6.alloc (.cells (ndc B1 m1 d1 B2 m2 d2 m).toArray 27)) := (Below.refl _ _).alloc (Nat.le_refl _) _
      have hw7 := Whole.made w6 27 (ndc B1 m1 d1 B2 m2 d2 m).toArray
      have hN7 := (hN.below hb7 (Nat.le_refl _)).more hb7.size
      have hE7 := encode_any B1 m1 d1 B2 m2 d2 m _ hN7 hfd
      have hq1 : q + 1 ≤ wr.heap.size := hqs
      have hq2 : wr.heap.size ≤ w6.heap.size := hb6.size
      have hbl7 : Below (q + 1) w5 (w6.alloc (.cells (ndc B1 m1 d1 B2 m2 d2 m).toArray 27)) := HBL.out.trans ((hb6.trans (hb7.mono hb6.size)).mono hq1)
      have hrj7 := ((HRJ.out.below hb6 (Nat.le_refl _)).more hb6.size).below hb7 (Nat.le_refl _)
      rw [hq6] at hw7
      have HBACK : Hid (dc = 0 → Tlv.enc m = (0, bj)) := Lib.hid (fun h => by rw [← hm]; exact Tlv.dec_enc (hdc.trans h))
      have HE7 := Lib.hid hE7
      have HW7 := Lib.hid hw7
      have HBL7 := Lib.hid hbl7
      have HRJ7 := Lib.hid hrj7
      clear hdc hm hN hfd hb6 hb7 hw7 hN7 hE7 hbl7 hrj7 HDEC HRJ hcell HBL
      generalize (ndc B1 m1 d1 B2 m2 d2 m).toArray = Y at *
      have HQ6 := Lib.hid hq6
      clear hq6
      rename_i hK
      refine hK _ _ ?_
      iterate 12 go_step
      refine wpList_store_made rfl 27 (.tmp 13) (.tmp 49) rfl z27 Y rfl rfl (by rw [hYs]; exact info27) (by rw [z27_size, hYs]) hYo ?_
      rw [HQ6.out]
      have hs7 : (w6.alloc (.cells Y 27)).heap.size = q6 + 1 := by rw [size_alloc, HQ6.out]
      have hs67 : w6.heap.size ≤ (w6.alloc (.cells Y 27)).heap.size := by rw [size_alloc]; omega
      have hq67 : q + 1 ≤ q6 := by rw [← HQ6.out]; exact Nat.le_trans hq1 hq2
      generalize w6.alloc (.cells Y 27) = w7 at *
      rcases Nat.eq_zero_or_pos dc with h0 | h0
      · subst h0
        have hE := HBACK.out rfl
        go_upto_region 11 with (fail)
        refine wp_region_lit ?_
        refine wpList_load_g rfl 27 (.tmp 13) rfl q6 rfl 27 Y _ HW7.out Try.underlying27 rfl (by rw [hYs]; exact info27) ?_
        go_wp2_with fail
        refine HE7.out.mono ?_
        rintro e w8 ⟨Af, nf, cf, rfl, hrf, hcf, hb8⟩
        rw [hE] at hrf ⊢
        have hs1 := run_string w8 _ Af nf cf bj hrf
        have hs2 := run_string w8 _ Aj nj cj bj ((HRJ7.out.more hs67).below hb8 (Nat.le_refl _))
        have HBL8 := Lib.hid (HBL7.out.trans (hb8.mono (by omega)))
        clear hrf hb8 hE HE7 HBL7 HRJ7 HW7 HBACK
        go_wp2_with fail
        go_roundg gn
        case measure => omega
        case rel => exact ⟨j + 1, by omega, congrArg (Value.int .i64) (by omega), HBL8.out⟩
      · have q1 : ((dc : Int) == 0) = false := by simp; omega
        clear HE7 HW7 HRJ7 HBACK h0
        go_wp2_with fail
        go_roundg gn
        case measure => omega
        case rel => exact ⟨j + 1, by omega, congrArg (Value.int .i64) (by omega), HBL7.out⟩
    | zero =>
      have HEND := Lib.hid (HBW5.out.trans (HBL.out.mono (by omega)))
      go_wp2_with fail
      go_ret
      exact ⟨rfl, by rw [HG.out]; exact HEND.out⟩
end Go.Proofs.Ytemagoacjpilaaa
