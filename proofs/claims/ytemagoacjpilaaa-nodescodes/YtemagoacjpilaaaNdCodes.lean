/-
  NodesCodes returns true: any node as bytes, and the node of any bytes, as the document has it; condition: its arguments can be read.
-/
import Derived.Test.YtemagoacjpilaaaNdRDec
import Derived.Test.YtemagoacjpilaaaNdOne
namespace Go.Proofs.Ytemagoacjpilaaa
open Go.RowKit
open Tlv (Nd)

set_option maxRecDepth 100000 in
set_option maxHeartbeats 1000000 in
theorem sameNode_yes (A A' A2 A2' : Option Addr) (n c n' c' n2 c2 n2' c2' : Nat) (h : Int) (z : Nat) (l r k v : List UInt8) (w : World) (hl : l.length = 32) (hr : r.length = 32)
    (h1 : Rd w w.heap.size A n k) (h2 : Rd w w.heap.size A' n' v) (h3 : Rd w w.heap.size A2 n2 k) (h4 : Rd w w.heap.size A2' n2' v) :
    Calls Try.prog 11 #[.agg (acells (.slice A n c) (.slice A' n' c') h z l r).toArray, .agg (acells (.slice A2 n2 c2) (.slice A2' n2' c2') h z l r).toArray] w fun e w' => e = .returned (.bool true) ∧ Below w.heap.size w w' := by
  have hb : Below w.heap.size w ((w.alloc (.cells (acells (.slice A n c) (.slice A' n' c') h z l r).toArray 27)).alloc (.cells (acells (.slice A2 n2 c2) (.slice A2' n2' c2') h z l r).toArray 27)) := ((Below.refl _ _).alloc (Nat.le_refl _) _).alloc (by simp) _
  have hw1 := (Whole.made w 27 (acells (.slice A n c) (.slice A' n' c') h z l r).toArray).alloc (.cells (acells (.slice A2 n2 c2) (.slice A2' n2' c2') h z l r).toArray 27)
  have hw2 := Whole.made (w.alloc (.cells (acells (.slice A n c) (.slice A' n' c') h z l r).toArray 27)) 27 (acells (.slice A2 n2 c2) (.slice A2' n2' c2') h z l r).toArray
  rw [size_alloc] at hw2
  generalize hX1 : (acells (.slice A n c) (.slice A' n' c') h z l r).toArray = X1 at *
  generalize hX2 : (acells (.slice A2 n2 c2) (.slice A2' n2' c2') h z l r).toArray = X2 at *
  have HX := Lib.hid (And.intro hX1 hX2)
  clear hX1 hX2
  have HH := Lib.hid (And.intro h1 (And.intro h2 (And.intro h3 h4)))
  clear h1 h2 h3 h4
  have HW1 := Lib.hid hw1
  have HW2 := Lib.hid hw2
  have HB := Lib.hid hb
  clear hw1 hw2 hb
  go_enter Try.func11, Try.ntmps11
  go_upto_region 1 with (fail)
  generalize (w.alloc (.cells X1 27)).alloc (.cells X2 27) = w1 at *
  have hw1 := HW1.out
  have hw2 := HW2.out
  rw [← HX.out.1] at hw1
  rw [← HX.out.2] at hw2
  obtain ⟨a0, a1, a2, a3⟩ := abox hw1
  obtain ⟨b0, b1, b2, b3⟩ := abox hw2
  have s1 := run_string w1 _ A n c k (HH.out.1.below HB.out (Nat.le_refl _))
  have s2 := run_string w1 _ A' n' c' v (HH.out.2.1.below HB.out (Nat.le_refl _))
  have s3 := run_string w1 _ A2 n2 c2 k (HH.out.2.2.1.below HB.out (Nat.le_refl _))
  have s4 := run_string w1 _ A2' n2' c2' v (HH.out.2.2.2.below HB.out (Nat.le_refl _))
  have HL1 := Lib.hid (acells_lrange hw1)
  have HL2 := Lib.hid (acells_lrange hw2)
  have HR1 := Lib.hid (acells_rrange hw1 hl)
  have HR2 := Lib.hid (acells_rrange hw2 hl)
  have e1 := run_eq29 l l hl hl w1
  have e2 := run_eq29 r r hr hr w1
  rw [show (l == l) = true by simp] at e1
  rw [show (r == r) = true by simp] at e2
  have il : (Try.prog.info? 25).map (·.size) = some (l.map V8).length := by rw [List.length_map, hl]; exact info25
  have ir : (Try.prog.info? 25).map (·.size) = some (r.map V8).length := by rw [List.length_map, hr]; exact info25
  have HI := Lib.hid (And.intro il ir)
  clear hw1 hw2 HX HW1 HW2 HH il ir
  refine wp_region_lit ?_
  iterate 78 go_step
  refine wpList_load_w rfl 25 (.tmp 36) rfl w.heap.size 4 rfl _ _ HL1.out Try.underlying25 rfl HI.out.1 ?_
  iterate 2 go_step
  refine wpList_load_w rfl 25 (.tmp 38) rfl (w.heap.size + 1) 4 rfl _ _ HL2.out Try.underlying25 rfl HI.out.1 ?_
  change Sem.run Try.prog (Op.equalIn 10000 25 (Value.agg (l.map V8).toArray) (Value.agg (l.map V8).toArray)) w1 = _ at e1
  change Sem.run Try.prog (Op.equalIn 10000 25 (Value.agg (r.map V8).toArray) (Value.agg (r.map V8).toArray)) w1 = _ at e2
  generalize hL : l.map V8 = L at *
  generalize hR : r.map V8 = R at *
  clear hL hR
  iterate 10 go_step
  refine wpList_load_w rfl 25 (.tmp 43) rfl w.heap.size 36 rfl _ _ HR1.out Try.underlying25 rfl HI.out.2 ?_
  iterate 2 go_step
  refine wpList_load_w rfl 25 (.tmp 45) rfl (w.heap.size + 1) 36 rfl _ _ HR2.out Try.underlying25 rfl HI.out.2 ?_
  go_wp2_with fail
  go_ret
  exact ⟨rfl, HB.out⟩

set_option maxRecDepth 100000 in
set_option maxHeartbeats 1000000 in
theorem nodesCodes_any (A : Option Addr) (n c : Nat) (A' : Option Addr) (n' c' : Nat) (nd : Nd) (A0 : Option Addr) (n0 c0 : Nat) (b : List UInt8) (A2 : Option Addr) (n2 c2 : Nat) (A3 : Option Addr) (n3 c3 : Nat) (ys : List UInt8) (w : World)
    (hb0 : Rd w w.heap.size A0 n0 b) (hnc0 : n0 ≤ c0) (hr : NRd w w.heap.size A n c A' n' c' nd) (hf : nd.fit) (hi : RdI w w.heap.size A2 n2) (hy : Rd w w.heap.size A3 n3 ys)
    (h0 : n0 ≤ 140737488355328) (h1 : n ≤ 140737488355328) (h1' : n' ≤ 140737488355328) (h2 : n2 ≤ 9223372036854775807) (h3 : n3 ≤ 9223372036854775807) :
    Calls Try.prog 3 #[.agg (ndc A n c A' n' c' nd).toArray, .slice A0 n0 c0, .slice A2 n2 c2, .slice A3 n3 c3] w fun e w' => e = .returned (.bool true) ∧ Below w.heap.size w w' := by
  have hb : Below w.heap.size w (w.alloc (.cells (ndc A n c A' n' c' nd).toArray 27)) := (Below.refl _ _).alloc (Nat.le_refl _) _
  have hw := Whole.made w 27 (ndc A n c A' n' c' nd).toArray
  have hs0 : (w.alloc (.cells (ndc A n c A' n' c' nd).toArray 27)).heap.size = w.heap.size + 1 := size_alloc _ _
  have HA := Lib.hid (awake_any (w.alloc (.cells (ndc A n c A' n' c' nd).toArray 27)))
  have HB := Lib.hid hb
  have HW := Lib.hid hw
  have HF := Lib.hid hf
  have HR := Lib.hid hr
  have HB0 := Lib.hid hb0
  have HII := Lib.hid (And.intro hi hy)
  have hsz : (ndc A n c A' n' c' nd).toArray.size = 68 := by rw [List.size_toArray, ndc_len hf]
  clear hb hw hf hr hb0 hi hy
  generalize hX : (ndc A n c A' n' c' nd).toArray = X at *
  have HX := Lib.hid hX
  clear hX
  obtain ⟨g0, hg0⟩ : ∃ g, w.heap.size = g := ⟨_, rfl⟩
  rw [hg0] at HB HW HR HB0 HII hs0
  have HG := Lib.hid hg0
  go_enter Try.func3, Try.ntmps3
  go_upto_region 1 with (fail)
  generalize w.alloc (.cells X 27) = w1 at *
  clear hg0
  go_wp2_with fail
  refine HA.out.mono ?_
  rintro e w2 ⟨rfl, hb2⟩
  have hs2 : g0 < w2.heap.size := by have := hb2.size; omega
  have hB2 := HB.out.trans (hb2.mono (by omega))
  have hW2 := HW.out.below hb2 (by omega)
  rw [← HX.out] at hW2
  obtain ⟨k0, k1, k2, k3⟩ := abox hW2
  rw [HX.out] at hW2
  have HB2 := Lib.hid hB2
  have HW2 := Lib.hid hW2
  obtain ⟨S, hS⟩ : ∃ S : Int, (n : Int) + n' = S := ⟨_, rfl⟩
  obtain ⟨S2, hS2⟩ : ∃ S2 : Int, S + n0 = S2 := ⟨_, rfl⟩
  have w1' : wrap64 S = S := by rw [← hS]; unfold wrap64; omega
  have w2' : wrap64 S2 = S2 := by rw [← hS2, ← hS]; unfold wrap64; omega
  have HSS := Lib.hid (And.intro hS hS2)
  have HN2 := Lib.hid ((HR.out.below HB2.out (Nat.le_refl _)).more (B' := w2.heap.size) (by omega))
  clear hB2 hW2 hb2 HA HB HW k2 k3 h1 h1' HR
  by_cases hbig : 2000 < S2
  · have q1 : decide (2000 < S2) = true := by simp; exact hbig
    go_wp2_with fail
    go_ret
    exact ⟨rfl, by rw [HG.out]; exact HB2.out⟩
  have q1 : decide (2000 < S2) = false := by simp; omega
  have hn0 : n0 ≤ 2000 := by have := HSS.out.1; have := HSS.out.2; omega
  have HENC := Lib.hid (encode_any _ _ _ _ _ _ nd w2 HN2.out HF.out)
  have HI : Hid ((Try.prog.info? 27).map (·.size) = some X.size) := Lib.hid (by rw [hsz]; exact info27)
  rw [HX.out] at HENC
  clear hbig HSS
  go_upto_region 5 with (fail)
  clear w1' w2' q1 hS hS2
  refine wp_region_lit ?_
  refine wpList_load_g rfl 27 (.tmp 4) rfl g0 rfl 27 X _ HW2.out Try.underlying27 rfl HI.out ?_
  go_wp2_with fail
  refine HENC.out.mono ?_
  rintro e w3 ⟨Ae, ne, ce, rfl, hre, hce, hb3⟩
  have hne : ne ≤ 500 := by rw [← hre.len]; exact enc_len HF.out
  have hB3 := HB2.out.trans (hb3.mono (Nat.le_of_lt hs2))
  have hs3 : g0 < w3.heap.size := by have := hb3.size; omega
  have hW3 := HW2.out.below hb3 hs2
  have HRENC := Lib.hid (refEncode_any _ _ _ _ _ _ nd w3 ((HN2.out.below hb3 (Nat.le_refl _)).more hb3.size) HF.out)
  rw [HX.out] at HRENC
  obtain ⟨ec, hec⟩ : ∃ x, (Tlv.enc nd).1 = x := ⟨_, rfl⟩
  obtain ⟨eb, heb⟩ : ∃ x, (Tlv.enc nd).2 = x := ⟨_, rfl⟩
  rw [heb] at hre
  simp only [hec]
  have HEE := Lib.hid (And.intro hec heb)
  have HRE := Lib.hid hre
  have HB3 := Lib.hid hB3
  have HW3 := Lib.hid hW3
  clear hre hb3 hB3 hW3 HENC HW2 HB2 HN2 hec heb k0 k1
  go_upto_region 6 with (fail)
  refine wp_region_lit ?_
  refine wpList_load_g rfl 27 (.tmp 4) rfl g0 rfl 27 X _ HW3.out Try.underlying27 rfl HI.out ?_
  go_wp2_with fail
  refine HRENC.out.mono ?_
  rintro e w3r ⟨Ar, nr, cr, rfl, hrr, hb3r⟩
  rw [HEE.out.2] at hrr
  simp only [HEE.out.1]
  have hre2 := (HRE.out.below hb3r (Nat.le_refl _)).more hb3r.size
  have t1 := run_string w3r _ Ae ne ce eb hre2
  have t2 := run_string w3r _ Ar nr cr eb hrr
  have hB4 := HB3.out.trans (hb3r.mono (Nat.le_of_lt hs3))
  have hs4 : g0 < w3r.heap.size := by have := hb3r.size; omega
  have hrb := (HB0.out.below hB4 (Nat.le_refl _)).more (B' := w3r.heap.size) (by omega)
  have HTU := Lib.hid (turned_any Ae ne ce _ A2 n2 c2 A3 n3 c3 ys w3r hre2 (by omega) ((HII.out.1.below hB4 (Nat.le_refl _)).more (by omega)) ((HII.out.2.below hB4 (Nat.le_refl _)).more (by omega)) h2 h3)
  have HB4 := Lib.hid hB4
  have HRB := Lib.hid hrb
  have HRE2 := Lib.hid hre2
  clear hrr hb3r hB4 hrb hre2 HRENC HW3 HB3 HB0 HII HRE hs3 hs2
  go_upto_region 9 with (fail)
  clear t1 t2
  go_wp2_with fail
  refine HTU.out.mono ?_
  rintro e w4 ⟨Az, nz, cz, bz, rfl, hrz, hcz, hnz, hb4⟩
  have hrb4 := (HRB.out.below hb4 (Nat.le_refl _)).more hb4.size
  have hre4 := (HRE2.out.below hb4 (Nat.le_refl _)).more hb4.size
  obtain ⟨q, hq⟩ : ∃ q, w4.heap.size = q := ⟨_, rfl⟩
  have hb5 : Below w4.heap.size w4 (w4.alloc (.cells #[.slice A0 n0 c0, .slice Ae ne ce, .slice Az nz cz] 22)) := (Below.refl _ _).alloc (Nat.le_refl _) _
  have hrow := Whole.made w4 22 #[.slice A0 n0 c0, .slice Ae ne ce, .slice Az nz cz]
  have hs5 : (w4.alloc (.cells #[.slice A0 n0 c0, .slice Ae ne ce, .slice Az nz cz] 22)).heap.size = q + 1 := by rw [size_alloc, hq]
  have hR0 := hrb4.below hb5 (Nat.le_refl _)
  have hRe := hre4.below hb5 (Nat.le_refl _)
  have hRz := hrz.below hb5 (Nat.le_refl _)
  rw [hq] at hrow hR0 hRz hRe
  have HROW := Lib.hid hrow
  have HR0 := Lib.hid hR0
  have HRE5 := Lib.hid hRe
  have HRZ := Lib.hid hRz
  have HBW5 := Lib.hid ((HB4.out.trans (hb4.mono (Nat.le_of_lt hs4))).trans (hb5.mono (by have := hb4.size; omega)))
  have hgq : g0 ≤ q := by have := hb4.size; omega
  clear hrb4 hre4 hrz hb4 hb5 hrow hR0 hRz hRe HTU HB4 HRB HRE2 hs4 hs0
  go_wp2_with fail
  clear hq
  generalize w4.alloc (.cells #[.slice A0 n0 c0, .slice Ae ne ce, .slice Az nz cz] 22) = w5 at *
  go_loopg [60] 3 (fun gk i wx => ∃ j : Nat, j + gk = 3 ∧ i = .int .i64 j ∧ Below (q + 1) w5 wx)
  case atStart => exact ⟨0, by omega, rfl, Below.refl _ _⟩
  case round =>
    obtain ⟨j, hj, rfl, hbl⟩ := hrel
    have HBL := Lib.hid hbl
    have hqs : q < wr.heap.size := by have := hbl.size; omega
    clear hbl
    cases gk with
    | succ gn =>
      obtain ⟨Aj, nj, cj, bj, hcell, hrj, hnj, hcj⟩ : ∃ Aj nj cj bj, wr.cell? ⟨q, j, none⟩ = some (.slice Aj nj cj) ∧ Rd wr wr.heap.size Aj nj bj ∧ nj ≤ 2000 ∧ nj ≤ cj := by
        have hlt : j < 3 := by omega
        match j, hlt with
        | 0, _ => exact ⟨A0, n0, c0, b, (HBL.out.cell (p := ⟨q, 0, none⟩) (by show q < q + 1; omega)).trans (HROW.out.at_ rfl), (HR0.out.below HBL.out (by omega)).more (Nat.le_of_lt hqs), hn0, hnc0⟩
        | 1, _ => exact ⟨Ae, ne, ce, eb, (HBL.out.cell (p := ⟨q, 1, none⟩) (by show q < q + 1; omega)).trans (HROW.out.at_ rfl), (HRE5.out.below HBL.out (by omega)).more (Nat.le_of_lt hqs), by omega, hce⟩
        | 2, _ => exact ⟨Az, nz, cz, bz, (HBL.out.cell (p := ⟨q, 2, none⟩) (by show q < q + 1; omega)).trans (HROW.out.at_ rfl), (HRZ.out.below HBL.out (by omega)).more (Nat.le_of_lt hqs), by omega, hcz⟩
      have HDEC := Lib.hid (decode_any Aj nj cj bj wr hrj hcj (by omega))
      have HRJ := Lib.hid hrj
      clear hrj
      go_wp2_with fail
      refine HDEC.out.mono ?_
      rintro e w6 ⟨B1, m1, d1, B2, m2, d2, rfl, hN, hb6⟩
      have hfd := dec_fit bj
      have hz27 := zero27
      obtain ⟨dc, hdc⟩ : ∃ x, (Tlv.dec bj).1 = x := ⟨_, rfl⟩
      obtain ⟨m, hm⟩ : ∃ x, (Tlv.dec bj).2 = x := ⟨_, rfl⟩
      have HDD := Lib.hid (And.intro hdc hm)
      rw [hm] at hN hfd
      have hYs : (ndc B1 m1 d1 B2 m2 d2 m).toArray.size = 68 := by rw [List.size_toArray, ndc_len hfd]
      have hYo : (ndc B1 m1 d1 B2 m2 d2 m).toArray.all (·.oneCell') = true := acells_one _ _ _ _ _ _ _ _ _ _
      simp only [hdc, hm]
      obtain ⟨q6, hq6⟩ : ∃ q, w6.heap.size = q := ⟨_, rfl⟩
      have hb7 : Below w6.heap.size w6 (w6.alloc (.cells (ndc B1 m1 d1 B2 m2 d2 m).toArray 27)) := (Below.refl _ _).alloc (Nat.le_refl _) _
      have hw7 := Whole.made w6 27 (ndc B1 m1 d1 B2 m2 d2 m).toArray
      have hN7 := (hN.below hb7 (Nat.le_refl _)).more hb7.size
      have hq1 : q + 1 ≤ wr.heap.size := hqs
      have hq2 : wr.heap.size ≤ w6.heap.size := hb6.size
      have hbl7 : Below (q + 1) w5 (w6.alloc (.cells (ndc B1 m1 d1 B2 m2 d2 m).toArray 27)) := HBL.out.trans ((hb6.trans (hb7.mono hb6.size)).mono hq1)
      have hrj7 := (((HRJ.out.below hb6 (Nat.le_refl _)).more hb6.size).below hb7 (Nat.le_refl _)).more hb7.size
      have hs67 : (w6.alloc (.cells (ndc B1 m1 d1 B2 m2 d2 m).toArray 27)).heap.size = q6 + 1 := by rw [size_alloc, hq6]
      have hR8 := refDecode_any Aj nj cj bj _ hrj7 hcj (by omega)
      rw [hq6] at hw7
      have HW7 := Lib.hid hw7
      have HBL7 := Lib.hid hbl7
      have HN7 := Lib.hid hN7
      have HR8 := Lib.hid hR8
      have hq66 : q + 1 ≤ q6 := by omega
      have HFD := Lib.hid hfd
      clear hdc hm hN hfd hb6 hb7 hw7 hN7 hbl7 hrj7 HDEC HRJ hcell HBL hR8 hq1 hq2
      generalize hYdef : (ndc B1 m1 d1 B2 m2 d2 m).toArray = Y at *
      have HYDEF : Hid (Y = (ndc B1 m1 d1 B2 m2 d2 m).toArray) := Lib.hid hYdef.symm
      clear hYdef
      have HQ6 := Lib.hid hq6
      clear hq6
      rename_i hK
      refine hK _ _ ?_
      iterate 12 go_step
      refine wpList_store_made rfl 27 (.tmp 15) (.tmp 67) rfl z27 Y rfl rfl (by rw [hYs]; exact info27) (by rw [z27_size, hYs]) hYo ?_
      rw [HQ6.out]
      generalize w6.alloc (.cells Y 27) = w7 at *
      clear hK
      go_wp2_with fail
      refine HR8.out.mono ?_
      rintro e w8 ⟨D1, p1, e1, D2, p2, e2, rfl, hM, hb8⟩
      simp only [HDD.out.1, HDD.out.2]
      rw [HDD.out.2] at hM
      have hYs2 : (ndc D1 p1 e1 D2 p2 e2 m).toArray.size = 68 := by rw [List.size_toArray, ndc_len HFD.out]
      have hYo2 : (ndc D1 p1 e1 D2 p2 e2 m).toArray.all (·.oneCell') = true := acells_one _ _ _ _ _ _ _ _ _ _
      obtain ⟨q8, hq8⟩ : ∃ q, w8.heap.size = q := ⟨_, rfl⟩
      have hb9 : Below w8.heap.size w8 (w8.alloc (.cells (ndc D1 p1 e1 D2 p2 e2 m).toArray 27)) := (Below.refl _ _).alloc (Nat.le_refl _) _
      have hw9 := Whole.made w8 27 (ndc D1 p1 e1 D2 p2 e2 m).toArray
      have hM9 := (hM.below hb9 (Nat.le_refl _)).more hb9.size
      have hb79 : Below w7.heap.size w7 (w8.alloc (.cells (ndc D1 p1 e1 D2 p2 e2 m).toArray 27)) := hb8.trans (hb9.mono hb8.size)
      have hN9 := (HN7.out.below hb79 (Nat.le_refl _)).more hb79.size
      have hW9 := HW7.out.below hb79 (by omega)
      have hbl9 : Below (q + 1) w5 (w8.alloc (.cells (ndc D1 p1 e1 D2 p2 e2 m).toArray 27)) := HBL7.out.trans (hb79.mono (by omega))
      have hSAME := sameNode_yes B1 B2 D1 D2 m1 d1 m2 d2 p1 e1 p2 e2 m.h m.z m.l m.r m.key m.value (w8.alloc (.cells (ndc D1 p1 e1 D2 p2 e2 m).toArray 27)) HFD.out.1 HFD.out.2.1 hN9.key hN9.val hM9.key hM9.val
      rw [hq8] at hw9
      have HYY : Hid (Y = (ndc B1 m1 d1 B2 m2 d2 m).toArray) := HYDEF
      change Calls Try.prog 11 #[.agg (ndc B1 m1 d1 B2 m2 d2 m).toArray, .agg (ndc D1 p1 e1 D2 p2 e2 m).toArray] _ _ at hSAME
      rw [← HYY.out] at hSAME
      have HSAME := Lib.hid hSAME
      have HW9 := Lib.hid hW9
      have HX9 := Lib.hid hw9
      have HBL9 := Lib.hid hbl9
      have hs9 : (w8.alloc (.cells (ndc D1 p1 e1 D2 p2 e2 m).toArray 27)).heap.size = q8 + 1 := by rw [size_alloc, hq8]
      have hq88 : q + 1 ≤ q8 := by have := hb8.size; omega
      clear hb8 hM hb9 hw9 hM9 hb79 hN9 hW9 hbl9 hSAME HW7 HBL7 HN7 HR8 HFD
      generalize (ndc D1 p1 e1 D2 p2 e2 m).toArray = Z at *
      have HQ8 := Lib.hid hq8
      clear hq8
      rename_i hK
      refine hK _ _ ?_
      iterate 12 go_step
      refine wpList_store_made rfl 27 (.tmp 17) (.tmp 72) rfl z27 Z rfl rfl (by rw [hYs2]; exact info27) (by rw [z27_size, hYs2]) hYo2 ?_
      rw [HQ8.out]
      generalize w8.alloc (.cells Z 27) = w9 at *
      clear hK
      go_upto_region 14 with (fail)
      refine wp_region_lit ?_
      iterate 12 go_step
      refine wpList_load_g rfl 27 (.tmp 15) rfl q6 rfl 27 Y _ HW9.out Try.underlying27 rfl (by rw [hYs]; exact info27) ?_
      refine wpList_load_g rfl 27 (.tmp 17) rfl q8 rfl 27 Z _ HX9.out Try.underlying27 rfl (by rw [hYs2]; exact info27) ?_
      go_wp2_with fail
      refine HSAME.out.mono ?_
      rintro e w10 ⟨rfl, hb10⟩
      have HBL10 := Lib.hid (HBL9.out.trans (hb10.mono (by omega)))
      clear hb10 HSAME HW9 HX9 HBL9
      go_wp2_with fail
      go_roundg gn
      case measure => omega
      case rel => exact ⟨j + 1, by omega, congrArg (Value.int .i64) (by omega), HBL10.out⟩
    | zero =>
      have HEND := Lib.hid (HBW5.out.trans (HBL.out.mono (by omega)))
      go_wp2_with fail
      go_ret
      exact ⟨rfl, by rw [HG.out]; exact HEND.out⟩
end Go.Proofs.Ytemagoacjpilaaa
