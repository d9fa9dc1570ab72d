/-
  What the document's Encode returns: an error's number, and the node's bytes; condition: the node can be read, its sums have 32 bytes, its size is one of 64 bits. It only makes memory of its own.
-/
import Derived.Deep.RegionHeld3
import Derived.Test.YtemagoacjpilaaaNdEnc
import Derived.Test.YtemagoacjpilaaaEight
namespace Go.Proofs.Ytemagoacjpilaaa
open Go.RowKit
open Tlv (Nd)

def REncPost (w : World) (r : Nat × List UInt8) (e : Ending) (w' : World) : Prop :=
  ∃ A n c, e = .returned (.tuple #[.slice A n c, .int .i64 r.1]) ∧ Rd w' w'.heap.size A n r.2 ∧ Below w.heap.size w w'

theorem refPut_int (A : Option Addr) (n c : Nat) (bs : List UInt8) (z : Int) (tag : UInt8) (hz : z = tag.toNat) (A2 : Option Addr) (m c2 : Nat) (vs : List UInt8) (w : World) (hr : Rd w w.heap.size A n bs) (hr2 : Rd w w.heap.size A2 m vs) (hn : n ≤ 70368744111616) (hm : m ≤ 65535) :
    Calls Try.prog 16 #[.slice A n c, .int .u8 z, .slice A2 m c2] w (RefPutPost w (Tlv.put bs tag vs)) := by
  subst hz
  exact refPut_any A n c bs tag A2 m c2 vs w hr hr2 hn hm

set_option maxRecDepth 100000 in
set_option maxHeartbeats 1000000 in
theorem refEncode_any (A : Option Addr) (n c : Nat) (A' : Option Addr) (n' c' : Nat) (nd : Nd) (w : World) (hr : NRd w w.heap.size A n c A' n' c' nd) (hf : nd.fit) :
    Calls Try.prog 7 #[.agg (ndc A n c A' n' c' nd).toArray] w (REncPost w (Tlv.enc nd)) := by
  have hz25 := zero25
  have hb : Below w.heap.size w (w.alloc (.cells (ndc A n c A' n' c' nd).toArray 27)) := (Below.refl _ _).alloc (Nat.le_refl _) _
  have hw := Whole.made w 27 (ndc A n c A' n' c' nd).toArray
  have hs0 : (w.alloc (.cells (ndc A n c A' n' c' nd).toArray 27)).heap.size = w.heap.size + 1 := size_alloc _ _
  have hb1 : Below w.heap.size w ((w.alloc (.cells (ndc A n c A' n' c' nd).toArray 27)).alloc (.cells (zb 32) 25)) := hb.alloc (by rw [hs0]; omega) _
  have hw1 := hw.alloc (.cells (zb 32) 25)
  have hz1 := Whole.made (w.alloc (.cells (ndc A n c A' n' c' nd).toArray 27)) 25 (zb 32)
  rw [hs0] at hz1
  have hs1 : ((w.alloc (.cells (ndc A n c A' n' c' nd).toArray 27)).alloc (.cells (zb 32) 25)).heap.size = w.heap.size + 2 := by rw [size_alloc, hs0]
  obtain ⟨c0, c1, c2, c3⟩ := abox hw1
  have HKL := Lib.hid hr.key.len
  have HVL := Lib.hid hr.val.len
  have HR := Lib.hid (hr.below hb1 (Nat.le_refl _))
  have HRL := Lib.hid (abox_l hw1 hf.1)
  have HRR := Lib.hid (abox_r hw1 hf.1 hf.2.1)
  have HLR := Lib.hid (acells_lrange hw1)
  have HRG := Lib.hid (acells_rrange hw1 hf.1)
  have HF := Lib.hid hf
  have HB := Lib.hid hb1
  have HZ := Lib.hid hz1
  have HW := Lib.hid hw1
  have hs01 := hs0
  clear hr hb hb1 hw hw1 hz1 hf
  have hn : (nd.key.length = n) ∧ (nd.value.length = n') := ⟨HKL.out, HVL.out⟩
  obtain ⟨h, hh⟩ : ∃ z, nd.h = z := ⟨_, rfl⟩
  rw [hh] at c2
  obtain ⟨z, hz⟩ : ∃ z, nd.z = z := ⟨_, rfl⟩
  rw [hz] at c3
  obtain ⟨g0, hg0⟩ : ∃ g, w.heap.size = g := ⟨_, rfl⟩
  rw [hg0] at HR HRL HRR HLR HRG HB HZ HW c0 c1 c2 c3 hs0 hs1
  have HG := Lib.hid hg0
  have HALL : Hid (∀ code : Nat, Tlv.enc nd = (code, []) → REncPost w (Tlv.enc nd) (.returned (.tuple #[.slice none 0 0, .int .i64 code])) ((w.alloc (.cells (ndc A n c A' n' c' nd).toArray 27)).alloc (.cells (zb 32) 25))) := Lib.hid (fun code hc => by
    rw [hc]; exact ⟨none, 0, 0, rfl, Rd.nil, by rw [HG.out]; exact HB.out⟩)
  go_enter Try.func7, Try.ntmps7
  go_upto_region 1 with (fail)
  refine wp_region_lit ?_
  iterate 6 go_step
  clear hg0
  refine wpList_store_made rfl 25 (.tmp 4) (.tmp 6) rfl (zb 32) (zb 32) (by show Value.pointer (some ⟨g0 + 1, 0, none⟩) = _; rw [hs0]) rfl (by rw [zb_size]; exact info25) rfl (bcells_one Tlv.nought) ?_
  generalize (w.alloc (.cells (ndc A n c A' n' c' nd).toArray 27)).alloc (.cells (zb 32) 25) = w1 at *
  by_cases hkey : nd.key.length < 1 ∨ 96 < nd.key.length
  · have HE := Lib.hid (HALL.out 10 (enc_key hkey))
    rw [hn.1] at hkey
    clear hn hh hz
    rcases Nat.lt_or_ge n 1 with hn1 | hn1
    · have q1 : decide ((n : Int) < 1) = true := by simp; omega
      go_wp2_with fail
      go_ret2
      exact HE.out
    · have q1 : decide ((n : Int) < 1) = false := by simp; omega
      have q2 : decide (96 < (n : Int)) = true := by simp; omega
      go_wp2_with fail
      go_ret2
      exact HE.out
  have hn96 : n ≤ 96 := by omega
  have p1 : decide ((n : Int) < 1) = false := by simp; omega
  have p2 : decide (96 < (n : Int)) = false := by simp; omega
  have HQ := Lib.hid hkey
  clear hkey
  have hBAD : nd.may = false → Hid (REncPost w (Tlv.enc nd) (.returned (.tuple #[.slice none 0 0, .int .i64 12])) w1) := fun hm => Lib.hid (HALL.out 12 (enc_node HQ.out hm))
  rcases Int.lt_or_le h 0 with h0 | h0
  · have HE := hBAD (may_out (by omega))
    clear hBAD hn hh hz
    have q1 : decide (h < 0) = true := by simp; omega
    go_wp2_with fail
    go_ret2
    exact HE.out
  have p3 : decide (h < 0) = false := by simp; omega
  rcases Int.lt_or_le 64 h with h1 | h1
  · have HE := hBAD (may_out (by omega))
    clear hBAD hn hh hz
    have q1 : decide (64 < h) = true := by simp; omega
    go_wp2_with fail
    go_ret2
    exact HE.out
  have p4 : decide (64 < h) = false := by simp; omega
  rcases Nat.lt_or_ge 256 n' with hv | hv
  · have hm : nd.may = false := by
      rcases Int.lt_or_le 0 h with h2 | h2
      · rw [may_in (by omega) (by omega), hn.2, beq_eq_false_iff_ne]; omega
      · rw [may_leaf (by omega), hn.2, decide_eq_false (by omega)]; rfl
    have HE := hBAD hm
    clear hBAD hn hh hz hm
    have q1 : decide (256 < (n' : Int)) = true := by simp; omega
    go_wp2_with fail
    go_ret2
    exact HE.out
  have p5 : decide (256 < (n' : Int)) = false := by simp; omega
  have e1 := run_eq29 nd.l Tlv.nought HF.out.1 Tlv.nought_len
  have e2 := run_eq29 nd.r Tlv.nought HF.out.2.1 Tlv.nought_len
  rw [nought_cells] at e1 e2
  change ∀ w, Sem.run Try.prog (Op.equalIn 10000 25 (Value.agg (nd.l.map V8).toArray) (Value.agg (zb 32))) w = _ at e1
  change ∀ w, Sem.run Try.prog (Op.equalIn 10000 25 (Value.agg (nd.r.map V8).toArray) (Value.agg (zb 32))) w = _ at e2
  obtain ⟨bl, hbl⟩ : ∃ b, (nd.l == Tlv.nought) = b := ⟨_, rfl⟩
  obtain ⟨br, hbr⟩ : ∃ b, (nd.r == Tlv.nought) = b := ⟨_, rfl⟩
  rw [hbl] at e1
  rw [hbr] at e2
  have il : (Try.prog.info? 25).map (·.size) = some (nd.l.map V8).length := by rw [List.length_map, HF.out.1]; exact info25
  have ir : (Try.prog.info? 25).map (·.size) = some (nd.r.map V8).length := by rw [List.length_map, HF.out.2.1]; exact info25
  have HI := Lib.hid (And.intro il ir)
  clear il ir
  have hs2 : g0 + 2 ≤ w1.heap.size := by omega
  go_upto_region 6 with (fail)
  clear p1 p2 p3 p4 p5
  rcases Int.lt_or_le 0 h with h2 | h2
  · have q1 : decide (0 < h) = true := by simp; omega
    rcases Nat.eq_zero_or_pos n' with hz0 | hz0
    · have hm : nd.may = true := by rw [may_in (by omega) (by omega), hn.2, hz0]; rfl
      have q2 : decide (0 < n') = false := by simp; omega
      clear hBAD HALL e1 e2 hbl hbr hz
      obtain ⟨H, hH⟩ : ∃ H : Nat, h = H := ⟨h.toNat, by omega⟩
      subst hH
      have HHH := Lib.hid hh
      have hHb : 0 < H := by omega
      have hH64 : H ≤ 64 := by omega
      have q5 : ((H : Int) == 0) = false := by simp; omega
      have hm' := Lib.hid hm
      clear hh hz0 hm
      go_upto_region 8 with (fail)
      have hS0 : w1.drew.cell? ⟨g0, 0, none⟩ = some (.slice A n c) ∧ w1.drew.cell? ⟨g0, 1, none⟩ = some (.slice A' n' c') := ⟨c0, c1⟩
      refine wp_region_held_drew (S := fun u => u.cell? ⟨g0, 0, none⟩ = some (.slice A n c) ∧ u.cell? ⟨g0, 1, none⟩ = some (.slice A' n' c')) (by kernel_rfl) hS0 (fun hHeld => ?_)
      refine wpAnyH_take (i := 0) (oi := { dst := some 62, op := Op.fieldAddr 27 (Operand.tmp 1) 0, type := 0, pos := "ref.go:197", after := #[], guard := none }) (v := ?_) rfl (by kernel_rfl) (by kernel_rfl) (by kernel_rfl) (fun _ _ _ h => h) (Or.inl ⟨by rfl, ?_⟩) (by assumption) ?_
      rotate_left
      · first | (intro w hSw; (try dsimp only at hSw); go_simp; done) | (intro w hSw; (try dsimp only at hSw); go_simp; with_reducible rfl)
      simp only [Act.put, List.setIfInBounds_toArray, List.set_cons_zero, List.set_cons_succ]
      refine wpAnyH_take (i := 1) (oi := { dst := some 63, op := Op.load 22 (Operand.tmp 62), type := 22, pos := "ref.go:197", after := #[{ on := 0, ground := Ground.data }], guard := none }) (v := ?_) rfl (by kernel_rfl) (by kernel_rfl) (by kernel_rfl) (fun _ _ _ h => h) (Or.inl ⟨by rfl, ?_⟩) (by assumption) ?_
      rotate_left
      · first | (intro w hSw; (try dsimp only at hSw); go_simp; done) | (intro w hSw; (try dsimp only at hSw); go_simp; with_reducible rfl)
      simp only [Act.put, List.setIfInBounds_toArray, List.set_cons_zero, List.set_cons_succ]
      refine wpAnyH_take (i := 3) (oi := { dst := some 65, op := Op.fieldAddr 27 (Operand.tmp 1) 1, type := 0, pos := "ref.go:197", after := #[], guard := none }) (v := ?_) rfl (by kernel_rfl) (by kernel_rfl) (by kernel_rfl) (fun _ _ _ h => h) (Or.inl ⟨by rfl, ?_⟩) (by assumption) ?_
      rotate_left
      · first | (intro w hSw; (try dsimp only at hSw); go_simp; done) | (intro w hSw; (try dsimp only at hSw); go_simp; with_reducible rfl)
      simp only [Act.put, List.setIfInBounds_toArray, List.set_cons_zero, List.set_cons_succ]
      refine wpAnyH_take (i := 4) (oi := { dst := some 66, op := Op.load 22 (Operand.tmp 65), type := 22, pos := "ref.go:197", after := #[{ on := 3, ground := Ground.data }], guard := none }) (v := ?_) rfl (by kernel_rfl) (by kernel_rfl) (by kernel_rfl) (fun _ _ _ h => h) (Or.inl ⟨by rfl, ?_⟩) (by assumption) ?_
      rotate_left
      · first | (intro w hSw; (try dsimp only at hSw); go_simp; done) | (intro w hSw; (try dsimp only at hSw); go_simp; with_reducible rfl)
      simp only [Act.put, List.setIfInBounds_toArray, List.set_cons_zero, List.set_cons_succ]
      refine wpAnyH_ready (rs := [2]) (by kernel_rfl) (by simp) ?_
      refine AllReadyH.cons (o := { dst := some 64, op := Op.call { callee := Callee.value (Operand.func 16), args := #[Operand.const (Value.slice none 0 0), Operand.const (Value.int IntKind.u8 1), Operand.tmp 63], argTypes := #[22, 5, 22] }, type := 22, pos := "ref.go:197", after := #[{ on := 1, ground := Ground.data }], guard := none }) rfl (fun K hK => ?_) AllReadyH.nil
      go_simp
      refine (refPut_int none 0 0 [] 1 1 (by decide) A n c nd.key w1.drew Rd.nil (HR.out.key.more (by show g0 ≤ w1.heap.size; omega)) (by omega) (by omega)).mono ?_
      rintro e w2 ⟨A1, n1, k1, rfl, hr1, hb1⟩
      have hb1' : Below w1.heap.size w1 w2 := (Below.refl w1.heap.size w1).drew.trans hb1
      have d2 : w2.cell? ⟨g0, 0, none⟩ = some (.slice A n c) ∧ w2.cell? ⟨g0, 1, none⟩ = some (.slice A' n' c') := ⟨(hb1'.cell (p := ⟨g0, 0, none⟩) (by show g0 < _; omega)).trans c0, (hb1'.cell (p := ⟨g0, 1, none⟩) (by show g0 < _; omega)).trans c1⟩
      have hl1 : (Tlv.put [] 1 nd.key).length ≤ 99 := put_len (n := 0) (m := 96) (Nat.le_refl _) (by have := HKL.out; omega) rfl
      have hn1 : n1 ≤ 99 := by rw [← hr1.len]; exact hl1
      have HR1 := Lib.hid hr1
      have HB1 := Lib.hid hb1'
      have hs12 : w1.heap.size ≤ w2.heap.size := hb1'.size
      refine hK.out _ _ d2 (fun _ => ?_)
      clear hK K hHeld hS0 hr1 hb1 hb1'
      refine wpAnyH_ready (rs := [5]) (by kernel_rfl) (by simp) ?_
      refine AllReadyH.cons (o := { dst := some 67, op := Op.call { callee := Callee.value (Operand.func 16), args := #[Operand.tmp 64, Operand.const (Value.int IntKind.u8 2), Operand.tmp 66], argTypes := #[22, 5, 22] }, type := 22, pos := "ref.go:197", after := #[{ on := 2, ground := Ground.data }, { on := 4, ground := Ground.data }, { on := 2, ground := Ground.chain }], guard := none }) rfl (fun K hK => ?_) AllReadyH.nil
      go_simp
      have hv1 : Rd w2 g0 A' n' nd.value := HR.out.val.below HB1.out (by omega)
      have hv2 : Rd w2 w2.heap.size A' n' nd.value := hv1.more (by omega)
      have HP2 := refPut_int A1 n1 k1 (Tlv.put [] 1 nd.key) 2 2 (by decide) A' n' c' nd.value w2 HR1.out hv2 (by omega) (by omega)
      clear hv1 hv2
      refine HP2.mono ?_
      rintro e w3 ⟨A2, n2, k2, rfl, hr2, hb2⟩
      have d3 : w3.cell? ⟨g0, 0, none⟩ = some (.slice A n c) ∧ w3.cell? ⟨g0, 1, none⟩ = some (.slice A' n' c') := ⟨(hb2.cell (p := ⟨g0, 0, none⟩) (by show g0 < _; omega)).trans d2.1, (hb2.cell (p := ⟨g0, 1, none⟩) (by show g0 < _; omega)).trans d2.2⟩
      have hl2 : nd.front.length ≤ 358 := put_len (m := 256) hl1 (by have := HVL.out; omega) rfl
      have hn2 : n2 ≤ 358 := by rw [← hr2.len]; exact hl2
      have hr2' : Rd w3 w3.heap.size A2 n2 nd.front := hr2
      have HR2 := Lib.hid hr2'
      have HB2 := Lib.hid (HB1.out.trans (hb2.mono hs12))
      have hs23 : w1.heap.size ≤ w3.heap.size := HB2.out.size
      refine hK.out _ _ d3 (fun _ => ?_)
      have HW3 := Lib.hid (HW.out.below HB2.out (by omega))
      clear hK K d2 d3 hr2 hr2' hb2 HR1 HB1 hs12 hn1 hl1 hl2
      refine wpAnyH_take (i := 6) (oi := { dst := some 5, op := Op.assign (Operand.tmp 67), type := 22, pos := "ref.go:197", after := #[{ on := 5, ground := Ground.data }, { on := 5, ground := Ground.chain }, { on := 0, ground := Ground.phase }, { on := 1, ground := Ground.phase }, { on := 2, ground := Ground.phase }, { on := 3, ground := Ground.phase }, { on := 4, ground := Ground.phase }, { on := 5, ground := Ground.phase }], guard := none }) (v := ?_) rfl (by kernel_rfl) (by kernel_rfl) (by kernel_rfl) (fun _ _ _ h => h) (Or.inl ⟨by rfl, ?_⟩) (by assumption) ?_
      rotate_left
      · first | (intro w hSw; (try dsimp only at hSw); go_simp; done) | (intro w hSw; (try dsimp only at hSw); go_simp; with_reducible rfl)
      simp only [Act.put, List.setIfInBounds_toArray, List.set_cons_zero, List.set_cons_succ]
      refine wpAnyH_done (by kernel_rfl) ?_ _
      obtain ⟨k0, k1', k2', k3'⟩ := abox HW3.out
      rw [HHH.out] at k2'
      clear q1 q2
      have hwrap : IntKind.u64.wrap (H : Int) = (H : Int) := Int.emod_eq_of_lt (by omega) (by show (H : Int) < 18446744073709551616; omega)
      have HNUM := Lib.hid (refNum_any H (by omega) w3)
      go_wp2_with fail
      refine HNUM.out.mono ?_
      rintro e u4 ⟨An, nn, cn, rfl, hrn, hcn, hbn⟩
      have hnn : nn ≤ 8 := by rw [← hrn.len]; exact Tlv.num_len8 H (by omega)
      have HPUT := Lib.hid (refPut_int A2 n2 k2 nd.front 3 3 (by decide) An nn cn (Tlv.num H) u4 ((HR2.out.below hbn (Nat.le_refl _)).more hbn.size) hrn (by omega) (by omega))
      have HB3 := Lib.hid (HB2.out.trans (hbn.mono hs23))
      have hlf : nd.front.length ≤ 358 := by rw [HR2.out.len]; exact hn2
      have hl3 : (Tlv.put nd.front 3 (Tlv.num H)).length ≤ 369 := put_len (m := 8) hlf (Tlv.num_len8 H (by omega)) rfl
      have hs34 : w1.heap.size ≤ u4.heap.size := HB3.out.size
      clear HNUM hrn hcn hbn hnn hwrap k2' HR2 hs23 HB2 hlf k0 k1' k3'
      go_wp2_with fail
      refine HPUT.out.mono ?_
      rintro e w4 ⟨A3, n3, k3, rfl, hr3, hb3⟩
      have hn3 : n3 ≤ 369 := by rw [← hr3.len]; exact hl3
      have HR3 := Lib.hid hr3
      have HB4 := Lib.hid (HB3.out.trans (hb3.mono hs34))
      have hs4 : w1.heap.size ≤ w4.heap.size := HB4.out.size
      have HW4 := Lib.hid (HW.out.below HB4.out (by omega))
      clear hr3 hb3 HPUT HB3 hs34 HW3
      obtain ⟨k0, k1', k2', k3'⟩ := abox HW4.out
      obtain ⟨Z, hZ⟩ : ∃ Z, nd.z = Z := ⟨_, rfl⟩
      rw [hZ] at k3'
      have hZb : Z < 18446744073709551616 := by rw [← hZ]; exact HF.out.2.2
      have HZZ := Lib.hid hZ
      have HNUM := Lib.hid (refNum_any Z hZb w4)
      clear hZ k0 k1' k2'
      go_wp2_with fail
      refine HNUM.out.mono ?_
      rintro e u5 ⟨An, nn, cn, rfl, hrn, hcn, hbn⟩
      have hnn : nn ≤ 8 := by rw [← hrn.len]; exact Tlv.num_len8 Z hZb
      have HPUT := Lib.hid (refPut_int A3 n3 k3 (Tlv.put nd.front 3 (Tlv.num H)) 4 4 (by decide) An nn cn (Tlv.num Z) u5 ((HR3.out.below hbn (Nat.le_refl _)).more hbn.size) hrn (by omega) (by omega))
      have HB5 := Lib.hid (HB4.out.trans (hbn.mono hs4))
      have hl4 : (Tlv.put (Tlv.put nd.front 3 (Tlv.num H)) 4 (Tlv.num Z)).length ≤ 380 := put_len (m := 8) hl3 (Tlv.num_len8 Z hZb) rfl
      have hs45 : w1.heap.size ≤ u5.heap.size := HB5.out.size
      clear HNUM hrn hcn hbn hnn k3' HR3 hs4 HB4 hl3 hn3 HW4
      go_wp2_with fail
      refine HPUT.out.mono ?_
      rintro e w5 ⟨A4, n4, k4, rfl, hr4, hb4⟩
      have hn4 : n4 ≤ 380 := by rw [← hr4.len]; exact hl4
      have HR4 := Lib.hid hr4
      have HB6 := Lib.hid (HB5.out.trans (hb4.mono hs45))
      have hs6 : w1.heap.size ≤ w5.heap.size := HB6.out.size
      clear hr4 hb4 HPUT HB5 hs45
      go_upto_region 13 with (fail)
      have hS0 : True := trivial
      refine wp_region_held_drew (S := fun _ => True) (by kernel_rfl) hS0 (fun hHeld => ?_)
      refine wpAnyH_take (i := 0) (oi := { dst := some 83, op := Op.move (Operand.tmp 5), type := 22, pos := "ref.go:203", after := #[], guard := none }) (v := ?_) rfl (by kernel_rfl) (by kernel_rfl) (by kernel_rfl) (fun _ _ _ h => h) (Or.inl ⟨by rfl, ?_⟩) (by assumption) ?_
      rotate_left
      · first | (intro w hSw; (try dsimp only at hSw); go_simp; done) | (intro w hSw; (try dsimp only at hSw); go_simp; with_reducible rfl)
      simp only [Act.put, List.setIfInBounds_toArray, List.set_cons_zero, List.set_cons_succ]
      refine wpAnyH_take (i := 1) (oi := { dst := some 84, op := Op.fieldAddr 27 (Operand.tmp 1) 4, type := 0, pos := "ref.go:203", after := #[], guard := none }) (v := ?_) rfl (by kernel_rfl) (by kernel_rfl) (by kernel_rfl) (fun _ _ _ h => h) (Or.inl ⟨by rfl, ?_⟩) (by assumption) ?_
      rotate_left
      · first | (intro w hSw; (try dsimp only at hSw); go_simp; done) | (intro w hSw; (try dsimp only at hSw); go_simp; with_reducible rfl)
      simp only [Act.put, List.setIfInBounds_toArray, List.set_cons_zero, List.set_cons_succ]
      refine wpAnyH_take (i := 2) (oi := { dst := some 85, op := Op.slice 25 (Operand.tmp 84) none none none, type := 22, pos := "ref.go:203", after := #[{ on := 1, ground := Ground.data }], guard := none }) (v := ?_) rfl (by kernel_rfl) (by kernel_rfl) (by kernel_rfl) (fun _ _ _ h => h) (Or.inl ⟨by rfl, ?_⟩) (by assumption) ?_
      rotate_left
      · first | (intro w hSw; (try dsimp only at hSw); go_simp; done) | (intro w hSw; (try dsimp only at hSw); go_simp; with_reducible rfl)
      simp only [Act.put, List.setIfInBounds_toArray, List.set_cons_zero, List.set_cons_succ]
      refine wpAnyH_take (i := 4) (oi := { dst := some 87, op := Op.fieldAddr 27 (Operand.tmp 1) 5, type := 0, pos := "ref.go:203", after := #[], guard := none }) (v := ?_) rfl (by kernel_rfl) (by kernel_rfl) (by kernel_rfl) (fun _ _ _ h => h) (Or.inl ⟨by rfl, ?_⟩) (by assumption) ?_
      rotate_left
      · first | (intro w hSw; (try dsimp only at hSw); go_simp; done) | (intro w hSw; (try dsimp only at hSw); go_simp; with_reducible rfl)
      simp only [Act.put, List.setIfInBounds_toArray, List.set_cons_zero, List.set_cons_succ]
      refine wpAnyH_take (i := 5) (oi := { dst := some 88, op := Op.slice 25 (Operand.tmp 87) none none none, type := 22, pos := "ref.go:203", after := #[{ on := 4, ground := Ground.data }], guard := none }) (v := ?_) rfl (by kernel_rfl) (by kernel_rfl) (by kernel_rfl) (fun _ _ _ h => h) (Or.inl ⟨by rfl, ?_⟩) (by assumption) ?_
      rotate_left
      · first | (intro w hSw; (try dsimp only at hSw); go_simp; done) | (intro w hSw; (try dsimp only at hSw); go_simp; with_reducible rfl)
      simp only [Act.put, List.setIfInBounds_toArray, List.set_cons_zero, List.set_cons_succ]
      refine wpAnyH_ready (rs := [3]) (by kernel_rfl) (by simp) ?_
      refine AllReadyH.cons (o := { dst := some 86, op := Op.call { callee := Callee.value (Operand.func 16), args := #[Operand.tmp 83, Operand.const (Value.int IntKind.u8 5), Operand.tmp 85], argTypes := #[22, 5, 22] }, type := 22, pos := "ref.go:203", after := #[{ on := 0, ground := Ground.data }, { on := 2, ground := Ground.data }], guard := none }) rfl (fun K hK => ?_) AllReadyH.nil
      go_simp
      have hl32 : nd.l.length = 32 := HF.out.1
      have hr32 : nd.r.length = 32 := HF.out.2.1
      have hb5d : Below w1.heap.size w1 w5.drew := HB6.out.drew
      have HP5 := refPut_int A4 n4 k4 (Tlv.put (Tlv.put nd.front 3 (Tlv.num H)) 4 (Tlv.num Z)) 5 5 (by decide) (some ⟨g0, 4, none⟩) 32 32 nd.l w5.drew (by exact HR4.out) ((HRL.out.below hb5d (Nat.le_refl _)).more hs6) (by omega) (by omega)
      refine HP5.mono ?_
      rintro e w6 ⟨A5, n5, k5, rfl, hr5, hb5⟩
      have HR5 := Lib.hid hr5
      have HB7 := Lib.hid (hb5d.trans (hb5.mono hs6))
      have hl5 : (Tlv.put (Tlv.put (Tlv.put nd.front 3 (Tlv.num H)) 4 (Tlv.num Z)) 5 nd.l).length ≤ 415 := put_len (m := 32) hl4 (by omega) rfl
      have hn5 : n5 ≤ 415 := by rw [← hr5.len]; exact hl5
      have hs7 : w1.heap.size ≤ w6.heap.size := HB7.out.size
      refine hK.out _ _ trivial (fun _ => ?_)
      clear hK K hHeld hS0 HP5 hr5 hb5 hb5d HR4 HB6 hs6
      refine wpAnyH_ready (rs := [6]) (by kernel_rfl) (by simp) ?_
      refine AllReadyH.cons (o := { dst := some 89, op := Op.call { callee := Callee.value (Operand.func 16), args := #[Operand.tmp 86, Operand.const (Value.int IntKind.u8 6), Operand.tmp 88], argTypes := #[22, 5, 22] }, type := 22, pos := "ref.go:203", after := #[{ on := 3, ground := Ground.data }, { on := 5, ground := Ground.data }, { on := 3, ground := Ground.chain }], guard := none }) rfl (fun K hK => ?_) AllReadyH.nil
      go_simp
      have HP6 := refPut_int A5 n5 k5 (Tlv.put (Tlv.put (Tlv.put nd.front 3 (Tlv.num H)) 4 (Tlv.num Z)) 5 nd.l) 6 6 (by decide) (some ⟨g0, 36, none⟩) 32 32 nd.r w6 HR5.out ((HRR.out.below HB7.out (Nat.le_refl _)).more hs7) (by omega) (by omega)
      refine HP6.mono ?_
      rintro e w7 ⟨A6, n6, k6, rfl, hr6, hb6⟩
      have hfin : Hid (REncPost w (Tlv.enc nd) (.returned (.tuple #[.slice A6 n6 k6, .int .i64 0])) w7) := Lib.hid (by
        rw [enc_good HQ.out hm'.out]
        refine ⟨A6, n6, k6, rfl, ?_, ?_⟩
        · show Rd w7 w7.heap.size A6 n6 nd.bytes
          unfold Nd.bytes
          rw [if_pos (by rw [HHH.out]; omega)]
          unfold Nd.whole Nd.mid
          rw [HHH.out, HZZ.out]
          exact hr6
        · rw [HG.out]
          exact HB.out.trans ((HB7.out.trans (hb6.mono hs7)).mono (by omega)))
      refine hK.out _ _ trivial (fun _ => ?_)
      clear hK K HP6 hr6 hb6 HR5 HB7 hs7
      refine wpAnyH_take (i := 7) (oi := { dst := some 2, op := Op.assign (Operand.tmp 89), type := 22, pos := "ref.go:203", after := #[{ on := 6, ground := Ground.data }, { on := 6, ground := Ground.chain }, { on := 0, ground := Ground.phase }, { on := 1, ground := Ground.phase }, { on := 2, ground := Ground.phase }, { on := 3, ground := Ground.phase }, { on := 4, ground := Ground.phase }, { on := 5, ground := Ground.phase }, { on := 6, ground := Ground.phase }], guard := none }) (v := ?_) rfl (by kernel_rfl) (by kernel_rfl) (by kernel_rfl) (fun _ _ _ h => h) (Or.inl ⟨by rfl, ?_⟩) (by assumption) ?_
      rotate_left
      · first | (intro w hSw; (try dsimp only at hSw); go_simp; done) | (intro w hSw; (try dsimp only at hSw); go_simp; with_reducible rfl)
      simp only [Act.put, List.setIfInBounds_toArray, List.set_cons_zero, List.set_cons_succ]
      refine wpAnyH_take (i := 8) (oi := { dst := some 3, op := Op.assign (Operand.const (Value.int IntKind.i64 0)), type := 3, pos := "ref.go:203", after := #[{ on := 7, ground := Ground.chain }, { on := 0, ground := Ground.phase }, { on := 1, ground := Ground.phase }, { on := 2, ground := Ground.phase }, { on := 3, ground := Ground.phase }, { on := 4, ground := Ground.phase }, { on := 5, ground := Ground.phase }, { on := 6, ground := Ground.phase }, { on := 7, ground := Ground.phase }], guard := none }) (v := ?_) rfl (by kernel_rfl) (by kernel_rfl) (by kernel_rfl) (fun _ _ _ h => h) (Or.inl ⟨by rfl, ?_⟩) (by assumption) ?_
      rotate_left
      · first | (intro w hSw; (try dsimp only at hSw); go_simp; done) | (intro w hSw; (try dsimp only at hSw); go_simp; with_reducible rfl)
      simp only [Act.put, List.setIfInBounds_toArray, List.set_cons_zero, List.set_cons_succ]
      refine wpAnyH_done (by kernel_rfl) ?_ _
      go_wp2_with fail
      go_ret2
      exact hfin.out
    · have HE := hBAD (by rw [may_in (by omega) (by omega), hn.2, beq_eq_false_iff_ne]; omega)
      have q2 : decide (0 < n') = true := by simp; omega
      clear hBAD HALL e1 e2 hbl hbr hz hn hh
      go_wp2_with fail
      go_ret2
      exact HE.out
  · obtain rfl : h = 0 := by omega
    clear h0 h1 h2
    have hleaf := may_leaf hh
    rw [hz, hbl, hbr, hn.2, decide_eq_true (show n' ≤ 256 by omega)] at hleaf
    have hleaf' : nd.may = (decide (z = 1) && (bl && br)) := by rw [hleaf]; rfl
    clear hleaf
    have q4 : ((z : Int) != 1) = !(decide (z = 1)) := by
      by_cases h : z = 1
      · subst h; rfl
      · rw [decide_eq_false h]; simp; omega
    obtain ⟨d, hd⟩ : ∃ d, decide (z = 1) = d := ⟨_, rfl⟩
    rw [hd] at q4 hleaf'
    clear hd hbl hbr
    cases d with
    | false =>
      have q5 : ((z : Int) != 1) = true := q4
      have HE := hBAD (by rw [hleaf']; rfl)
      clear hBAD HALL e1 e2 hn hh hz q4 hleaf'
      go_wp2_with fail
      go_ret2
      exact HE.out
    | true =>
      have q5 : ((z : Int) != 1) = false := q4
      refine wp_region_lit ?_
      clear q4
      iterate 44 go_step
      refine wpList_load_w rfl 25 (.tmp 49) rfl g0 4 rfl _ _ HLR.out Try.underlying25 rfl HI.out.1 ?_
      refine wpList_load_g rfl 25 (.tmp 4) rfl (g0 + 1) rfl 25 (zb 32) _ HZ.out Try.underlying25 rfl (by rw [zb_size]; exact info25) ?_
      generalize nd.l.map V8 = L at *
      generalize nd.r.map V8 = R at *
      cases bl with
      | false =>
        have HE := hBAD (by rw [hleaf']; rfl)
        clear hBAD HALL hn hh hz hleaf'
        go_wp2_with fail
        go_ret2
        exact HE.out
      | true =>
        iterate 8 go_step
        refine wpList_load_w rfl 25 (.tmp 55) rfl g0 36 rfl _ _ HRG.out Try.underlying25 rfl HI.out.2 ?_
        refine wpList_load_g rfl 25 (.tmp 4) rfl (g0 + 1) rfl 25 (zb 32) _ HZ.out Try.underlying25 rfl (by rw [zb_size]; exact info25) ?_
        cases br with
        | false =>
          have HE := hBAD (by rw [hleaf']; rfl)
          clear hBAD HALL hn hh hz hleaf'
          go_wp2_with fail
          go_ret2
          exact HE.out
        | true =>
          have hm : nd.may = true := hleaf'
          have HHH := Lib.hid (And.intro hh hm)
          clear hBAD HALL hz hleaf' hh hm
          go_upto_region 8 with (fail)
          have hS0 : w1.drew.cell? ⟨g0, 0, none⟩ = some (.slice A n c) ∧ w1.drew.cell? ⟨g0, 1, none⟩ = some (.slice A' n' c') := ⟨c0, c1⟩
          refine wp_region_held_drew (S := fun u => u.cell? ⟨g0, 0, none⟩ = some (.slice A n c) ∧ u.cell? ⟨g0, 1, none⟩ = some (.slice A' n' c')) (by kernel_rfl) hS0 (fun hHeld => ?_)
          refine wpAnyH_take (i := 0) (oi := { dst := some 62, op := Op.fieldAddr 27 (Operand.tmp 1) 0, type := 0, pos := "ref.go:197", after := #[], guard := none }) (v := ?_) rfl (by kernel_rfl) (by kernel_rfl) (by kernel_rfl) (fun _ _ _ h => h) (Or.inl ⟨by rfl, ?_⟩) (by assumption) ?_
          rotate_left
          · first | (intro w hSw; (try dsimp only at hSw); go_simp; done) | (intro w hSw; (try dsimp only at hSw); go_simp; with_reducible rfl)
          simp only [Act.put, List.setIfInBounds_toArray, List.set_cons_zero, List.set_cons_succ]
          refine wpAnyH_take (i := 1) (oi := { dst := some 63, op := Op.load 22 (Operand.tmp 62), type := 22, pos := "ref.go:197", after := #[{ on := 0, ground := Ground.data }], guard := none }) (v := ?_) rfl (by kernel_rfl) (by kernel_rfl) (by kernel_rfl) (fun _ _ _ h => h) (Or.inl ⟨by rfl, ?_⟩) (by assumption) ?_
          rotate_left
          · first | (intro w hSw; (try dsimp only at hSw); go_simp; done) | (intro w hSw; (try dsimp only at hSw); go_simp; with_reducible rfl)
          simp only [Act.put, List.setIfInBounds_toArray, List.set_cons_zero, List.set_cons_succ]
          refine wpAnyH_take (i := 3) (oi := { dst := some 65, op := Op.fieldAddr 27 (Operand.tmp 1) 1, type := 0, pos := "ref.go:197", after := #[], guard := none }) (v := ?_) rfl (by kernel_rfl) (by kernel_rfl) (by kernel_rfl) (fun _ _ _ h => h) (Or.inl ⟨by rfl, ?_⟩) (by assumption) ?_
          rotate_left
          · first | (intro w hSw; (try dsimp only at hSw); go_simp; done) | (intro w hSw; (try dsimp only at hSw); go_simp; with_reducible rfl)
          simp only [Act.put, List.setIfInBounds_toArray, List.set_cons_zero, List.set_cons_succ]
          refine wpAnyH_take (i := 4) (oi := { dst := some 66, op := Op.load 22 (Operand.tmp 65), type := 22, pos := "ref.go:197", after := #[{ on := 3, ground := Ground.data }], guard := none }) (v := ?_) rfl (by kernel_rfl) (by kernel_rfl) (by kernel_rfl) (fun _ _ _ h => h) (Or.inl ⟨by rfl, ?_⟩) (by assumption) ?_
          rotate_left
          · first | (intro w hSw; (try dsimp only at hSw); go_simp; done) | (intro w hSw; (try dsimp only at hSw); go_simp; with_reducible rfl)
          simp only [Act.put, List.setIfInBounds_toArray, List.set_cons_zero, List.set_cons_succ]
          refine wpAnyH_ready (rs := [2]) (by kernel_rfl) (by simp) ?_
          refine AllReadyH.cons (o := { dst := some 64, op := Op.call { callee := Callee.value (Operand.func 16), args := #[Operand.const (Value.slice none 0 0), Operand.const (Value.int IntKind.u8 1), Operand.tmp 63], argTypes := #[22, 5, 22] }, type := 22, pos := "ref.go:197", after := #[{ on := 1, ground := Ground.data }], guard := none }) rfl (fun K hK => ?_) AllReadyH.nil
          go_simp
          refine (refPut_int none 0 0 [] 1 1 (by decide) A n c nd.key w1.drew Rd.nil (HR.out.key.more (by show g0 ≤ w1.heap.size; omega)) (by omega) (by omega)).mono ?_
          rintro e w2 ⟨A1, n1, k1, rfl, hr1, hb1⟩
          have hb1' : Below w1.heap.size w1 w2 := (Below.refl w1.heap.size w1).drew.trans hb1
          have d2 : w2.cell? ⟨g0, 0, none⟩ = some (.slice A n c) ∧ w2.cell? ⟨g0, 1, none⟩ = some (.slice A' n' c') := ⟨(hb1'.cell (p := ⟨g0, 0, none⟩) (by show g0 < _; omega)).trans c0, (hb1'.cell (p := ⟨g0, 1, none⟩) (by show g0 < _; omega)).trans c1⟩
          have hl1 : (Tlv.put [] 1 nd.key).length ≤ 99 := put_len (n := 0) (m := 96) (Nat.le_refl _) (by have := HKL.out; omega) rfl
          have hn1 : n1 ≤ 99 := by rw [← hr1.len]; exact hl1
          have HR1 := Lib.hid hr1
          have HB1 := Lib.hid hb1'
          have hs12 : w1.heap.size ≤ w2.heap.size := hb1'.size
          refine hK.out _ _ d2 (fun _ => ?_)
          clear hK K hHeld hS0 hr1 hb1 hb1'
          refine wpAnyH_ready (rs := [5]) (by kernel_rfl) (by simp) ?_
          refine AllReadyH.cons (o := { dst := some 67, op := Op.call { callee := Callee.value (Operand.func 16), args := #[Operand.tmp 64, Operand.const (Value.int IntKind.u8 2), Operand.tmp 66], argTypes := #[22, 5, 22] }, type := 22, pos := "ref.go:197", after := #[{ on := 2, ground := Ground.data }, { on := 4, ground := Ground.data }, { on := 2, ground := Ground.chain }], guard := none }) rfl (fun K hK => ?_) AllReadyH.nil
          go_simp
          have hv1 : Rd w2 g0 A' n' nd.value := HR.out.val.below HB1.out (by omega)
          have hv2 : Rd w2 w2.heap.size A' n' nd.value := hv1.more (by omega)
          have HP2 := refPut_int A1 n1 k1 (Tlv.put [] 1 nd.key) 2 2 (by decide) A' n' c' nd.value w2 HR1.out hv2 (by omega) (by omega)
          clear hv1 hv2
          refine HP2.mono ?_
          rintro e w3 ⟨A2, n2, k2, rfl, hr2, hb2⟩
          have d3 : w3.cell? ⟨g0, 0, none⟩ = some (.slice A n c) ∧ w3.cell? ⟨g0, 1, none⟩ = some (.slice A' n' c') := ⟨(hb2.cell (p := ⟨g0, 0, none⟩) (by show g0 < _; omega)).trans d2.1, (hb2.cell (p := ⟨g0, 1, none⟩) (by show g0 < _; omega)).trans d2.2⟩
          have hl2 : nd.front.length ≤ 358 := put_len (m := 256) hl1 (by have := HVL.out; omega) rfl
          have hn2 : n2 ≤ 358 := by rw [← hr2.len]; exact hl2
          have hr2' : Rd w3 w3.heap.size A2 n2 nd.front := hr2
          have HR2 := Lib.hid hr2'
          have HB2 := Lib.hid (HB1.out.trans (hb2.mono hs12))
          have hs23 : w1.heap.size ≤ w3.heap.size := HB2.out.size
          refine hK.out _ _ d3 (fun _ => ?_)
          have HW3 := Lib.hid (HW.out.below HB2.out (by omega))
          clear hK K d2 d3 hr2 hr2' hb2 HR1 HB1 hs12 hn1 hl1 hl2
          refine wpAnyH_take (i := 6) (oi := { dst := some 5, op := Op.assign (Operand.tmp 67), type := 22, pos := "ref.go:197", after := #[{ on := 5, ground := Ground.data }, { on := 5, ground := Ground.chain }, { on := 0, ground := Ground.phase }, { on := 1, ground := Ground.phase }, { on := 2, ground := Ground.phase }, { on := 3, ground := Ground.phase }, { on := 4, ground := Ground.phase }, { on := 5, ground := Ground.phase }], guard := none }) (v := ?_) rfl (by kernel_rfl) (by kernel_rfl) (by kernel_rfl) (fun _ _ _ h => h) (Or.inl ⟨by rfl, ?_⟩) (by assumption) ?_
          rotate_left
          · first | (intro w hSw; (try dsimp only at hSw); go_simp; done) | (intro w hSw; (try dsimp only at hSw); go_simp; with_reducible rfl)
          simp only [Act.put, List.setIfInBounds_toArray, List.set_cons_zero, List.set_cons_succ]
          refine wpAnyH_done (by kernel_rfl) ?_ _
          obtain ⟨k0, k1', k2', k3'⟩ := abox HW3.out
          rw [HHH.out.1] at k2'
          have hfin : Hid (REncPost w (Tlv.enc nd) (.returned (.tuple #[.slice A2 n2 k2, .int .i64 0])) w3) := Lib.hid (by
            rw [enc_good HQ.out HHH.out.2]
            refine ⟨A2, n2, k2, rfl, ?_, ?_⟩
            · show Rd w3 w3.heap.size A2 n2 nd.bytes
              unfold Nd.bytes
              rw [if_neg (by rw [HHH.out.1]; omega)]
              unfold Nd.mid
              rw [HHH.out.1, show (0 : Int).toNat = 0 from rfl, Tlv.num_zero, Tlv.put_nil]
              exact HR2.out
            · rw [HG.out]
              exact HB.out.trans (HB2.out.mono (by omega)))
          clear HR2 HB2 hs23 HW3
          go_wp2_with fail
          go_ret2
          exact hfin.out
end Go.Proofs.Ytemagoacjpilaaa
