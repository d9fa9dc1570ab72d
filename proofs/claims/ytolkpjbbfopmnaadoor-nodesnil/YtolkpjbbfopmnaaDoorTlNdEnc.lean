/-
  What Encode returns: an error's number, and the node's bytes; condition: the node can be read, its sums have 32 bytes, its size is one of 64 bits. It only makes memory of its own.
-/
import Derived.Test.YtolkpjbbfopmnaaDoorTlNdMay
import Derived.Test.YtolkpjbbfopmnaaDoorTlNum
namespace Go.Proofs.YtolkpjbbfopmnaaDoor.Tl
open Go.RowKit
open Tlv (Nd)

def EncPost (w : World) (r : Nat × List UInt8) (e : Ending) (w' : World) : Prop :=
  ∃ A n c, e = .returned (.tuple #[.slice A n c, .int .i64 r.1]) ∧ Rd w' w'.heap.size A n r.2 ∧ n ≤ c ∧ Below w.heap.size w w'
/-- As EncPost; the bytes lie in a new block. -/
def EncNew (w : World) (r : Nat × List UInt8) (e : Ending) (w' : World) : Prop :=
  ∃ A n c, e = .returned (.tuple #[.slice A n c, .int .i64 r.1]) ∧ Rd w' w'.heap.size A n r.2 ∧ n ≤ c ∧ Fresh w.heap.size w' A ∧ Below w.heap.size w w'
theorem enc_key {nd : Nd} (h : nd.key.length < 1 ∨ 96 < nd.key.length) : Tlv.enc nd = (10, []) := by unfold Tlv.enc; rw [if_pos h]
theorem enc_node {nd : Nd} (h : ¬ (nd.key.length < 1 ∨ 96 < nd.key.length)) (h2 : nd.may = false) : Tlv.enc nd = (12, []) := by unfold Tlv.enc; rw [if_neg h, if_pos h2]
theorem enc_good {nd : Nd} (h : ¬ (nd.key.length < 1 ∨ 96 < nd.key.length)) (h2 : nd.may = true) : Tlv.enc nd = (0, nd.bytes) := by unfold Tlv.enc; rw [if_neg h, if_neg (by rw [h2]; simp)]
theorem may_bounds {nd : Nd} (h : nd.may = true) : 0 ≤ nd.h ∧ nd.h ≤ 64 ∧ nd.value.length ≤ 256 := by
  unfold Nd.may at h
  split at h
  · simp at h
  · split at h
    · simp at h
      rw [h]; simp; omega
    · simp at h
      omega
theorem put_len {b v : List UInt8} {t : UInt8} {n k m : Nat} (hb : b.length ≤ n) (hv : v.length ≤ m) (hk : n + m + 3 = k) : (Tlv.put b t v).length ≤ k := by
  have := Tlv.put_length b t v
  omega

set_option maxRecDepth 100000 in
set_option maxHeartbeats 1000000 in
theorem encode_new (A : Option Addr) (n c : Nat) (A' : Option Addr) (n' c' : Nat) (nd : Nd) (w : World) (hr : NRd w w.heap.size A n c A' n' c' nd) (hf : nd.fit) :
    Calls Tryd.prog 47 #[.agg (ndc A n c A' n' c' nd).toArray] w (EncNew w (Tlv.enc nd)) := by
  have hmf : ∀ (fn : Fn) (first cap : Array Value) (w : World), (Instr.makeFunc fn first cap).run Tryd.prog w = .ok (.func fn first cap) w := fun _ _ _ _ => rfl
  have hb : Below w.heap.size w (w.alloc (.cells (ndc A n c A' n' c' nd).toArray 47)) := (Below.refl _ _).alloc (Nat.le_refl _) _
  have hw := Whole.made w 47 (ndc A n c A' n' c' nd).toArray
  have hs0 : (w.alloc (.cells (ndc A n c A' n' c' nd).toArray 47)).heap.size = w.heap.size + 1 := size_alloc _ _
  obtain ⟨c0, c1, c2, c3⟩ := abox hw
  have HKL := Lib.hid hr.key.len
  have HVL := Lib.hid hr.val.len
  have HR := Lib.hid (hr.below hb (Nat.le_refl _))
  have HRL := Lib.hid (abox_l hw hf.1)
  have HRR := Lib.hid (abox_r hw hf.1 hf.2.1)
  have HF := Lib.hid hf
  have HB := Lib.hid hb
  have HMAY := Lib.hid (mayBe_any A n c A' n' c' nd (w.alloc (.cells (ndc A n c A' n' c' nd).toArray 47)) hr.val.len hf)
  have HI : Hid ((Tryd.prog.info? 47).map (·.size) = some (ndc A n c A' n' c' nd).toArray.size) := Lib.hid (by rw [List.size_toArray, ndc_len hf]; exact info27)
  have HW := Lib.hid hw
  clear hr hb hw hf
  obtain ⟨g0, hg0⟩ : ∃ g, w.heap.size = g := ⟨_, rfl⟩
  rw [hg0] at HR HRL HRR HB HW c0 c1 c2 c3 hs0
  have HG := Lib.hid hg0
  generalize hX : (ndc A n c A' n' c' nd).toArray = X at *
  have HX := Lib.hid hX
  clear hX
  by_cases hkey : nd.key.length < 1 ∨ 96 < nd.key.length
  · rw [enc_key hkey]
    rw [HKL.out] at hkey
    have hb1 : Hid (EncNew w (10, []) (.returned (.tuple #[.slice none 0 0, .int .i64 10])) (w.alloc (.cells X 47))) := Lib.hid ⟨none, 0, 0, rfl, Rd.nil, Nat.le_refl _, fun _ _ e => (by cases e), by rw [HG.out]; exact HB.out⟩
    rcases Nat.lt_or_ge n 1 with hn1 | hn1
    · have q1 : decide ((n : Int) < 1) = true := by simp; omega
      clear hkey hn1
      go_enter Tryd.func47, Tryd.ntmps47
      go_upto_region 1 with (fail)
      clear hg0
      generalize w.alloc (.cells X 47) = w1 at *
      go_wp2_with fail
      go_ret2
      exact hb1.out
    · have q1 : decide ((n : Int) < 1) = false := by simp; omega
      have q2 : decide (96 < (n : Int)) = true := by simp; omega
      clear hkey hn1
      go_enter Tryd.func47, Tryd.ntmps47
      go_upto_region 1 with (fail)
      clear hg0
      generalize w.alloc (.cells X 47) = w1 at *
      go_wp2_with fail
      go_ret2
      exact hb1.out
  have q1 : decide ((n : Int) < 1) = false := by have := HKL.out; simp; omega
  have q2 : decide (96 < (n : Int)) = false := by have := HKL.out; simp; omega
  have hn96 : n ≤ 96 := by have := HKL.out; omega
  have HQ := Lib.hid hkey
  clear hkey
  go_enter Tryd.func47, Tryd.ntmps47
  go_upto_region 1 with (fail)
  clear hg0
  generalize w.alloc (.cells X 47) = w1 at *
  go_upto_region 3 with (fail)
  refine wp_region_lit ?_
  refine wpList_load_g rfl 47 (.tmp 1) rfl g0 rfl 47 X _ HW.out Tryd.underlying47 rfl HI.out ?_
  go_wp2_with fail
  refine HMAY.out.mono ?_
  rintro e w2 ⟨rfl, hbm⟩
  cases hm : nd.may with
  | false =>
    have hb2 : Hid (EncNew w (Tlv.enc nd) (.returned (.tuple #[.slice none 0 0, .int .i64 12])) w2) := Lib.hid (by rw [enc_node HQ.out hm]; exact ⟨none, 0, 0, rfl, Rd.nil, Nat.le_refl _, fun _ _ e => (by cases e), by rw [HG.out]; exact HB.out.trans (hbm.mono (by omega))⟩)
    clear hbm hm
    go_wp2_with fail
    go_ret2
    exact hb2.out
  | true =>
    have HENC := Lib.hid (enc_good HQ.out hm)
    obtain ⟨hh0, hh1, hvl⟩ := may_bounds hm
    have hs1 : g0 + 1 ≤ w2.heap.size := by rw [← hs0]; exact hbm.size
    have hbA : Below w2.heap.size w2 (w2.alloc (.cells #[.slice none 0 0] 31)) := (Below.refl _ _).alloc (Nat.le_refl _) _
    have hbB : Below w1.heap.size w1 (w2.alloc (.cells #[.slice none 0 0] 31)) := hbm.trans (hbA.mono hbm.size)
    have hbC : Below g0 w (w2.alloc (.cells #[.slice none 0 0] 31)) := HB.out.trans (hbB.mono (by omega))
    have hc := Whole.made w2 31 #[.slice none 0 0]
    have hp0 : PutAt (w2.alloc (.cells #[.slice none 0 0] 31)) w2.heap.size [] (w2.alloc (.cells #[.slice none 0 0] 31)) := ⟨none, 0, 0, hc, Rd.nil, Nat.le_refl _, fun b o e => by simp at e, Below.refl _ _⟩
    have hR := (HR.out.below (hbB.mono (by omega)) (Nat.le_refl _)).more (B' := w2.heap.size) (by omega)
    have hRL := (HRL.out.below hbB (Nat.le_refl _)).more (B' := w2.heap.size) (by omega)
    have hRR := (HRR.out.below hbB (Nat.le_refl _)).more (B' := w2.heap.size) (by omega)
    have hX3 := HW.out.below hbB (by omega)
    go_upto_region 6 with (fail)
    generalize w2.alloc (.cells #[.slice none 0 0] 31) = w3 at *
    obtain ⟨g, hg⟩ : ∃ g, w2.heap.size = g := ⟨_, rfl⟩
    rw [hg] at hp0 hR hRL hRR hs1 ⊢
    have hvl' : n' ≤ 256 := by have := HVL.out; omega
    have hz : nd.z < 18446744073709551616 := HF.out.2.2
    have HP0 := Lib.hid hp0
    have HR3 := Lib.hid hR
    have HRL3 := Lib.hid hRL
    have HRR3 := Lib.hid hRR
    rw [← HX.out] at hX3
    obtain ⟨c0, c1, c2, c3⟩ := abox hX3
    have HC := Lib.hid (And.intro c0 (And.intro c1 (And.intro c2 c3)))
    have HBC := Lib.hid hbC
    obtain ⟨H, hH⟩ : ∃ H : Nat, nd.h = H := ⟨nd.h.toNat, by omega⟩
    have hH64 : H ≤ 64 := by omega
    have hgg : g0 < g := by omega
    obtain ⟨z, hz'⟩ : ∃ z, nd.z = z := ⟨_, rfl⟩
    have HHZ := Lib.hid (And.intro hH hz')
    have hzb : z < 18446744073709551616 := by rw [← hz']; exact hz
    have HL0 : Hid (([] : List UInt8).length ≤ 0) := Lib.hid (Nat.le_refl _)
    clear hbm hbA hbB hbC hc hp0 hR hRL hRR hX3 HMAY HR HRL HRR HW HB HI HX hg hs0 hs1 c0 c1 c2 c3 hm hh0 hh1 hvl hH hz hz' HF
    have hB0 := HP0.out
    obtain ⟨_, _, _, hWg, _, _, _, hB0⟩ := hB0
    have hgw0 := hWg.lt
    have HBB := Lib.hid hB0
    clear hWg hB0
    have k0 := (HBB.out.cell (p := ⟨g0, 0, none⟩) (by show g0 < _; omega)).trans HC.out.1
    have HPUT := Lib.hid (put1_any w3 g ([] : List UInt8) nd.key 1 A n c w3 HP0.out ((HR3.out.key.below HBB.out (Nat.le_refl _)).more (by omega)) (by omega) (by have := HL0.out; omega))
    clear hgw0
    go_wp2_with fail
    refine HPUT.out.mono ?_
    rintro e w4 ⟨rfl, hp⟩
    have HP1 := Lib.hid hp
    clear hp HPUT k0 HP0 HBB
    have HL1 : Hid ((Tlv.put ([] : List UInt8) 1 nd.key).length ≤ 99) := Lib.hid (put_len (m := 96) HL0.out (by first | (have := HKL.out; omega) | (have := HVL.out; omega)) rfl)
    clear HL0
    have hB1 := HP1.out
    obtain ⟨_, _, _, hWg, _, _, _, hB1⟩ := hB1
    have hgw1 := hWg.lt
    have HBB := Lib.hid hB1
    clear hWg hB1
    have k1 := (HBB.out.cell (p := ⟨g0, 1, none⟩) (by show g0 < _; omega)).trans HC.out.2.1
    have HPUT := Lib.hid (put1_any w3 g (Tlv.put ([] : List UInt8) 1 nd.key) nd.value 2 A' n' c' w4 HP1.out ((HR3.out.val.below HBB.out (Nat.le_refl _)).more (by omega)) (by omega) (by have := HL1.out; omega))
    clear hgw1
    go_wp2_with fail
    refine HPUT.out.mono ?_
    rintro e w5 ⟨rfl, hp⟩
    have HP2 := Lib.hid hp
    clear hp HPUT k1 HP1 HBB
    have HL2 : Hid ((Tlv.put (Tlv.put ([] : List UInt8) 1 nd.key) 2 nd.value).length ≤ 358) := Lib.hid (put_len (m := 256) HL1.out (by first | (have := HKL.out; omega) | (have := HVL.out; omega)) rfl)
    clear HL1
    have hB2 := HP2.out
    obtain ⟨_, _, _, hWg, _, _, _, hB2⟩ := hB2
    have hgw2 := hWg.lt
    have HBB := Lib.hid hB2
    clear hWg hB2
    have k2 := (HBB.out.cell (p := ⟨g0, 2, none⟩) (by show g0 < _; omega)).trans HC.out.2.2.1
    rw [HHZ.out.1] at k2
    have hwrap : IntKind.u64.wrap (H : Int) = (H : Int) := Int.emod_eq_of_lt (by omega) (by show (H : Int) < 18446744073709551616; omega)
    have HNUM := Lib.hid (num_any H (by omega) w5)
    go_wp2_with fail
    refine HNUM.out.mono ?_
    rintro e w6n ⟨An, nn, cn, rfl, hrn, hcn, hbn⟩
    have hpn : PutAt w3 g (Tlv.put (Tlv.put ([] : List UInt8) 1 nd.key) 2 nd.value) w6n := by
      obtain ⟨Ag, ng, cg, hWg, hRg, hcg, hng, hBg⟩ := HP2.out
      exact ⟨Ag, ng, cg, hWg.below hbn hgw2, (hRg.below hbn (Nat.le_refl _)).more hbn.size, hcg, hng.below hbn (Nat.le_refl _), hBg.trans (hbn.mono (by omega))⟩
    have hnn : nn ≤ 8 := by rw [← hrn.len]; exact Tlv.num_len8 H (by omega)
    have HPUT := Lib.hid (put1_any w3 g (Tlv.put (Tlv.put ([] : List UInt8) 1 nd.key) 2 nd.value) (Tlv.num H) 3 An nn cn w6n hpn hrn (by omega) (by have := HL2.out; omega))
    clear HNUM hrn hcn hbn hpn hnn hwrap k2 hgw2 HP2 HBB
    go_wp2_with fail
    refine HPUT.out.mono ?_
    rintro e w6 ⟨rfl, hp⟩
    have HP3 := Lib.hid hp
    clear hp HPUT
    have HL3 : Hid ((Tlv.put (Tlv.put (Tlv.put ([] : List UInt8) 1 nd.key) 2 nd.value) 3 (Tlv.num H)).length ≤ 369) := Lib.hid (put_len (m := 8) HL2.out (Tlv.num_len8 H (by omega)) rfl)
    clear HL2
    have hB3 := HP3.out
    obtain ⟨_, _, _, hWg, _, _, _, hB3⟩ := hB3
    have HBB := Lib.hid hB3
    clear hWg hB3
    have HBY : Hid (Nd.bytes nd = if 0 < H then Nd.whole nd else Nd.mid nd) := Lib.hid (by unfold Nd.bytes; rw [HHZ.out.1]; simp)
    rcases Nat.eq_zero_or_pos H with hH0 | hH0
    · subst hH0
      have k2 := (HBB.out.cell (p := ⟨g0, 2, none⟩) (by show g0 < _; omega)).trans HC.out.2.2.1
      rw [HHZ.out.1] at k2
      have hcell := HP3.out
      obtain ⟨A3, n3, c3, hW3, hR3, hnc3, hnw3, hB3⟩ := hcell
      have kg := hW3.at_ (i := 0) rfl
      have HFIN : Hid (EncNew w (Tlv.enc nd) (.returned (.tuple #[.slice A3 n3 c3, .int .i64 0])) w6) := Lib.hid (by rw [HENC.out, HBY.out, if_neg (by omega)]; exact ⟨A3, n3, c3, rfl, by unfold Nd.mid Nd.front; rw [HHZ.out.1]; exact hR3, hnc3, fun b o e => by (have h1 := hnw3 b o e; have h2 := HG.out; exact ⟨by omega, h1.2⟩), by rw [HG.out]; exact HBC.out.trans (hB3.mono (by omega))⟩)
      clear hW3 hR3 hB3 hnw3
      go_wp2_with fail
      go_ret2
      exact HFIN.out
    have q3 : decide (0 < (H : Int)) = true := by simp; omega
    have k2 := (HBB.out.cell (p := ⟨g0, 2, none⟩) (by show g0 < _; omega)).trans HC.out.2.2.1
    rw [HHZ.out.1] at k2
    have hB3 := HP3.out
    obtain ⟨_, _, _, hWg, _, _, _, hB3⟩ := hB3
    have hgw3 := hWg.lt
    have HBB := Lib.hid hB3
    clear hWg hB3
    have k3 := (HBB.out.cell (p := ⟨g0, 3, none⟩) (by show g0 < _; omega)).trans HC.out.2.2.2
    rw [HHZ.out.2] at k3
    have HNUM := Lib.hid (num_any z (by omega) w6)
    go_wp2_with fail
    refine HNUM.out.mono ?_
    rintro e w7n ⟨An, nn, cn, rfl, hrn, hcn, hbn⟩
    have hpn : PutAt w3 g (Tlv.put (Tlv.put (Tlv.put ([] : List UInt8) 1 nd.key) 2 nd.value) 3 (Tlv.num H)) w7n := by
      obtain ⟨Ag, ng, cg, hWg, hRg, hcg, hng, hBg⟩ := HP3.out
      exact ⟨Ag, ng, cg, hWg.below hbn hgw3, (hRg.below hbn (Nat.le_refl _)).more hbn.size, hcg, hng.below hbn (Nat.le_refl _), hBg.trans (hbn.mono (by omega))⟩
    have hnn : nn ≤ 8 := by rw [← hrn.len]; exact Tlv.num_len8 z (by omega)
    have HPUT := Lib.hid (put1_any w3 g (Tlv.put (Tlv.put (Tlv.put ([] : List UInt8) 1 nd.key) 2 nd.value) 3 (Tlv.num H)) (Tlv.num z) 4 An nn cn w7n hpn hrn (by omega) (by have := HL3.out; omega))
    clear HNUM hrn hcn hbn hpn hnn  k3 hgw3 HP3 HBB
    go_wp2_with fail
    refine HPUT.out.mono ?_
    rintro e w7 ⟨rfl, hp⟩
    have HP4 := Lib.hid hp
    clear hp HPUT
    have HL4 : Hid ((Tlv.put (Tlv.put (Tlv.put (Tlv.put ([] : List UInt8) 1 nd.key) 2 nd.value) 3 (Tlv.num H)) 4 (Tlv.num z)).length ≤ 380) := Lib.hid (put_len (m := 8) HL3.out (Tlv.num_len8 z (by omega)) rfl)
    clear HL3
    have hB4 := HP4.out
    obtain ⟨_, _, _, hWg, _, _, _, hB4⟩ := hB4
    have hgw4 := hWg.lt
    have HBB := Lib.hid hB4
    clear hWg hB4
    have HPUT := Lib.hid (put1_any w3 g (Tlv.put (Tlv.put (Tlv.put (Tlv.put ([] : List UInt8) 1 nd.key) 2 nd.value) 3 (Tlv.num H)) 4 (Tlv.num z)) nd.l 5 (some ⟨g0, 4, none⟩) 32 32 w7 HP4.out ((HRL3.out.below HBB.out (Nat.le_refl _)).more (by omega)) (by omega) (by have := HL4.out; omega))
    have h32 : nd.l.length = 32 := HRL3.out.len
    have HL5 : Hid ((Tlv.put (Tlv.put (Tlv.put (Tlv.put (Tlv.put ([] : List UInt8) 1 nd.key) 2 nd.value) 3 (Tlv.num H)) 4 (Tlv.num z)) 5 nd.l).length ≤ 415) := Lib.hid (put_len (m := 32) HL4.out (Nat.le_of_eq h32) rfl)
    clear hgw4 h32 HL4
    go_wp2_with fail
    refine HPUT.out.mono ?_
    rintro e w8 ⟨rfl, hp⟩
    have HP5 := Lib.hid hp
    clear hp HPUT HP4 HBB
    have hB5 := HP5.out
    obtain ⟨_, _, _, hWg, _, _, _, hB5⟩ := hB5
    have hgw5 := hWg.lt
    have HBB := Lib.hid hB5
    clear hWg hB5
    have HPUT := Lib.hid (put1_any w3 g (Tlv.put (Tlv.put (Tlv.put (Tlv.put (Tlv.put ([] : List UInt8) 1 nd.key) 2 nd.value) 3 (Tlv.num H)) 4 (Tlv.num z)) 5 nd.l) nd.r 6 (some ⟨g0, 36, none⟩) 32 32 w8 HP5.out ((HRR3.out.below HBB.out (Nat.le_refl _)).more (by omega)) (by omega) (by have := HL5.out; omega))
    have h32 : nd.r.length = 32 := HRR3.out.len
    have HL6 : Hid ((Tlv.put (Tlv.put (Tlv.put (Tlv.put (Tlv.put (Tlv.put ([] : List UInt8) 1 nd.key) 2 nd.value) 3 (Tlv.num H)) 4 (Tlv.num z)) 5 nd.l) 6 nd.r).length ≤ 450) := Lib.hid (put_len (m := 32) HL5.out (Nat.le_of_eq h32) rfl)
    clear hgw5 h32 HL5
    go_wp2_with fail
    refine HPUT.out.mono ?_
    rintro e w9 ⟨rfl, hp⟩
    have HP6 := Lib.hid hp
    clear hp HPUT HP5 HBB
    have hcell := HP6.out
    obtain ⟨A6, n6, c6, hW6, hR6, hnc6, hnw6, hB6⟩ := hcell
    have kg := hW6.at_ (i := 0) rfl
    have HFIN : Hid (EncNew w (Tlv.enc nd) (.returned (.tuple #[.slice A6 n6 c6, .int .i64 0])) w9) := Lib.hid (by rw [HENC.out, HBY.out, if_pos hH0]; exact ⟨A6, n6, c6, rfl, by unfold Nd.whole Nd.mid Nd.front; rw [HHZ.out.1, HHZ.out.2]; exact hR6, hnc6, fun b o e => by (have h1 := hnw6 b o e; have h2 := HG.out; exact ⟨by omega, h1.2⟩), by rw [HG.out]; exact HBC.out.trans (hB6.mono (by omega))⟩)
    clear hW6 hR6 hB6 hnw6
    go_wp2_with fail
    go_ret2
    exact HFIN.out
theorem encode_any (A : Option Addr) (n c : Nat) (A' : Option Addr) (n' c' : Nat) (nd : Nd) (w : World) (hr : NRd w w.heap.size A n c A' n' c' nd) (hf : nd.fit) :
    Calls Tryd.prog 47 #[.agg (ndc A n c A' n' c' nd).toArray] w (EncPost w (Tlv.enc nd)) :=
  (encode_new A n c A' n' c' nd w hr hf).mono fun _ _ ⟨A1, n1, c1, h1, h2, h3, _, h5⟩ => ⟨A1, n1, c1, h1, h2, h3, h5⟩
end Go.Proofs.YtolkpjbbfopmnaaDoor.Tl
