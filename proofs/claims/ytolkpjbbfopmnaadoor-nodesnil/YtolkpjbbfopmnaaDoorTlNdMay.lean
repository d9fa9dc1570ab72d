/-
  What mayBe returns: whether a node may be, beside its key; condition: its value can be read, its sums have 32 bytes. It only makes memory of its own.
-/
import Derived.Test.YtolkpjbbfopmnaaDoorTlNdPut
namespace Go.Proofs.YtolkpjbbfopmnaaDoor.Tl
open Go.RowKit
open Tlv (Nd)

theorem may_out {nd : Nd} (h : nd.h < 0 ∨ 64 < nd.h) : nd.may = false := by unfold Nd.may; rw [if_pos h]
theorem may_in {nd : Nd} (h : 0 < nd.h) (h2 : nd.h ≤ 64) : nd.may = (nd.value.length == 0) := by unfold Nd.may; rw [if_neg (by omega), if_pos h]
theorem may_leaf {nd : Nd} (h : nd.h = 0) : nd.may = (decide (nd.value.length ≤ 256) && decide (nd.z = 1) && (nd.l == Tlv.nought && nd.r == Tlv.nought)) := by unfold Nd.may; rw [if_neg (by omega), if_neg (by omega)]

set_option maxRecDepth 100000 in
set_option maxHeartbeats 1000000 in
theorem mayBe_any (A : Option Addr) (n c : Nat) (A' : Option Addr) (n' c' : Nat) (nd : Nd) (w : World) (hn : nd.value.length = n') (hf : nd.fit) :
    Calls Tryd.prog 65 #[.agg (ndc A n c A' n' c' nd).toArray] w fun e w' => e = .returned (.bool nd.may) ∧ Below w.heap.size w w' := by
  have hz25 := zero25
  have hb : Below w.heap.size w (w.alloc (.cells (ndc A n c A' n' c' nd).toArray 47)) := (Below.refl _ _).alloc (Nat.le_refl _) _
  have hw := Whole.made w 47 (ndc A n c A' n' c' nd).toArray
  obtain ⟨c0, c1, c2, c3⟩ := abox hw
  have HLR := Lib.hid (acells_lrange hw)
  have HRR := Lib.hid (acells_rrange hw hf.1)
  have HB := Lib.hid hb
  have HF := Lib.hid hf
  have il : (Tryd.prog.info? 29).map (·.size) = some (nd.l.map V8).length := by rw [List.length_map, hf.1]; exact info25
  have ir : (Tryd.prog.info? 29).map (·.size) = some (nd.r.map V8).length := by rw [List.length_map, hf.2.1]; exact info25
  have HI := Lib.hid (And.intro il ir)
  clear il ir hf hb hw
  obtain ⟨z, hz⟩ : ∃ z, nd.h = z := ⟨_, rfl⟩
  rw [hz] at c2
  obtain ⟨s, hs⟩ : ∃ s, nd.z = s := ⟨_, rfl⟩
  rw [hs] at c3
  rcases Int.lt_or_le z 0 with h0 | h0
  · rw [may_out (by omega)]
    clear hz hs
    have q1 : decide (z < 0) = true := by simp; omega
    go_enter Tryd.func65, Tryd.ntmps65
    go_upto_region 1 with (fail)
    generalize w.alloc (.cells (ndc A n c A' n' c' nd).toArray 47) = w1 at *
    go_wp2_with fail
    go_ret
    exact ⟨rfl, HB.out⟩
  rcases Int.lt_or_le 64 z with h1 | h1
  · rw [may_out (by omega)]
    clear hz hs
    have q1 : decide (z < 0) = false := by simp; omega
    have q2 : decide (64 < z) = true := by simp; omega
    go_enter Tryd.func65, Tryd.ntmps65
    go_upto_region 1 with (fail)
    generalize w.alloc (.cells (ndc A n c A' n' c' nd).toArray 47) = w1 at *
    go_wp2_with fail
    go_ret
    exact ⟨rfl, HB.out⟩
  rcases Int.lt_or_le 0 z with h2 | h2
  · rw [may_in (by omega) (by omega)]
    clear hz hs
    have q1 : decide (z < 0) = false := by simp; omega
    have q2 : decide (64 < z) = false := by simp; omega
    have q3 : decide (0 < z) = true := by simp; omega
    have q4 : (nd.value.length == 0) = ((n' : Int) == 0) := by rw [hn]; rcases n' with _ | n' <;> simp <;> omega
    rw [q4]
    clear q4
    go_enter Tryd.func65, Tryd.ntmps65
    go_upto_region 1 with (fail)
    generalize w.alloc (.cells (ndc A n c A' n' c' nd).toArray 47) = w1 at *
    go_wp2_with fail
    go_ret
    exact ⟨rfl, HB.out⟩
  obtain rfl : z = 0 := by omega
  rw [may_leaf hz, hn, hs]
  clear hz hs h0 h1 h2
  have e1 := run_eq29 nd.l Tlv.nought HF.out.1 Tlv.nought_len
  have e2 := run_eq29 nd.r Tlv.nought HF.out.2.1 Tlv.nought_len
  rw [nought_cells] at e1 e2
  change ∀ w, Sem.run Tryd.prog (Op.equalIn 10000 29 (Value.agg (nd.l.map V8).toArray) (Value.agg (zb 32))) w = _ at e1
  change ∀ w, Sem.run Tryd.prog (Op.equalIn 10000 29 (Value.agg (nd.r.map V8).toArray) (Value.agg (zb 32))) w = _ at e2
  obtain ⟨bl, hbl⟩ : ∃ b, (nd.l == Tlv.nought) = b := ⟨_, rfl⟩
  obtain ⟨br, hbr⟩ : ∃ b, (nd.r == Tlv.nought) = b := ⟨_, rfl⟩
  rw [hbl] at e1 ⊢
  rw [hbr] at e2 ⊢
  generalize nd.l.map V8 = L at *
  generalize nd.r.map V8 = R at *
  clear hbl hbr HF
  have q3 : decide ((n' : Int) ≤ 256) = decide (n' ≤ 256) := by rw [Bool.eq_iff_iff, decide_eq_true_iff, decide_eq_true_iff]; omega
  have q4 : ((s : Int) == 1) = decide (s = 1) := by rw [Bool.eq_iff_iff, beq_iff_eq, decide_eq_true_iff]; omega
  obtain ⟨d1, hd1⟩ : ∃ b, decide (n' ≤ 256) = b := ⟨_, rfl⟩
  obtain ⟨d2, hd2⟩ : ∃ b, decide (s = 1) = b := ⟨_, rfl⟩
  rw [hd1] at q3 ⊢
  rw [hd2] at q4 ⊢
  clear hd1 hd2
  go_enter Tryd.func65, Tryd.ntmps65
  go_upto_region 1 with (fail)
  generalize w.alloc (.cells (ndc A n c A' n' c' nd).toArray 47) = w1 at *
  go_upto_region 5 with (fail)
  refine wp_region_lit ?_
  iterate 3 go_step
  refine wpList_load_w rfl 29 (.tmp 19) rfl w.heap.size 4 rfl _ _ HLR.out Tryd.underlying29 rfl HI.out.1 ?_
  rcases bl with _ | _
  · rcases d1 with _ | _ <;> rcases d2 with _ | _
    all_goals
      go_wp2_with fail
      go_ret
      exact ⟨rfl, HB.out⟩
  · iterate 11 go_step
    refine wpList_load_w rfl 29 (.tmp 24) rfl w.heap.size 36 rfl _ _ HRR.out Tryd.underlying29 rfl HI.out.2 ?_
    rcases d1 with _ | _ <;> rcases d2 with _ | _ <;> rcases br with _ | _
    all_goals
      go_wp2_with fail
      go_ret
      exact ⟨rfl, HB.out⟩
end Go.Proofs.YtolkpjbbfopmnaaDoor.Tl
