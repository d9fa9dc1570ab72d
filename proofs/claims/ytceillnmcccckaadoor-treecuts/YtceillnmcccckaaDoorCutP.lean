/-
  What the document's CutPair returns: the pairs without a key; conditions: pairs and key are read, there are no more than 1000000 of them. It only makes memory of its own.
-/
import Derived.Test.YtceillnmcccckaaDoorPairs
namespace Go.Proofs.YtceillnmcccckaaDoor
open Go.RowKit
open Tr

def PairsPost (w : World) (ps : Prs) (e : Ending) (w' : World) : Prop := ∃ A n c, e = .returned (.slice A n c) ∧ PRd w' w'.heap.size A n ps ∧ n ≤ c ∧ (A = none → c = 0) ∧ Below w.heap.size w w'

theorem cutL_take (ps : Prs) (i : Nat) (p : List UInt8 × List UInt8) (k : List UInt8) (h : ps[i]? = some p) : cutL (ps.take (i + 1)) k = cutL (ps.take i) k ++ (if p.1 = k then [] else [p]) := by
  rw [List.take_add_one, h, cutL_append]
  congr 1
  by_cases e : p.1 = k
  · simp [cutL, e]
  · simp [cutL, e]

set_option maxRecDepth 100000 in
set_option maxHeartbeats 1000000 in
theorem cutPair_any (A : Option Addr) (n c : Nat) (D : Option Addr) (m d : Nat) (ps : Prs) (k : List UInt8) (w : World) (hp : PRd w w.heap.size A n ps) (hk : Rd w w.heap.size D m k) (hn : n ≤ 1000000) :
    Calls Tryd.prog 52 #[.slice A n c, .slice D m d] w (PairsPost w (cutL ps k)) := by
  have HP := Lib.hid hp
  have HK := Lib.hid hk
  have HLEN := Lib.hid hp.len
  clear hp hk
  go_enter Tryd.func52, Tryd.ntmps52
  go_wp2_with fail
  go_loopg [5, 6] n (fun gk s5 s6 wx => ∃ i q, i + gk = n ∧ q ≤ i ∧ s6 = .int .i64 (i : Nat) ∧ POwn wx w.heap.size s5 q (cutL (ps.take i) k) ∧ Below w.heap.size w wx)
  case atStart => exact ⟨0, 0, by omega, by omega, rfl, POwn.nil _ _, Below.refl _ _⟩
  case round =>
    obtain ⟨i, q, hi, hqi, rfl, hO, hb⟩ := hrel
    obtain ⟨Ao, co, rfl, hco, hAo⟩ := hO.form
    have HAO := Lib.hid hAo
    clear hAo
    have HO := Lib.hid hO
    have HB := Lib.hid hb
    have hs := hb.size
    clear hO hb
    cases gk with
    | zero =>
      obtain rfl : i = n := by omega
      go_wp2_with fail
      go_ret
      have hO := HO.out
      rw [List.take_of_length_le (by rw [HLEN.out]; exact Nat.le_refl _)] at hO
      exact ⟨Ao, q, co, rfl, hO.rd, hco, HAO.out, HB.out⟩
    | succ gn =>
      have hin : i < n := by omega
      obtain ⟨p, hpi⟩ : ∃ p, ps[i]? = some p := ⟨_, List.getElem?_eq_getElem (by rw [HLEN.out]; exact hin)⟩
      obtain ⟨b, o, A1, n1, c1, A2, n2, c2, rfl, hbb, k0, k1, nc1, nc2, r1, r2⟩ := (HP.out.below HB.out (Nat.le_refl _)).at_ hpi
      have k0' : wr.cell? ⟨b, o + i * 2, none⟩ = some (.slice A1 n1 c1) := by rw [Nat.mul_comm]; exact k0
      have k1' : wr.cell? ⟨b, o + i * 2 + 1, none⟩ = some (.slice A2 n2 c2) := by rw [Nat.mul_comm, Nat.add_assoc]; exact k1
      clear k0 k1
      have s1 := fun j => run_string (wr.drewN j) _ A1 n1 c1 p.1 (r1.drewN j)
      have s2 := fun j => run_string (wr.drewN j) _ D m d k ((HK.out.below HB.out (Nat.le_refl _)).drewN j)
      have HR1 := Lib.hid r1
      have HR2 := Lib.hid r2
      have HT := Lib.hid (cutL_take ps i p k hpi)
      clear r1 r2 hpi
      obtain ⟨p1, p2⟩ := p
      dsimp only at s1 HR1 HR2 HT
      by_cases hpk : p1 = k
      · subst hpk
        go_wp2_with fail
        go_quiet (fail)
        rename Nat => nq
        have HO2 : Hid (POwn (wr.drewN nq) w.heap.size (.slice Ao q co) q (cutL (ps.take i) p1)) := Lib.hid HO.out
        have HB2 := Lib.hid (below_drewN HB.out nq)
        clear s1 s2 k0' k1' HO HB
        generalize wr.drewN nq = w2 at *
        go_wp2_with fail
        go_roundg gn
        case measure => omega
        case rel => exact ⟨i + 1, q, by omega, by omega, congrArg (Value.int .i64) (by omega), by rw [HT.out, if_pos trivial, List.append_nil]; exact HO2.out, HB2.out⟩
      · have hq : (p1 == k) = false := by simpa using hpk
        go_wp2_with fail
        go_quiet (fail)
        rename Nat => nq
        have HO2 : Hid (POwn (wr.drewN nq) w.heap.size (.slice Ao q co) q (cutL (ps.take i) k)) := Lib.hid HO.out
        have HB2 := Lib.hid (below_drewN HB.out nq)
        have k0 : (wr.drewN nq).cell? ⟨b, o + i * 2, none⟩ = some (.slice A1 n1 c1) := k0'
        have k1 : (wr.drewN nq).cell? ⟨b, o + i * 2 + 1, none⟩ = some (.slice A2 n2 c2) := k1'
        have HR12 : Hid (Rd (wr.drewN nq) w.heap.size A1 n1 p1) := Lib.hid HR1.out
        have HR22 : Hid (Rd (wr.drewN nq) w.heap.size A2 n2 p2) := Lib.hid HR2.out
        have hs2 : w.heap.size ≤ (wr.drewN nq).heap.size := hs
        clear s1 s2 k0' k1' HO HB HR1 HR2
        generalize wr.drewN nq = w2 at *
        go_upto_region 6 with (fail)
        refine wp_region_lit ?_
        iterate 18 go_step
        refine wpList_append_pair rfl (.tmp 22) (.tmp 27) rfl w.heap.size _ q _ (p1, p2) rfl HO2.out A1 n1 c1 A2 n2 c2 rfl nc1 nc2 (by obtain ⟨_, h1, _⟩ := HO2.out; exact rdx_old h1 HR12.out hs2) (by obtain ⟨_, h1, _⟩ := HO2.out; exact rdx_old h1 HR22.out hs2) (by omega) hs2 ?_
        intro v3 w3 hO3 hb3 hs3
        have HO3 := Lib.hid hO3
        have HB3 := Lib.hid (HB2.out.trans hb3)
        clear hO3 hb3 HO2 HB2 HR12 HR22 k0 k1
        go_simp
        go_wp2_with fail
        go_roundg gn
        case measure => omega
        case rel => exact ⟨i + 1, q + 1, by omega, by omega, congrArg (Value.int .i64) (by omega), by rw [HT.out, if_neg hpk]; exact HO3.out, HB3.out⟩
end Go.Proofs.YtceillnmcccckaaDoor
