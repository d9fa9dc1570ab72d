/-
  What the document's Find and SamePairs return; conditions: the pairs are read. They make no memory.
-/
import Derived.Test.YtceillnmcccckaaDoorPairs
namespace Go.Proofs.YtceillnmcccckaaDoor
open Go.RowKit
open Tr

theorem findL_drop (k : List UInt8) (ps : Prs) (i : Nat) (p : List UInt8 × List UInt8) (h : ps[i]? = some p) : findL (ps.drop i) k = if p.1 = k then some p.2 else findL (ps.drop (i + 1)) k := by
  obtain ⟨hl, rfl⟩ := List.getElem?_eq_some_iff.1 h
  rw [List.drop_eq_getElem_cons hl]
  rfl
/-- Where a pair's key and value lie. -/
theorem PRd.near {w u : World} {A : Option Addr} {n : Nat} {ps : Prs} (h : PRd w w.heap.size A n ps) (hb : Below w.heap.size w u) {j : Nat} {p : List UInt8 × List UInt8} (hj : ps[j]? = some p) :
    ∃ b o A1 n1 c1 A2 n2 c2, A = some ⟨b, o, none⟩ ∧ u.cell? ⟨b, o + j * 2, none⟩ = some (.slice A1 n1 c1) ∧ u.cell? ⟨b, o + j * 2 + 1, none⟩ = some (.slice A2 n2 c2) ∧
      (∀ q, (convert 27 9 (.slice A1 n1 c1)).run Tryd.prog (u.drewN q) = .ok (.string ⟨p.1.toArray⟩) (u.drewN q)) ∧ (∀ q, (convert 27 9 (.slice A2 n2 c2)).run Tryd.prog (u.drewN q) = .ok (.string ⟨p.2.toArray⟩) (u.drewN q)) := by
  obtain ⟨b, o, A1, n1, c1, A2, n2, c2, e, hbb, k0, k1, _, _, r1, r2⟩ := (h.below hb (Nat.le_refl _)).at_ hj
  exact ⟨b, o, A1, n1, c1, A2, n2, c2, e, by rw [Nat.mul_comm]; exact k0, by rw [Nat.mul_comm, Nat.add_assoc]; exact k1, fun q => run_string _ _ A1 n1 c1 p.1 (r1.drewN q), fun q => run_string _ _ A2 n2 c2 p.2 (r2.drewN q)⟩

def IdxPost (ps : Prs) (k : List UInt8) (w : World) (e : Ending) (w' : World) : Prop :=
  Below w.heap.size w w' ∧ ((findL ps k = none ∧ e = .returned (.int .i64 (-1))) ∨ ∃ (i : Nat) (p : List UInt8 × List UInt8), ps[i]? = some p ∧ p.1 = k ∧ findL ps k = some p.2 ∧ e = .returned (.int .i64 i))

set_option maxRecDepth 100000 in
set_option maxHeartbeats 1000000 in
theorem idx_any (A : Option Addr) (n c : Nat) (D : Option Addr) (m d : Nat) (ps : Prs) (k : List UInt8) (w : World) (hp : PRd w w.heap.size A n ps) (hk : Rd w w.heap.size D m k) (hn : n ≤ 1000000) :
    Calls Tryd.prog 14 #[.slice A n c, .slice D m d] w (IdxPost ps k w) := by
  have HP := Lib.hid hp
  have HK := Lib.hid hk
  have HLEN := Lib.hid hp.len
  clear hp hk
  go_enter Tryd.func14, Tryd.ntmps14
  go_wp2_with fail
  go_loopg [5] n (fun gk s5 wx => ∃ i, i + gk = n ∧ s5 = .int .i64 (i : Nat) ∧ findL (ps.drop i) k = findL ps k ∧ Below w.heap.size w wx)
  case atStart => exact ⟨0, by omega, rfl, rfl, Below.refl _ _⟩
  case round =>
    obtain ⟨i, hi, rfl, hf, hb⟩ := hrel
    have HB := Lib.hid hb
    have HF := Lib.hid hf
    clear hb hf
    cases gk with
    | zero =>
      obtain rfl : i = n := by omega
      go_wp2_with fail
      go_ret
      refine ⟨HB.out, .inl ⟨?_, rfl⟩⟩
      rw [← HF.out, List.drop_eq_nil_of_le (by rw [HLEN.out]; exact Nat.le_refl _)]
      rfl
    | succ gn =>
      have hin : i < n := by omega
      obtain ⟨p, hpi⟩ : ∃ p, ps[i]? = some p := ⟨_, List.getElem?_eq_getElem (by rw [HLEN.out]; exact hin)⟩
      obtain ⟨b, o, A1, n1, c1, A2, n2, c2, rfl, k0, k1, s1, _⟩ := HP.out.near HB.out hpi
      have s2 := fun j => run_string (wr.drewN j) _ D m d k ((HK.out.below HB.out (Nat.le_refl _)).drewN j)
      have HD := Lib.hid (findL_drop k ps i p hpi)
      have HPI := Lib.hid hpi
      clear hpi
      obtain ⟨p1, p2⟩ := p
      dsimp only at s1 HD
      by_cases hpk : p1 = k
      · have hq : (p1 == k) = true := by simpa using hpk
        go_wp2_with fail
        go_quiet (fail)
        rename Nat => nq
        have HB2 := Lib.hid (below_drewN HB.out nq)
        clear s1 s2 k0 k1 HB
        generalize wr.drewN nq = w2 at *
        go_wp2_with fail
        go_ret
        exact ⟨HB2.out, .inr ⟨i, (p1, p2), HPI.out, hpk, by rw [← HF.out, HD.out, if_pos hpk], rfl⟩⟩
      · have hq : (p1 == k) = false := by simpa using hpk
        go_wp2_with fail
        go_quiet (fail)
        rename Nat => nq
        have HB2 := Lib.hid (below_drewN HB.out nq)
        clear s1 s2 k0 k1 HB
        generalize wr.drewN nq = w2 at *
        go_wp2_with fail
        go_roundg gn
        case measure => omega
        case rel => exact ⟨i + 1, by omega, congrArg (Value.int .i64) (by omega), by rw [← HF.out, HD.out, if_neg hpk], HB2.out⟩

set_option maxRecDepth 100000 in
set_option maxHeartbeats 1000000 in
theorem samePairs_yes (A : Option Addr) (n c : Nat) (D : Option Addr) (m d : Nat) (ps : Prs) (w : World) (hp : PRd w w.heap.size A n ps) (hq : PRd w w.heap.size D m ps) (hn : n ≤ 1000000) :
    Calls Tryd.prog 22 #[.slice A n c, .slice D m d] w fun e w' => e = .returned (.bool true) ∧ Below w.heap.size w w' := by
  obtain rfl : n = m := by rw [← hp.len, ← hq.len]
  have HP := Lib.hid hp
  have HQ := Lib.hid hq
  have HLEN := Lib.hid hp.len
  clear hp hq
  go_enter Tryd.func22, Tryd.ntmps22
  go_wp2_with fail
  go_loopg [5] n (fun gk s5 wx => ∃ i, i + gk = n ∧ s5 = .int .i64 (i : Nat) ∧ Below w.heap.size w wx)
  case atStart => exact ⟨0, by omega, rfl, Below.refl _ _⟩
  case round =>
    obtain ⟨i, hi, rfl, hb⟩ := hrel
    have HB := Lib.hid hb
    clear hb
    cases gk with
    | zero =>
      obtain rfl : i = n := by omega
      go_wp2_with fail
      go_ret
      exact ⟨rfl, HB.out⟩
    | succ gn =>
      have hin : i < n := by omega
      obtain ⟨p, hpi⟩ : ∃ p, ps[i]? = some p := ⟨_, List.getElem?_eq_getElem (by rw [HLEN.out]; exact hin)⟩
      obtain ⟨b, o, A1, n1, c1, A2, n2, c2, rfl, k0, k1, s1, s2⟩ := HP.out.near HB.out hpi
      obtain ⟨b', o', A1', n1', c1', A2', n2', c2', rfl, k0', k1', s1', s2'⟩ := HQ.out.near HB.out hpi
      clear hpi
      obtain ⟨p1, p2⟩ := p
      dsimp only at s1 s2 s1' s2'
      go_wp2_with fail
      go_quiet (fail)
      rename Nat => nq
      have HB2 := Lib.hid (below_drewN HB.out nq)
      clear s1 s2 k0 k1 s1' s2' k0' k1' HB
      generalize wr.drewN nq = w2 at *
      go_wp2_with fail
      go_roundg gn
      case measure => omega
      case rel => exact ⟨i + 1, by omega, congrArg (Value.int .i64) (by omega), HB2.out⟩
end Go.Proofs.YtceillnmcccckaaDoor
