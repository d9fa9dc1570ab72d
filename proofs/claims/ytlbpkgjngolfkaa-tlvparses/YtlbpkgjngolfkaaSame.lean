/-
  What the document's SameFields and SameLists return at two lists that read alike: true; conditions: both are read. They make no memory.
-/
import Derived.Test.YtlbpkgjngolfkaaFields
namespace Go.Proofs.Ytlbpkgjngolfkaa
open Go.RowKit

set_option maxRecDepth 100000 in
set_option maxHeartbeats 1000000 in
theorem sameFields_any (A : Option Addr) (n c : Nat) (A2 : Option Addr) (n2 c2 : Nat) (fs : List (UInt8 × List UInt8)) (w : World) (B B2 : Nat) (hr : FRd w B A n fs) (hr2 : FRd w B2 A2 n2 fs) (hn : n ≤ 9223372036854775807) :
    Calls Try.prog 20 #[.slice A n c, .slice A2 n2 c2] w fun e w' => e = .returned (.bool true) ∧ ∃ d, w' = w.drewN d := by
  obtain rfl : n2 = n := by rw [← hr2.len, hr.len]
  have HR := Lib.hid hr
  have HR2 := Lib.hid hr2
  clear hr hr2
  go_enter Try.func20, Try.ntmps20
  go_wp2_with fail
  go_loopw [5] (fun i wx => ∃ k d : Nat, k ≤ n2 ∧ i = .int .i64 k ∧ wx = w.drewN d) (fun i _ => n2 - (intOf i).toNat)
  case atStart => exact ⟨0, 0, by omega, rfl, rfl⟩
  case round =>
    obtain ⟨k, d, hk, rfl, rfl⟩ := hrel
    by_cases hlt : k < n2
    · obtain ⟨f, hf⟩ : ∃ f, fs[k]? = some f := ⟨fs[k]'(by rw [HR.out.len]; exact hlt), List.getElem?_eq_getElem _⟩
      obtain ⟨b1, o1, A', n', c', rfl, _, t1, s1, _, _, r1⟩ := HR.out.at_ hf
      obtain ⟨b2, o2, A'', n'', c'', rfl, _, t2, s2, _, _, r2⟩ := HR2.out.at_ hf
      have cv1 := fun d => run_string (w.drewN d) _ A' n' c' _ (r1.drewN d)
      have cv2 := fun d => run_string (w.drewN d) _ A'' n'' c'' _ (r2.drewN d)
      rw [Nat.mul_comm 2 k] at t1 s1 t2 s2
      rw [← Nat.add_assoc] at s1 s2
      have i0 : (0 : Int) ≤ (k : Int) := by omega
      have i1 : (k : Int) < (n2 : Int) := by omega
      clear hf r1 r2
      go_wp2_with fail
      go_quiet (fail)
      go_wp2_with fail
      go_roundw
      case rel => exact ⟨k + 1, _, by omega, by go_num, rfl⟩
      case measure => simp [intOf]; omega
    · obtain rfl : k = n2 := by omega
      go_wp2_with fail
      go_ret
      exact ⟨rfl, _, rfl⟩

set_option maxRecDepth 100000 in
set_option maxHeartbeats 1000000 in
theorem sameLists_any (A : Option Addr) (n c : Nat) (A2 : Option Addr) (n2 c2 : Nat) (ls : List (List UInt8)) (w : World) (B B2 : Nat) (hr : LRd w B A n ls) (hr2 : LRd w B2 A2 n2 ls) (hn : n ≤ 9223372036854775807) :
    Calls Try.prog 24 #[.slice A n c, .slice A2 n2 c2] w fun e w' => e = .returned (.bool true) ∧ ∃ d, w' = w.drewN d := by
  obtain rfl : n2 = n := by rw [← hr2.len, hr.len]
  have HR := Lib.hid hr
  have HR2 := Lib.hid hr2
  clear hr hr2
  go_enter Try.func24, Try.ntmps24
  go_wp2_with fail
  go_loopw [5] (fun i wx => ∃ k d : Nat, k ≤ n2 ∧ i = .int .i64 k ∧ wx = w.drewN d) (fun i _ => n2 - (intOf i).toNat)
  case atStart => exact ⟨0, 0, by omega, rfl, rfl⟩
  case round =>
    obtain ⟨k, d, hk, rfl, rfl⟩ := hrel
    by_cases hlt : k < n2
    · obtain ⟨f, hf⟩ : ∃ f, ls[k]? = some f := ⟨ls[k]'(by rw [HR.out.len]; exact hlt), List.getElem?_eq_getElem _⟩
      obtain ⟨b1, o1, A', n', c', rfl, _, s1, _, _, r1⟩ := HR.out.at_ hf
      obtain ⟨b2, o2, A'', n'', c'', rfl, _, s2, _, _, r2⟩ := HR2.out.at_ hf
      have cv1 := fun d => run_string (w.drewN d) _ A' n' c' _ (r1.drewN d)
      have cv2 := fun d => run_string (w.drewN d) _ A'' n'' c'' _ (r2.drewN d)
      have i0 : (0 : Int) ≤ (k : Int) := by omega
      have i1 : (k : Int) < (n2 : Int) := by omega
      clear hf r1 r2
      go_wp2_with fail
      go_quiet (fail)
      go_wp2_with fail
      go_roundw
      case rel => exact ⟨k + 1, _, by omega, by go_num, rfl⟩
      case measure => simp [intOf]; omega
    · obtain rfl : k = n2 := by omega
      go_wp2_with fail
      go_ret
      exact ⟨rfl, _, rfl⟩
end Go.Proofs.Ytlbpkgjngolfkaa
