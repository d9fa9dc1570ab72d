/-
  Copies of bytes, their order and whether they are the same: what bytes.Clone, bytes.Compare and bytes.Equal return: condition: the bytes are read.
-/
import Derived.Test.YtceillnmcccckaaDoorRes
import Derived.Test.YtceillnmcccckaaDoorOrd
import Derived.Lib.SliceRun
import Derived.Lib.BytesEntry
namespace Go.Proofs.YtceillnmcccckaaDoor
open Go.RowKit

/-- A new slice that reads as bytes. -/
def BytesPost (w : World) (bs : List UInt8) (e : Ending) (w' : World) : Prop :=
  ∃ A n c, e = .returned (.slice A n c) ∧ Rd w' w'.heap.size A n bs ∧ n ≤ c ∧ Below w.heap.size w w'

theorem rd_zero {w : World} {B : Nat} {A : Option Addr} {n : Nat} {bs : List UInt8} (h : Rd w B A n bs) (hA : A = none) : n = 0 ∧ bs = [] := by
  subst hA
  have hl := h.len
  rcases Nat.eq_zero_or_pos n with h0 | h0
  · exact ⟨h0, List.eq_nil_of_length_eq_zero (by omega)⟩
  · obtain ⟨_, _, e, _⟩ := h.2 h0
    cases e

/-- A clone: bytes in a block that was not there. -/
def ClonePost (w : World) (bs : List UInt8) (e : Ending) (w' : World) : Prop :=
  ∃ A n c, e = .returned (.slice A n c) ∧ Rd w' w'.heap.size A n bs ∧ n ≤ c ∧ (∀ b o, A = some ⟨b, o, none⟩ → w.heap.size ≤ b) ∧ Below w.heap.size w w'

theorem clone_new (A : Option Addr) (n c : Nat) (bs : List UInt8) (w : World) (hr : Rd w w.heap.size A n bs) (hn : n ≤ 70368744177664) :
    Calls Tryd.prog 45 #[.slice A n c] w (ClonePost w bs) := by
  have HR := Lib.hid hr
  clear hr
  have heq := fun w : World => Lib.run_eql_slice_nil (P := Tryd.prog) w 27 5 A n c 0 0 Tryd.underlying27
  cases A with
  | none =>
    go_enter Tryd.func45, Tryd.ntmps45
    go_wp2_with fail
    go_ret
    obtain ⟨rfl, rfl⟩ := rd_zero HR.out rfl
    exact ⟨none, 0, 0, rfl, Rd.nil, Nat.le_refl _, (fun _ _ h => by cases h), Below.refl _ _⟩
  | some ad =>
    go_enter Tryd.func45, Tryd.ntmps45
    go_upto_region 3 with (fail)
    refine wp_region_lit ?_
    iterate 6 go_step
    have hb0 : Below w.heap.size w (w.alloc (.cells #[] 5)) := (Below.refl _ _).alloc (Nat.le_refl _) _
    refine wpList_append_b rfl (.tmp 5) (.tmp 6) rfl w.heap.size _ 0 [] rfl (World.ownsRow_lit w #[] 0 (Nat.le_refl _) (by unfold maxLen; omega) rfl) _ (some ad) n c bs rfl (HR.out.below hb0 (Nat.le_refl _)) (by omega) (by simp) ?_
    intro v1 w1 hown hb1
    have hb : Below w.heap.size w w1 := hb0.trans hb1
    rw [Nat.zero_add, List.nil_append] at hown
    obtain ⟨A', c', rfl, hnc, _⟩ := own_form hown
    have hr := Rd.of_own hown
    have hnew : ∀ b o, A' = some ⟨b, o, none⟩ → w.heap.size ≤ b := fun b o e => by
      subst e
      exact (hown.lt b rfl).1
    have HH := Lib.hid (And.intro hb (And.intro hr hnew))
    clear hb hr hown hb0 hb1 heq hnew
    go_simp
    go_wp2_with fail
    go_ret
    obtain ⟨hb, hr, hnew⟩ := HH.out
    exact ⟨A', n, c', rfl, hr, hnc, hnew, hb⟩

theorem clone_any (A : Option Addr) (n c : Nat) (bs : List UInt8) (w : World) (hr : Rd w w.heap.size A n bs) (hn : n ≤ 70368744177664) :
    Calls Tryd.prog 45 #[.slice A n c] w (BytesPost w bs) :=
  (clone_new A n c bs w hr hn).mono fun _ _ ⟨A', n', c', h1, h2, h3, _, h5⟩ => ⟨A', n', c', h1, h2, h3, h5⟩

/-- Bytes that are read, as the model's own functions load them. -/
theorem run_loadB (w : World) (B : Nat) (A : Addr) (n : Nat) (bs : List UInt8) (hr : Rd w B (some A) n bs) : (Extern.Bytes.loadBytes A n .empty).run Tryd.prog w = .ok ⟨bs.toArray⟩ w := by
  have hl := hr.len
  have h := Lib.run_loadBytesX (P := Tryd.prog) w (bs.map fun b => (b.toNat : Int)) A .empty (fun j x hj => by
    rw [List.getElem?_map, Option.map_eq_some_iff] at hj
    obtain ⟨v, hv, rfl⟩ := hj
    have hlt := (List.getElem?_eq_some_iff.1 hv).1
    obtain ⟨b, o, e, _, hc⟩ := hr.at_ (by omega)
    obtain rfl := Option.some.inj e
    rw [Addr.add_mid]
    exact hc j v hv)
  rw [List.length_map, hl] at h
  rw [h]
  congr 2
  simp [Lib.bytesOf, Function.comp_def]
theorem run_bytesOf (w : World) (B : Nat) (A : Option Addr) (n c : Nat) (bs : List UInt8) (hr : Rd w B A n bs) : (Extern.Bytes.bytesOf (.slice A n c)).run Tryd.prog w = .ok ⟨bs.toArray⟩ w := by
  cases A with
  | none =>
    obtain ⟨rfl, rfl⟩ := rd_zero hr rfl
    rfl
  | some ad => exact run_loadB w B ad n bs hr
theorem run_compareB (w : World) (B B' : Nat) (A A' : Option Addr) (n c n' c' : Nat) (a b : List UInt8) (hr : Rd w B A n a) (hr' : Rd w B' A' n' b) :
    (Extern.BytealgCompare.compare #[.slice A n c, .slice A' n' c']).run Tryd.prog w = .ok (.int .i64 (Lib.compareBytes a b)) w := by
  show Sem.run Tryd.prog (do pure (goInt (Extern.BytealgCompare.cmp (← Extern.Bytes.bytesOf (.slice A n c)) (← Extern.Bytes.bytesOf (.slice A' n' c'))))) w = _
  simp only [Sem.run_bind, run_bytesOf w B A n c a hr, run_bytesOf w B' A' n' c' b hr', Result.andThen, Sem.run_pure, Lib.cmp_eq]
  rfl

theorem compare_any (A A' : Option Addr) (n c n' c' B B' : Nat) (a b : List UInt8) (w : World) (hr : Rd w B A n a) (hr' : Rd w B' A' n' b) :
    Calls Tryd.prog 67 #[.slice A n c, .slice A' n' c'] w fun e w' => e = .returned (.int .i64 (Lib.compareBytes a b)) ∧ w = w' := by
  have HR := Lib.hid (And.intro hr hr')
  clear hr hr'
  go_enter Tryd.func67, Tryd.ntmps67
  go_wp2_with fail
  rw [run_callFunc_extern Tryd.func72 (by kernel_rfl) (by kernel_rfl) (by kernel_rfl) (e := Extern.BytealgCompare.compare) (by kernel_rfl), run_compareB w B B' A A' n c n' c' a b HR.out.1 HR.out.2]
  simp only [Result.andThen]
  rw [Oper.upon_value]
  go_wp2_with fail
  go_ret
  exact ⟨rfl, rfl⟩
theorem equal_any (A A' : Option Addr) (n c n' c' B B' : Nat) (a b : List UInt8) (w : World) (hr : Rd w B A n a) (hr' : Rd w B' A' n' b) :
    Calls Tryd.prog 62 #[.slice A n c, .slice A' n' c'] w fun e w' => e = .returned (.bool (a == b)) ∧ w = w' := by
  have h1 := run_string w B A n c a hr
  have h2 := run_string w B' A' n' c' b hr'
  clear hr hr'
  go_enter Tryd.func62, Tryd.ntmps62
  go_wp2_with fail
  go_ret
  by_cases h : a = b
  · subst h; simp
  · simp
end Go.Proofs.YtceillnmcccckaaDoor
