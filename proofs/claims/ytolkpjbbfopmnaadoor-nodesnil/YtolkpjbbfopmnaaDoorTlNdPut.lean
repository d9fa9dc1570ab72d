/-
  What the function that Encode puts fields by does: a field more in the cell that it shares; what mayBe returns; condition: the node can be read, its sums have 32 bytes. They only make memory of their own, but for that cell.
-/
import Derived.Test.YtolkpjbbfopmnaaDoorTlNdMem
namespace Go.Proofs.YtolkpjbbfopmnaaDoor.Tl
open Go.RowKit
open Tlv (Nd)

/-- Cell g holds bytes of its own; all ahead of it is as it was. -/
def PutAt (w1 : World) (g : Nat) (bs : List UInt8) (w : World) : Prop :=
  ∃ A n c, Whole w g 31 #[.slice A n c] ∧ Rd w w.heap.size A n bs ∧ n ≤ c ∧ Fresh (g + 1) w A ∧ Below g w1 w

theorem Rd.far {w : World} {B n g : Nat} {A : Option Addr} {bs : List UInt8} (h : Rd w B A n bs) (hne : ∀ b o, A = some ⟨b, o, none⟩ → b ≠ g) (i : Nat) (u : Value) : Rd (w.setCell ⟨g, i, none⟩ u) B A n bs := by
  refine ⟨h.1, fun hn => ?_⟩
  obtain ⟨b, o, e, hb1, hc⟩ := h.2 hn
  refine ⟨b, o, e, hb1, fun j v hv => ?_⟩
  have h1 := Below.heap_setCell w ⟨g, i, none⟩ u b (hne b o e)
  have h2 := hc j v hv
  unfold World.cell? at h2 ⊢
  rw [h1]
  exact h2

set_option maxRecDepth 100000 in
theorem put1_any (w1 : World) (g : Nat) (bs vs : List UInt8) (tag : UInt8) (A2 : Option Addr) (m c2 : Nat) (w : World) (h : PutAt w1 g bs w) (hr2 : Rd w w.heap.size A2 m vs) (hm : m ≤ 65535) (hl : bs.length ≤ 1000000) :
    Calls Tryd.prog 66 #[.int .u8 tag.toNat, .slice A2 m c2, .pointer (some ⟨g, 0, none⟩)] w fun e w' => e = .returned undef ∧ PutAt w1 g (Tlv.put bs tag vs) w' := by
  obtain ⟨A, n, c, hW, hR, hnc, _, hB⟩ := h
  have hc0 := hW.at_ (i := 0) rfl
  have hgs := hW.lt
  have HP := Lib.hid (put_any A n c bs tag A2 m c2 vs w hR hr2 (by have := hR.len; omega) hm)
  have HW := Lib.hid hW
  have HB := Lib.hid hB
  clear hW hR hr2 hB hl hm
  go_enter Tryd.func66, Tryd.ntmps66
  go_wp2_with fail
  refine HP.out.mono ?_
  rintro e w2 ⟨A1, n1, c1, rfl, hr, hc1, hnew, hb⟩
  have hw2 := HW.out.below hb hgs
  have hw3 : Whole (w2.setCell ⟨g, 0, none⟩ (.slice A1 n1 c1)) g 31 #[.slice A1 n1 c1] := hw2.set 0 _
  have hs2 : g < w2.heap.size := hw2.lt
  have hne : Fresh (g + 1) (w2.setCell ⟨g, 0, none⟩ (.slice A1 n1 c1)) A1 := fun b o e => by
    have h1 := hnew b o e
    exact ⟨by omega, by rw [World.size_setCell]; exact h1.2.1, fun j => by rw [World.frozen?_setCell]; exact h1.2.2 j⟩
  have hr3 : Rd (w2.setCell ⟨g, 0, none⟩ (.slice A1 n1 c1)) (w2.setCell ⟨g, 0, none⟩ (.slice A1 n1 c1)).heap.size A1 n1 (Tlv.put bs tag vs) := by
    rw [World.size_setCell]
    exact hr.far (fun b o e => by have := hne b o e; omega) 0 _
  have hb3 : Below g w1 (w2.setCell ⟨g, 0, none⟩ (.slice A1 n1 c1)) := (HB.out.trans (hb.mono (Nat.le_of_lt hgs))).setCell (p := ⟨g, 0, none⟩) (Nat.le_refl _) _
  have HH := Lib.hid (And.intro hw3 (And.intro hr3 (And.intro hc1 (And.intro hne hb3))))
  have hd0 := hw2.at_ (i := 0) rfl
  have hf0 := hw2.free 0
  clear HP hr hc1 hnew hb hw2 hw3 hne hr3 hb3 HW HB
  go_wp2_with fail
  refine bodyPost_end (results_none rfl _ _ _) rfl ?_
  exact ⟨rfl, A1, n1, c1, HH.out⟩
end Go.Proofs.YtolkpjbbfopmnaaDoor.Tl
