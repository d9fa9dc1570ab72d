/-
  What the small functions on nodes return: isLeaf, isRight, side, least, upmost, New: condition: the nodes lie in memory.
-/
import Derived.Test.YtceillnmcccckaaDoorNode
namespace Go.Proofs.YtceillnmcccckaaDoor
open Go.RowKit
open Tr
variable {G : Nat → Prop}

section
variable {w : World} {B b n c n' c' : Nat} {t : T} {A A' : Option Addr} {x y : Option Nat}
theorem isLeaf_yes (h : NHas G w B t b A n c A' n' c' x y) (h0 : t.h = 0) : Calls Tryd.prog 48 #[ptr (some b)] w fun e w' => e = .returned (.bool true) ∧ w = w' := by
  obtain ⟨_, _, c2, _, _, _⟩ := h.cells
  rw [h0] at c2
  rw [ptr_some]
  clear h h0
  go_enter Tryd.func48, Tryd.ntmps48
  go_wp2_with fail
  go_ret
  exact ⟨rfl, rfl⟩
theorem isLeaf_no (h : NHas G w B t b A n c A' n' c' x y) (h0 : t.h ≠ 0) : Calls Tryd.prog 48 #[ptr (some b)] w fun e w' => e = .returned (.bool false) ∧ w = w' := by
  obtain ⟨_, _, c2, _, _, _⟩ := h.cells
  rw [ptr_some]
  clear h
  have hq : ((t.h : Int) == 0) = false := by rw [beq_eq_false_iff_ne]; omega
  generalize t.h = H at *
  go_enter Tryd.func48, Tryd.ntmps48
  go_wp2_with fail
  go_ret
  exact ⟨rfl, rfl⟩
theorem h_ne (l r : T) : (T.node l r).h ≠ 0 := by show 1 + max l.h r.h ≠ 0; omega
theorem isRight_any (h : NHas G w B t b A n c A' n' c' x y) (D : Option Addr) (m d B2 : Nat) (k : List UInt8) (hk : Rd w B2 D m k) (R : Bool) (hR : lt k t.key = !R) :
    Calls Tryd.prog 59 #[ptr (some b), .slice D m d] w fun e w' => e = .returned (.bool R) ∧ w = w' := by
  obtain ⟨c0, _, _, _, _, _⟩ := h.cells
  rw [ptr_some]
  have HK := Lib.hid (And.intro h.key hk)
  have hR2 : decide (0 ≤ Lib.compareBytes k t.key) = R := by rw [cmp_dec, hR]; simp
  generalize hC : Lib.compareBytes k t.key = C at *
  have HC := Lib.hid hC
  clear h hk hR hC
  go_enter Tryd.func59, Tryd.ntmps59
  go_wp2_with fail
  refine (compare_any _ _ _ _ _ _ _ _ k t.key w HK.out.2 HK.out.1).mono ?_
  rintro e w1 ⟨rfl, rfl⟩
  rw [HC.out]
  go_wp2_with fail
  go_ret
  exact ⟨rfl, rfl⟩
theorem side_right (h : NHas G w B t b A n c A' n' c' x y) : Calls Tryd.prog 53 #[ptr (some b), .bool true] w fun e w' => e = .returned (ptr y) ∧ w = w' := by
  obtain ⟨_, _, _, _, _, c101⟩ := h.cells
  rw [ptr_some]
  clear h
  unfold ptr at *
  generalize (y.map fun b => (⟨b, 0, none⟩ : Addr)) = Y at *
  go_enter Tryd.func53, Tryd.ntmps53
  go_wp2_with fail
  go_ret
  exact ⟨rfl, rfl⟩
theorem side_left (h : NHas G w B t b A n c A' n' c' x y) : Calls Tryd.prog 53 #[ptr (some b), .bool false] w fun e w' => e = .returned (ptr x) ∧ w = w' := by
  obtain ⟨_, _, _, _, c100, _⟩ := h.cells
  rw [ptr_some]
  clear h
  unfold ptr at *
  generalize (x.map fun b => (⟨b, 0, none⟩ : Addr)) = X at *
  go_enter Tryd.func53, Tryd.ntmps53
  go_wp2_with fail
  go_ret
  exact ⟨rfl, rfl⟩
end

/-- The least key of a tree, where its leaf keeps it. -/
def LeastPost (G : Nat → Prop) (w : World) (B : Nat) (t : T) (e : Ending) (w' : World) : Prop := ∃ A n c, e = .returned (.slice A n c) ∧ Rd w B A n t.least ∧ n ≤ c ∧ n ≤ 96 ∧ (0 < n → ∀ b o, A = some ⟨b, o, none⟩ → G b) ∧ w = w'
set_option maxRecDepth 100000 in
theorem least_any (t : T) (b B : Nat) (w : World) (h : NIn G w B t b) : Calls Tryd.prog 73 #[ptr (some b)] w (LeastPost G w B t) := by
  have HN := Lib.hid h
  rw [ptr_some]
  clear h
  go_enter Tryd.func73, Tryd.ntmps73
  go_wp2_with fail
  go_loopg [0] t.h (fun gk v wx => ∃ s b', gk = s.h ∧ v = ptr (some b') ∧ NIn G w B s b' ∧ s.least = t.least ∧ wx = w)
  case atStart => exact ⟨t, b, rfl, rfl, HN.out, rfl, rfl⟩
  case round =>
    clear HN
    obtain ⟨s, b', rfl, rfl, hs, hl, rfl⟩ := hrel
    cases s with
    | leaf k v =>
      obtain ⟨A, n, c, A', n', c', hh⟩ := hs
      have hc := hh.cells.1
      have HH := Lib.hid hh
      have HL := Lib.hid hl
      clear hh hl
      go_wp2_with fail
      refine (isLeaf_yes HH.out rfl).mono ?_
      rintro e w1 ⟨rfl, rfl⟩
      rw [ptr_some]
      go_wp2_with fail
      go_ret
      exact ⟨A, n, c, rfl, by rw [← HL.out]; exact HH.out.key, HH.out.knc, HH.out.kle, HH.out.gd.2.1, rfl⟩
    | node l r =>
      obtain ⟨A, n, c, A', n', c', x, y, hh, hx, hy⟩ := hs
      have hc := hh.cells.2.2.2.2.1
      have HH := Lib.hid hh
      have HX := Lib.hid hx
      have HL := Lib.hid hl
      clear hh hl hx hy
      go_wp2_with fail
      refine (isLeaf_no HH.out (h_ne l r)).mono ?_
      rintro e w1 ⟨rfl, rfl⟩
      rw [ptr_some] at hc ⊢
      go_wp2_with fail
      go_roundg l.h
      case measure => show l.h < 1 + max l.h r.h; omega
      case rel => exact ⟨l, x, rfl, rfl, HX.out, HL.out, rfl⟩

/-- A nil tree, or a tree. -/
def GIn (G : Nat → Prop) (w : World) (B : Nat) : Option (Option T) → Option Nat → Prop
  | none, p => p = none
  | some o, p => ∃ g, p = some g ∧ TIn G w B o g
def topOf : Option (Option T) → Option T
  | none => none
  | some o => o
theorem GIn.below {w w' : World} {B B' : Nat} (hb : Below B' w w') (hB : B ≤ B') {o : Option (Option T)} {p : Option Nat} (h : GIn G w B o p) : GIn G w' B o p := by
  cases o with
  | none => exact h
  | some t => obtain ⟨b, e, h⟩ := h; exact ⟨b, e, h.below hb hB⟩
theorem GIn.more {w : World} {B B' : Nat} (hB : B ≤ B') {o : Option (Option T)} {p : Option Nat} (h : GIn G w B o p) : GIn G w B' o p := by
  cases o with
  | none => exact h
  | some t => obtain ⟨b, e, h⟩ := h; exact ⟨b, e, h.more hB⟩
def UpPost (G : Nat → Prop) (w : World) (B : Nat) (o : Option T) (e : Ending) (w' : World) : Prop := ∃ p, e = .returned (ptr p) ∧ PIn G w B o p ∧ w = w'
theorem upmost_any (o : Option (Option T)) (p : Option Nat) (B : Nat) (w : World) (h : GIn G w B o p) : Calls Tryd.prog 42 #[ptr p] w (UpPost G w B (topOf o)) := by
  cases o with
  | none =>
    obtain rfl := h
    rw [ptr_none]
    go_enter Tryd.func42, Tryd.ntmps42
    go_wp2_with fail
    go_ret
    exact ⟨none, rfl, rfl, rfl⟩
  | some o =>
    obtain ⟨g, rfl, hg, gg, q, hW, hP⟩ := h
    rw [ptr_some]
    have c0 := hW.at_ (i := 0) rfl
    have HP := Lib.hid hP
    clear hW hP gg
    unfold ptr at c0
    generalize hX : (q.map fun b => (⟨b, 0, none⟩ : Addr)) = X at *
    have HX := Lib.hid hX
    clear hX
    go_enter Tryd.func42, Tryd.ntmps42
    go_wp2_with fail
    go_ret
    exact ⟨q, by unfold ptr; rw [HX.out]; rfl, HP.out, rfl⟩

/-- A new tree. -/
def NewPost (G : Nat → Prop) (o : Option T) (w : World) (e : Ending) (w' : World) : Prop := ∃ g, e = .returned (ptr (some g)) ∧ w.heap.size ≤ g ∧ TIn G w' w'.heap.size o g ∧ Below w.heap.size w w'
theorem new_any (w : World) (hw : Room G w) : Calls Tryd.prog 12 #[] w (NewPost G none w) := by
  have HW := Lib.hid hw
  clear hw
  go_enter Tryd.func12, Tryd.ntmps12
  go_wp2_with fail
  go_ret
  exact ⟨w.heap.size, rfl, Nat.le_refl _, ⟨by simp, HW.out.2 _ (Nat.le_refl _), none, Whole.made w 80 _, rfl⟩, (Below.refl _ _).alloc (Nat.le_refl _) _⟩
end Go.Proofs.YtceillnmcccckaaDoor
