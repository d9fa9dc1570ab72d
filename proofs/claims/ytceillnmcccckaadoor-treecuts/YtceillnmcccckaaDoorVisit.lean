/-
  What visit does: it calls a closure at each node, the upmost first, each one's left side ahead of its right one; condition: the tree lies in memory, the closure's contract.
-/
import Derived.Test.YtceillnmcccckaaDoorLate
namespace Go.Proofs.YtceillnmcccckaaDoor
open Go.RowKit
open Tr
variable {G : Nat → Prop}

theorem visit_nil (F : Value) (w : World) : Calls Tryd.prog 46 #[.pointer none, F] w fun e w' => e = .returned undef ∧ w = w' := by
  go_enter Tryd.func46, Tryd.ntmps46
  go_wp2_with fail
  refine bodyPost_ret (results_none rfl _ _ _) rfl ?_
  exact ⟨rfl, rfl⟩

def Tr.T.all : T → List T
  | .leaf k v => [.leaf k v]
  | .node l r => .node l r :: (l.all ++ r.all)

set_option maxRecDepth 100000 in
theorem visit_any (f : Nat) (C : Value) (ent : ∀ args w, (callFunc f args).run Tryd.prog w = .ok (.enter f args) w) (w0 : World) (B : Nat) (I : List T → World → Prop) (hb : ∀ ns w, I ns w → Below B w0 w)
    (hI : ∀ s b ns w, NIn G w0 B s b → I ns w → Calls Tryd.prog f #[ptr (some b), C] w fun e w' => e = .returned undef ∧ I (ns ++ [s]) w') :
    ∀ (t : T) (b : Nat) (ns : List T) (w : World), NIn G w0 B t b → I ns w → Calls Tryd.prog 46 #[ptr (some b), .func (.func f) #[] #[C]] w fun e w' => e = .returned undef ∧ I (ns ++ t.all) w'
  | .leaf k v, b, ns, w, h, hi => by
    have HC := Lib.hid (hI _ b ns w h hi)
    obtain ⟨A, n, c, A', n', c', hh⟩ := h
    have HH := Lib.hid hh
    have HBB := Lib.hid hb
    rw [ptr_some] at HC ⊢
    clear hi hI hh hb
    go_enter Tryd.func46, Tryd.ntmps46
    go_wp2_with fail
    refine HC.out.mono ?_
    rintro e w1 ⟨rfl, hi1⟩
    obtain ⟨_, _, _, _, c100, c101⟩ := (HH.out.below (HBB.out _ _ hi1) (Nat.le_refl _)).cells
    rw [ptr_none] at c100 c101
    have HI1 := Lib.hid hi1
    have HN := Lib.hid (visit_nil (.func (.func f) #[] #[C]) w1)
    clear hi1 HC
    go_wp2_with fail
    refine HN.out.mono ?_
    rintro e w2 ⟨rfl, rfl⟩
    go_wp2_with fail
    refine HN.out.mono ?_
    rintro e w2 ⟨rfl, rfl⟩
    go_wp2_with fail
    refine bodyPost_end (results_none rfl _ _ _) rfl ?_
    exact ⟨rfl, HI1.out⟩
  | .node l r, b, ns, w, h, hi => by
    have HC := Lib.hid (hI _ b ns w h hi)
    obtain ⟨A, n, c, A', n', c', x, y, hh, hx, hy⟩ := h
    have HH := Lib.hid hh
    have HBB := Lib.hid hb
    have HX := Lib.hid hx
    have HY := Lib.hid hy
    have HL := Lib.hid (visit_any f C ent w0 B I hb hI l x)
    have HR := Lib.hid (visit_any f C ent w0 B I hb hI r y)
    rw [ptr_some] at HC HL HR ⊢
    clear hi hI hh hb hx hy
    go_enter Tryd.func46, Tryd.ntmps46
    go_wp2_with fail
    refine HC.out.mono ?_
    rintro e w1 ⟨rfl, hi1⟩
    obtain ⟨_, _, _, _, c100, c101⟩ := (HH.out.below (HBB.out _ _ hi1) (Nat.le_refl _)).cells
    rw [ptr_some] at c100 c101
    have HC1 := Lib.hid (HL.out _ w1 HX.out hi1)
    clear hi1 HC HL c101
    go_wp2_with fail
    refine HC1.out.mono ?_
    rintro e w2 ⟨rfl, hi2⟩
    clear c100 HC1
    obtain ⟨_, _, _, _, c100, c101⟩ := (HH.out.below (HBB.out _ _ hi2) (Nat.le_refl _)).cells
    rw [ptr_some] at c100 c101
    have HC2 := Lib.hid (HR.out _ w2 HY.out hi2)
    clear hi2 HR c100
    go_wp2_with fail
    refine HC2.out.mono ?_
    rintro e w3 ⟨rfl, hi3⟩
    have HI3 := Lib.hid hi3
    clear c101 hi3 HC2
    go_wp2_with fail
    refine bodyPost_end (results_none rfl _ _ _) rfl ?_
    refine ⟨rfl, ?_⟩
    have := HI3.out
    rw [show ns ++ (T.node l r).all = ns ++ [T.node l r] ++ l.all ++ r.all by simp [T.all]]
    exact this
end Go.Proofs.YtceillnmcccckaaDoor
