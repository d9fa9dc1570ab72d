/-
  Is(err, code): is err that number, or does it wrap it?
-/
import Derived.Test.YtoobblofblodnaaDoorIsErr
import Derived.Test.YtoobblofblodnaaDoorCode
import Derived.Deep.QuietTactic
import Derived.BigQuiet
import Derived.Deep.RegionWith
namespace Go.Proofs.YtoobblofblodnaaDoor
open Go.RowKit Go.Shelf
attribute [local go_sem] Oper.semAt_some

/-- Is a layer by itself that number? -/
def Err.selfIs (m : Int) : Err → Bool
  | .num n => n == m
  | _ => false
theorem isNum_of : ∀ {e : Err} {m : Int} {x : Err}, x ∈ e.layers → x.selfIs m = true → e.isNum m = true
  | .num n, m, x, h, hs => by simp [Err.layers] at h; subst h; exact hs
  | .text _, m, x, h, hs => by simp [Err.layers] at h; subst h; simp [Err.selfIs] at hs
  | .step b s n e, m, x, h, hs => by
    simp only [Err.layers, List.mem_cons] at h
    rcases h with rfl | h
    · simp [Err.selfIs] at hs
    · exact isNum_of (e := e) h hs
  | .other e, m, x, h, hs => by
    simp only [Err.layers, List.mem_cons] at h
    rcases h with rfl | h
    · simp [Err.selfIs] at hs
    · exact isNum_of (e := e) h hs
theorem isNum_none : ∀ {e : Err} {m : Int}, (∀ x ∈ e.layers, x.selfIs m = false) → e.isNum m = false
  | .num n, m, h => h (.num n) (by simp [Err.layers])
  | .text _, _, _ => rfl
  | .step _ _ _ e, m, h => isNum_none (e := e) (fun x hx => h x (by simp [Err.layers, hx]))
  | .other e, m, h => isNum_none (e := e) (fun x hx => h x (by simp [Err.layers, hx]))

theorem below_drew_left {w w' : World} (h : Below w.drew.heap.size w.drew w') : Below w.heap.size w w' := ⟨h.os, h.tape, h.output, h.size, h.block⟩

set_option maxRecDepth 100000 in
set_option maxHeartbeats 8000000 in
theorem is1_any (x : Err) (Bx Bc : Nat) (m : Int) (w : World) (hx : w.cell? ⟨Bx, 0, none⟩ = some x.val) (hc : w.cell? ⟨Bc, 0, none⟩ = some (.int .i64 m)) :
    Calls Tryd.prog 25 #[.pointer (some ⟨Bx, 0, none⟩), .pointer (some ⟨Bc, 0, none⟩)] w fun ev w' => ev = .returned (.bool (x.selfIs m)) ∧ Below w.heap.size w w' := by
  cases x with
  | num n =>
    have hx' : w.cell? ⟨Bx, 0, none⟩ = some (.iface 24 (.int .i64 n)) := hx
    have h13 := fun W => is13_of m W (is27_any (.num n) m W trivial)
    go_enter Tryd.func25, Tryd.ntmps25
    go_wp2_with (fail)
    go_region_with (first | (go_at_call 23; refine (alone_24 _ _).mono ?_; rintro e w' ⟨rfl, rfl⟩) | (go_at_call 13; refine (h13 _).mono ?_; rintro e w' ⟨rfl, hb⟩))
    all_goals (try go_wp2)
    all_goals go_ret
    all_goals exact ⟨rfl, below_drew_left hb⟩
  | text b =>
    have hx' : w.cell? ⟨Bx, 0, none⟩ = some (.iface 94 (.pointer (some ⟨b, 0, none⟩))) := hx
    have h13 := fun W => is13_of m W (is27_any (.text b) m W trivial)
    go_enter Tryd.func25, Tryd.ntmps25
    go_wp2_with (fail)
    go_region_with (first | (go_at_call 23; refine (alone_94 _ _).mono ?_; rintro e w' ⟨rfl, rfl⟩) | (go_at_call 13; refine (h13 _).mono ?_; rintro e w' ⟨rfl, hb⟩))
    all_goals (try go_wp2)
    all_goals go_ret
    all_goals exact ⟨rfl, below_drew_left hb⟩
  | step b s n y =>
    have hx' : w.cell? ⟨Bx, 0, none⟩ = some (.iface 40 (.pointer (some ⟨b, 0, none⟩))) := hx
    have h13 := fun W => is13_of m W (is27_shell (.iface 40 (.pointer (some ⟨b, 0, none⟩))) (.inl ⟨_, rfl⟩) m W)
    go_enter Tryd.func25, Tryd.ntmps25
    go_wp2_with (fail)
    go_region_with (first | (go_at_call 23; refine (alone_40 _ _).mono ?_; rintro e w' ⟨rfl, rfl⟩) | (go_at_call 13; refine (h13 _).mono ?_; rintro e w' ⟨rfl, hb⟩))
    all_goals (try go_wp2)
    all_goals go_ret
    all_goals exact ⟨rfl, below_drew_left hb⟩
  | other y =>
    have hx' : w.cell? ⟨Bx, 0, none⟩ = some (.iface 43 (.agg #[y.val])) := hx
    have h13 := fun W => is13_of m W (is27_shell (.iface 43 (.agg #[y.val])) (.inr ⟨_, rfl⟩) m W)
    go_enter Tryd.func25, Tryd.ntmps25
    go_wp2_with (fail)
    go_region_with (first | (go_at_call 23; refine (alone_43 _ _).mono ?_; rintro e w' ⟨rfl, rfl⟩) | (go_at_call 13; refine (h13 _).mono ?_; rintro e w' ⟨rfl, hb⟩))
    all_goals (try go_wp2)
    all_goals go_ret
    all_goals exact ⟨rfl, below_drew_left hb⟩
end Go.Proofs.YtoobblofblodnaaDoor
