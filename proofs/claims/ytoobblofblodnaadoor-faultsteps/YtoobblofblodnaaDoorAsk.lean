/-
  alone, and the questions that Code asks of each layer by itself.
-/
import Derived.Test.YtoobblofblodnaaDoorAsOut
import Derived.Test.YtoobblofblodnaaDoorRound
namespace Go.Proofs.YtoobblofblodnaaDoor
open Go.RowKit Go.Extern.Stop Go.Stop Go.Extern Go.Shelf

/-- errors.errorType as it is laid. -/
def Laid (w : World) : Prop := w.cell? ⟨0, 0, none⟩ = some (.iface 98 (.agg #[.pointer (some ⟨4, 27, none⟩)]))

theorem alone_40 (x : Value) (w : World) : Calls Tryd.prog 23 #[.iface 40 x] w fun e w' => e = .returned (.iface 93 (.agg #[.iface 40 x])) ∧ w = w' := by
  have q := tA40_89
  have q2 := tA40_91
  go_enter Tryd.func23, Tryd.ntmps23
  go_wp2
  go_ret
  exact ⟨rfl, rfl⟩
theorem alone_43 (x : Value) (w : World) : Calls Tryd.prog 23 #[.iface 43 x] w fun e w' => e = .returned (.iface 93 (.agg #[.iface 43 x])) ∧ w = w' := by
  have q := tA43_89
  have q2 := tA43_91
  go_enter Tryd.func23, Tryd.ntmps23
  go_wp2
  go_ret
  exact ⟨rfl, rfl⟩
theorem alone_24 (x : Value) (w : World) : Calls Tryd.prog 23 #[.iface 24 x] w fun e w' => e = .returned (.iface 24 x) ∧ w = w' := by
  have q := tA24_89
  have q2 := tA24_91
  go_enter Tryd.func23, Tryd.ntmps23
  go_wp2
  go_ret
  exact ⟨rfl, rfl⟩
theorem alone_94 (x : Value) (w : World) : Calls Tryd.prog 23 #[.iface 94 x] w fun e w' => e = .returned (.iface 94 x) ∧ w = w' := by
  have q := tA94_89
  have q2 := tA94_91
  go_enter Tryd.func23, Tryd.ntmps23
  go_wp2
  go_ret
  exact ⟨rfl, rfl⟩

theorem asW_kept (t : Addr) (w : World) : Kept noBlock w (asW t w) := ((Kept.refl _ w).alloc _).alloc _
theorem asW_size (t : Addr) (w : World) : (asW t w).heap.size = w.heap.size + 1 + 1 := by simp [asW]

/-- What a layer is, by itself. -/
def Err.self : Err → Option Int
  | .num n => some n
  | _ => none

/-- errors.As of a layer by itself. -/
def AsR (x : Option Int) (Bc : Nat) (w : World) (ev : Ending) (w' : World) : Prop :=
  Kept (fun k => k = Bc) w w' ∧ ev = .returned (.bool x.isSome) ∧ ∀ n, x = some n → w'.cell? ⟨Bc, 0, none⟩ = some (.int .i64 n)

theorem as_num (n : Int) (Bc : Nat) (old : Value) (w : World) (hg : Laid w) (hc : w.cell? ⟨Bc, 0, none⟩ = some old) (hf : w.frozen? ⟨Bc, 0, none⟩ = false) :
    Calls Tryd.prog 17 #[.iface 24 (.int .i64 n), .iface 54 (.pointer (some ⟨Bc, 0, none⟩))] w (AsR (some n) Bc w) := by
  have hl : Bc < w.heap.size := lt_of_cell hc
  refine as17_of _ w hg ((as32_hit n ⟨Bc, 0, none⟩ ⟨w.heap.size, 0, none⟩ old (asW ⟨Bc, 0, none⟩ w) ?_ (((asW_kept _ w).cell (p := ⟨Bc, 0, none⟩) hl (fun h => h)).trans hc) (((asW_kept _ w).frozen (p := ⟨Bc, 0, none⟩) hl (fun h => h)).trans hf)).mono ?_)
  · unfold asW
    rw [cOld (by simp), cNew rfl]
    rfl
  · rintro ev w' ⟨rfl, rfl⟩
    have k1 : Kept (fun k => k = Bc) w (((asW ⟨Bc, 0, none⟩ w).alloc (.cells #[.pointer (some ⟨4, 54, none⟩), .pointer (some ⟨w.heap.size, 0, none⟩), .int .u64 150] 65)).alloc (.cells #[.int .i64 n] 24)) :=
      (((asW_kept _ w).mono (fun _ _ h => h.elim)).alloc _).alloc _
    refine ⟨⟨true, rfl⟩, k1.setCell (p := ⟨Bc, 0, none⟩) (fun _ => rfl) _, rfl, ?_⟩
    rintro n' h
    cases h
    have h2 := asW_size ⟨Bc, 0, none⟩ w
    refine cSet (u := old) ?_
    rw [cOld (by simp [h2]; omega), cOld (by omega)]
    exact ((asW_kept _ w).cell (p := ⟨Bc, 0, none⟩) hl (fun h => h)).trans hc

theorem as_text (x : Value) (Bc : Nat) (w : World) (hg : Laid w) : Calls Tryd.prog 17 #[.iface 94 x, .iface 54 (.pointer (some ⟨Bc, 0, none⟩))] w (AsR none Bc w) := by
  refine as17_of _ w hg ((as32_none x ⟨Bc, 0, none⟩ ⟨w.heap.size, 0, none⟩ (asW ⟨Bc, 0, none⟩ w)).mono ?_)
  rintro ev w' ⟨rfl, rfl⟩
  exact ⟨⟨false, rfl⟩, ((asW_kept _ w).mono (fun _ _ h => h.elim)).alloc _, rfl, fun n h => by cases h⟩

theorem as_shell (v : Value) (hv : Plain v) (Bc : Nat) (w : World) (hg : Laid w) : Calls Tryd.prog 17 #[.iface 93 (.agg #[v]), .iface 54 (.pointer (some ⟨Bc, 0, none⟩))] w (AsR none Bc w) := by
  refine as17_of _ w hg ((as32_shell v hv ⟨Bc, 0, none⟩ ⟨w.heap.size, 0, none⟩ (asW ⟨Bc, 0, none⟩ w)).mono ?_)
  rintro ev w' ⟨rfl, rfl⟩
  exact ⟨⟨false, rfl⟩, (((asW_kept _ w).mono (fun _ _ h => h.elim)).alloc _).alloc _, rfl, fun n h => by cases h⟩

theorem code1_any (x : Err) (Bx Bc : Nat) (old : Value) (w : World) (hg : Laid w) (hx : w.cell? ⟨Bx, 0, none⟩ = some x.val) (hc : w.cell? ⟨Bc, 0, none⟩ = some old) (hf : w.frozen? ⟨Bc, 0, none⟩ = false) :
    Calls Tryd.prog 22 #[.pointer (some ⟨Bx, 0, none⟩), .pointer (some ⟨Bc, 0, none⟩)] w (AsR x.self Bc w) := by
  cases x with
  | num n =>
    have hx' : w.cell? ⟨Bx, 0, none⟩ = some (.iface 24 (.int .i64 n)) := hx
    go_enter Tryd.func22, Tryd.ntmps22
    go_wp2_with (first | (go_at_call 23; refine (alone_24 _ _).mono ?_; rintro e w' ⟨rfl, rfl⟩) | (go_at_call 17; refine (as_num n Bc old w hg hc hf).mono ?_; rintro e w' ⟨hk, rfl, hn⟩))
    go_ret
    exact ⟨hk, rfl, hn⟩
  | text b =>
    have hx' : w.cell? ⟨Bx, 0, none⟩ = some (.iface 94 (.pointer (some ⟨b, 0, none⟩))) := hx
    go_enter Tryd.func22, Tryd.ntmps22
    go_wp2_with (first | (go_at_call 23; refine (alone_94 _ _).mono ?_; rintro e w' ⟨rfl, rfl⟩) | (go_at_call 17; refine (as_text _ Bc w hg).mono ?_; rintro e w' ⟨hk, rfl, hn⟩))
    go_ret
    exact ⟨hk, rfl, hn⟩
  | step b s n y =>
    have hx' : w.cell? ⟨Bx, 0, none⟩ = some (.iface 40 (.pointer (some ⟨b, 0, none⟩))) := hx
    go_enter Tryd.func22, Tryd.ntmps22
    go_wp2_with (first | (go_at_call 23; refine (alone_40 _ _).mono ?_; rintro e w' ⟨rfl, rfl⟩) | (go_at_call 17; refine (as_shell _ (.inl ⟨_, rfl⟩) Bc w hg).mono ?_; rintro e w' ⟨hk, rfl, hn⟩))
    go_ret
    exact ⟨hk, rfl, hn⟩
  | other y =>
    have hx' : w.cell? ⟨Bx, 0, none⟩ = some (.iface 43 (.agg #[y.val])) := hx
    go_enter Tryd.func22, Tryd.ntmps22
    go_wp2_with (first | (go_at_call 23; refine (alone_43 _ _).mono ?_; rintro e w' ⟨rfl, rfl⟩) | (go_at_call 17; refine (as_shell _ (.inr ⟨_, rfl⟩) Bc w hg).mono ?_; rintro e w' ⟨hk, rfl, hn⟩))
    go_ret
    exact ⟨hk, rfl, hn⟩

theorem enters22 (args : Array Value) (w : World) : (callFunc 22 args).run Tryd.prog w = .ok (.enter 22 args) w := enters_of Tryd.func22 (by kernel_rfl) rfl args w
theorem enters25 (args : Array Value) (w : World) : (callFunc 25 args).run Tryd.prog w = .ok (.enter 25 args) w := enters_of Tryd.func25 (by kernel_rfl) rfl args w
end Go.Proofs.YtoobblofblodnaaDoor
