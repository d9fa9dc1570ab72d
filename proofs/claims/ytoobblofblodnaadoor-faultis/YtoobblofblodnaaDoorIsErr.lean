/-
  errors.Is at a target that is a number: any error that the laws make; a shell.
-/
import Derived.Test.YtoobblofblodnaaDoorAsk
import Derived.Lib.IfaceEq
import Derived.Lib.Hide
namespace Go.Proofs.YtoobblofblodnaaDoor
open Go.RowKit Go.Extern.Stop Go.Stop Go.Extern Go.Shelf

theorem Err.same_depth {w : World} : ∀ {e e' : Err}, e.val = e'.val → e.In w → e'.In w → e.depth = e'.depth
  | .num _, .num _, _, _, _ => rfl
  | .text _, .text _, _, _, _ => rfl
  | .step b s n e, .step b' s' n' e', hv, h, h' => by
    simp only [Err.val, Value.iface.injEq, true_and, Value.pointer.injEq, Option.some.injEq, Addr.mk.injEq, and_true] at hv
    subst hv
    have hh := h.1.symm.trans h'.1
    simp only [Option.some.injEq, Obj.cells.injEq, and_true] at hh
    have h3 : e.val = e'.val := by
      have := congrArg (fun a : Array Value => a[2]?) hh
      simpa using this
    simp [Err.depth, Err.same_depth h3 h.2.2 h'.2.2]
  | .other e, .other e', hv, h, h' => by
    simp only [Err.val, Value.iface.injEq, true_and, Value.agg.injEq] at hv
    have h3 : e.val = e'.val := by
      have := congrArg (fun a : Array Value => a[0]?) hv
      simpa using this
    simp [Err.depth, Err.same_depth h3 h h']
  | .num _, .text _, hv, _, _ => by simp [Err.val] at hv
  | .num _, .step _ _ _ _, hv, _, _ => by simp [Err.val] at hv
  | .num _, .other _, hv, _, _ => by simp [Err.val] at hv
  | .text _, .num _, hv, _, _ => by simp [Err.val] at hv
  | .text _, .step _ _ _ _, hv, _, _ => by simp [Err.val] at hv
  | .text _, .other _, hv, _, _ => by simp [Err.val] at hv
  | .step _ _ _ _, .num _, hv, _, _ => by simp [Err.val] at hv
  | .step _ _ _ _, .text _, hv, _, _ => by simp [Err.val] at hv
  | .step _ _ _ _, .other _, hv, _, _ => by simp [Err.val] at hv
  | .other _, .num _, hv, _, _ => by simp [Err.val] at hv
  | .other _, .text _, hv, _, _ => by simp [Err.val] at hv
  | .other _, .step _ _ _ _, hv, _, _ => by simp [Err.val] at hv

open Classical in
/-- How many layers an error has, read off the world: for a loop's measure. -/
noncomputable def layersAt (w : World) (v : Value) : Nat := if h : ∃ e : Err, v = e.val ∧ e.In w then (Classical.choose h).depth else 0
theorem layersAt_eq {w : World} {e : Err} (he : e.In w) : layersAt w e.val = e.depth := by
  have hex : ∃ e' : Err, e.val = e'.val ∧ e'.In w := ⟨e, rfl, he⟩
  unfold layersAt
  rw [dif_pos hex]
  obtain ⟨h1, h2⟩ := Classical.choose_spec hex
  exact (Err.same_depth h1 he h2).symm

theorem eqNum (a b : Int) (w : World) : (binOp .eql 27 (.iface 24 (.int .i64 a)) (.iface 24 (.int .i64 b))).run Tryd.prog w = .ok (.bool (a == b)) w := by
  exact Lib.run_eql_iface_int w a b Tryd.underlying27 (by kernel_rfl) Tryd.underlying24
theorem eqTy (T : TypeId) (hT : T ≠ 24) (x y : Value) (w : World) : (binOp .eql 27 (.iface T x) (.iface 24 y)).run Tryd.prog w = .ok (.bool false) w :=
  run_eql_iface_types T 24 x y Tryd.underlying27 hT w

theorem methodComparable (h : Value) (w : World) : (Go.method 260 98 (.agg #[h]) "Comparable").run Tryd.prog w = .ok (91, .agg #[h]) w := by kernel_rfl
theorem comparable24 (w : World) : (ReflectliteType.method (fun t => do Rtype.noPackHeld "Comparable" t; (fun a : TypeInfo => Value.bool a.comparable) <$> typeInfo t) #[.agg #[.pointer (some ⟨4, 24, none⟩)]]).run Tryd.prog w = .ok (.bool true) w := by kernel_rfl

set_option maxRecDepth 100000 in
set_option maxHeartbeats 4000000 in
theorem is27_any (e : Err) (m : Int) (w : World) (he : e.In w) : Calls Tryd.prog 27 #[e.val, .iface 24 (.int .i64 m), .bool true] w fun ev w' => ev = .returned (.bool (e.isNum m)) ∧ Below w.heap.size w w' := by
  obtain ⟨t0, x0, hv⟩ := e.val_iface
  rw [hv]
  go_enter Tryd.func27, Tryd.ntmps27
  go_wp2
  go_loopw [0] (fun v wr => ∃ e' : Err, v = e'.val ∧ e'.In wr ∧ e'.isNum m = e.isNum m ∧ Below w.heap.size w wr) (fun v wr => layersAt wr v)
  case atStart => exact ⟨e, hv.symm, he, rfl, Below.refl _ _⟩
  case round =>
    obtain ⟨e', rfl, hin, hnum, hbel⟩ := hrel
    have hsr := hbel.size
    have HN := Lib.hid hnum
    clear hnum
    cases e' with
    | num n =>
      have q1 := tA24_100
      have q2 := tA24_79
      have q3 := tA24_90
      have qe := eqNum n m wr
      dsimp only [Err.val]
      by_cases hnm : n = m
      · subst hnm
        have hb : (n == n) = true := by simp
        go_wp2
        go_ret
        exact ⟨by rw [← HN.out]; simp [Err.isNum], hbel⟩
      · have hb : (n == m) = false := by simpa using hnm
        rw [hb] at qe
        go_wp2
        go_ret
        exact ⟨by rw [← HN.out]; simp [Err.isNum, hnm], hbel⟩
    | text b =>
      have q1 := tA94_100
      have q2 := tA94_79
      have q3 := tA94_90
      have qe := eqTy 94 (by decide) (.pointer (some ⟨b, 0, none⟩)) (.int .i64 m) wr
      dsimp only [Err.val]
      go_wp2
      go_ret
      exact ⟨by rw [← HN.out]; rfl, hbel⟩
    | step b s n y =>
      have q1 := tA40_100
      have q2 := tA40_79
      have m1 := methodUnwrap40
      have qe := eqTy 40 (by decide) (.pointer (some ⟨b, 0, none⟩)) (.int .i64 m) wr
      obtain ⟨ty, xy, hy⟩ := y.val_iface
      have hc : wr.cell? ⟨b, 2, none⟩ = some (.iface ty xy) := by rw [cell_of_block hin.1, hy]; rfl
      have qn := nilEq ty xy
      have hlay := layersAt_eq hin
      dsimp only [Err.val] at hlay ⊢
      have HL := Lib.hid hlay
      clear hlay
      go_wp2_with (go_at_call 79; refine (stepUnwrap b (.iface ty xy) _ hc).mono ?_; rintro ev w' ⟨rfl, rfl⟩)
      refine ⟨⟨y, hy.symm, hin.2.2, HN.out, hbel⟩, ?_⟩
      rw [HL.out, ← hy, layersAt_eq hin.2.2]
      simp [Err.depth]
    | other y =>
      have q1 := tA43_100
      have q2 := tA43_79
      have m1 := methodUnwrap43
      obtain ⟨ty, xy, hy⟩ := y.val_iface
      have qe := eqTy 43 (by decide) (.agg #[.iface ty xy]) (.int .i64 m) wr
      have qn := nilEq ty xy
      have hlay := layersAt_eq hin
      dsimp only [Err.val] at hlay ⊢
      rw [hy] at hlay ⊢
      have HL := Lib.hid hlay
      clear hlay
      go_wp2_with (go_at_call 81; refine (otherUnwrap (.iface ty xy) _).mono ?_; rintro ev w' ⟨rfl, rfl⟩)
      have hin' : y.In (wr.alloc (.cells #[.iface ty xy] 43)) := hin.below (e := y) ((Below.refl wr.heap.size wr).alloc (Nat.le_refl _) _) hin.top_le
      refine ⟨⟨y, hy.symm, hin', HN.out, hbel.alloc hsr _⟩, ?_⟩
      have hl2 := layersAt_eq hin'
      rw [hy] at hl2
      rw [HL.out, hl2]
      simp [Err.depth]

set_option maxRecDepth 100000 in
set_option maxHeartbeats 4000000 in
theorem is27_shell (v : Value) (hv : Plain v) (m : Int) (w : World) : Calls Tryd.prog 27 #[.iface 93 (.agg #[v]), .iface 24 (.int .i64 m), .bool true] w fun ev w' => ev = .returned (.bool false) ∧ Below w.heap.size w w' := by
  have q1 := tA93_100
  have q2 := tA93_79
  have q3 := tA93_90
  have m1 := methodIs
  have qe := eqTy 93 (by decide) (.agg #[v]) (.int .i64 m)
  go_enter Tryd.func27, Tryd.ntmps27
  go_wp2
  refine wp_loop_rounds 1 ?_
  rw [rounds_succ]
  go_wp2_with (go_at_call 87; refine (shellIs v hv _ _).mono ?_; rintro e w' ⟨rfl, rfl⟩)
  go_ret
  exact ⟨rfl, (Below.refl _ w).alloc (Nat.le_refl _) _⟩

set_option maxRecDepth 100000 in
theorem is13_of {T : TypeId} {x : Value} {b : Bool} (m : Int) (w : World) (h : Calls Tryd.prog 27 #[.iface T x, .iface 24 (.int .i64 m), .bool true] w fun ev w' => ev = .returned (.bool b) ∧ Below w.heap.size w w') :
    Calls Tryd.prog 13 #[.iface T x, .iface 24 (.int .i64 m)] w fun ev w' => ev = .returned (.bool b) ∧ Below w.heap.size w w' := by
  have h26 := @run_callFunc_extern Tryd.prog 26 _ ReflectliteType.typeOf Tryd.func26 (by kernel_rfl) (by kernel_rfl) (by kernel_rfl) (by kernel_rfl)
  have h91 := @run_callFunc_extern Tryd.prog 91 _ (ReflectliteType.method (fun t => do Rtype.noPackHeld "Comparable" t; pure (.bool (← typeInfo t).comparable))) Tryd.func91 (by kernel_rfl) (by kernel_rfl) (by kernel_rfl) (by kernel_rfl)
  have tO := Tryd.typeOf24
  have mC := methodComparable
  have c24 := comparable24
  have q1 := nilEq T x
  have q2 := nilEq 24 (.int .i64 m)
  go_enter Tryd.func13, Tryd.ntmps13
  go_wp2_with (go_at_call 27; refine h.mono ?_; rintro e w' ⟨rfl, hb⟩)
  go_ret
  exact ⟨rfl, hb⟩
end Go.Proofs.YtoobblofblodnaaDoor
