/-
  errors.As at a target of type *Errno: the shell of an error that wraps; and errors.As whole, out of errors.as.
-/
import Derived.Test.YtoobblofblodnaaDoorAsIn
namespace Go.Proofs.YtoobblofblodnaaDoor
open Go.RowKit Go.Extern.Stop Go.Stop Go.Extern

/-- What a shell may hold: an error whose type has neither an Is nor an As. -/
def Plain (v : Value) : Prop := (∃ x, v = .iface 40 x) ∨ (∃ x, v = .iface 43 x)

theorem shellAs (v : Value) (hv : Plain v) (t : Value) (w : World) :
    Calls Tryd.prog 86 #[.agg #[v], t] w fun e w' => e = .returned (.bool false) ∧ w' = w.alloc (.cells #[v] 93) := by
  rcases hv with ⟨x, rfl⟩ | ⟨x, rfl⟩
  · have q := tA40_106
    go_enter Tryd.func86, Tryd.ntmps86
    go_wp2
    go_ret
    exact ⟨rfl, rfl⟩
  · have q := tA43_106
    go_enter Tryd.func86, Tryd.ntmps86
    go_wp2
    go_ret
    exact ⟨rfl, rfl⟩

theorem shellIs (v : Value) (hv : Plain v) (t : Value) (w : World) :
    Calls Tryd.prog 87 #[.agg #[v], t] w fun e w' => e = .returned (.bool false) ∧ w' = w.alloc (.cells #[v] 93) := by
  rcases hv with ⟨x, rfl⟩ | ⟨x, rfl⟩
  · have q := tA40_100
    go_enter Tryd.func87, Tryd.ntmps87
    go_wp2
    go_ret
    exact ⟨rfl, rfl⟩
  · have q := tA43_100
    go_enter Tryd.func87, Tryd.ntmps87
    go_wp2
    go_ret
    exact ⟨rfl, rfl⟩

theorem methodAs (v : Value) (w : World) : (Go.method 260 93 (.agg #[v]) "As").run Tryd.prog w = .ok (86, .agg #[v]) w := by kernel_rfl
theorem methodIs (v : Value) (w : World) : (Go.method 260 93 (.agg #[v]) "Is").run Tryd.prog w = .ok (87, .agg #[v]) w := by kernel_rfl

set_option maxRecDepth 100000 in
set_option maxHeartbeats 4000000 in
theorem as32_shell (v : Value) (hv : Plain v) (t a : Addr) (w : World) :
    Calls Tryd.prog 32 #[.iface 93 (.agg #[v]), .iface 54 (.pointer (some t)), .agg #[.pointer (some ⟨4, 54, none⟩), .pointer (some a), .int .u64 150], .iface 98 (.agg #[.pointer (some ⟨4, 24, none⟩)])] w
      fun ev w' => ev = .returned (.bool false) ∧ w' = (w.alloc (.cells #[.pointer (some ⟨4, 54, none⟩), .pointer (some a), .int .u64 150] 65)).alloc (.cells #[v] 93) := by
  have h26 := @run_callFunc_extern Tryd.prog 26 _ ReflectliteType.typeOf Tryd.func26 (by kernel_rfl) (by kernel_rfl) (by kernel_rfl) (by kernel_rfl)
  have h90 := @run_callFunc_extern Tryd.prog 90 _ (ReflectliteType.relation "AssignableTo" ReflectliteType.assignableTo) Tryd.func90 (by kernel_rfl) (by kernel_rfl) (by kernel_rfl) (by kernel_rfl)
  have tO := Tryd.typeOf93
  have mA := Tryd.methodAssignableTo
  have a24 := Tryd.assignable93
  have q1 := tA93_106
  have q2 := tA93_79
  have q3 := tA93_90
  have m1 := methodAs
  go_enter Tryd.func32, Tryd.ntmps32
  go_wp2
  refine wp_loop_rounds 1 ?_
  rw [rounds_succ]
  go_wp2_with (go_at_call 86; refine (shellAs v hv _ _).mono ?_; rintro e w' ⟨rfl, rfl⟩)
  go_ret
  exact ⟨rfl, rfl⟩

/-- What errors.As lays ahead of its search. -/
def asW (t : Addr) (w : World) : World := (w.alloc (.cells #[.pointer (some t)] 54)).alloc (.cells #[.pointer (some ⟨4, 54, none⟩), .pointer (some ⟨w.heap.size, 0, none⟩), .int .u64 150] 65)

set_option maxRecDepth 100000 in
set_option maxHeartbeats 4000000 in
theorem as17_of {T : TypeId} {x : Value} {R : Ending → World → Prop} (t : Addr) (w : World) (hg : w.cell? ⟨0, 0, none⟩ = some (.iface 98 (.agg #[.pointer (some ⟨4, 27, none⟩)])))
    (h : Calls Tryd.prog 32 #[.iface T x, .iface 54 (.pointer (some t)), .agg #[.pointer (some ⟨4, 54, none⟩), .pointer (some ⟨w.heap.size, 0, none⟩), .int .u64 150], .iface 98 (.agg #[.pointer (some ⟨4, 24, none⟩)])] (asW t w) fun ev w' => (∃ b, ev = .returned (.bool b)) ∧ R ev w') :
    Calls Tryd.prog 17 #[.iface T x, .iface 54 (.pointer (some t))] w R := by
  have h29 := @run_callFunc_extern Tryd.prog 29 _ (fun args => ReflectliteValue.unpack (args.getD 0 (.tuple #[]))) Tryd.func29 (by kernel_rfl) (by kernel_rfl) (by kernel_rfl) (by kernel_rfl)
  have h30 := @run_callFunc_extern Tryd.prog 30 _ (ReflectliteValue.methodAny (ReflectliteValue.valueError "reflectlite.Value.Type" 0) (fun t _ _ _ => ReflectliteType.toType t)) Tryd.func30 (by kernel_rfl) (by kernel_rfl) (by kernel_rfl) (by kernel_rfl)
  have h31 := @run_callFunc_extern Tryd.prog 31 _ (ReflectliteValue.method (ReflectliteValue.valueError "reflectlite.Value.IsNil" 0) ReflectliteValue.isNil) Tryd.func31 (by kernel_rfl) (by kernel_rfl) (by kernel_rfl) (by kernel_rfl)
  have h75 := @run_callFunc_extern Tryd.prog 75 _ (ReflectliteType.abiMethod fun t => do pure (.int .u8 (← Rtype.kind t))) Tryd.func75 (by kernel_rfl) (by kernel_rfl) (by kernel_rfl) (by kernel_rfl)
  have h92 := @run_callFunc_extern Tryd.prog 92 _ (ReflectliteType.method ReflectliteType.elem) Tryd.func92 (by kernel_rfl) (by kernel_rfl) (by kernel_rfl) (by kernel_rfl)
  have h93 := @run_callFunc_extern Tryd.prog 93 _ (ReflectliteType.relation "Implements" ReflectliteType.implements_) Tryd.func93 (by kernel_rfl) (by kernel_rfl) (by kernel_rfl) (by kernel_rfl)
  have hq := nilEq T x
  have f6 := Tryd.valueOf54
  have f7 := Tryd.type54
  have mK := Tryd.methodKind
  have mE := Tryd.methodElem
  have mI := Tryd.methodImplements
  have k27 := Tryd.kind54
  have k25 := Tryd.kind24
  have e27 := Tryd.elem54
  have i25 := Tryd.implements24
  have n8 := Tryd.isNil54 ⟨w.heap.size, 0, none⟩ t ((w.alloc (.cells #[.pointer (some t)] 54)).alloc (.cells #[.pointer (some ⟨4, 54, none⟩), .pointer (some ⟨w.heap.size, 0, none⟩), .int .u64 150] 65)) (by simp)
  have hlt := lt_of_cell hg
  have hg2 : ((w.alloc (.cells #[.pointer (some t)] 54)).alloc (.cells #[.pointer (some ⟨4, 54, none⟩), .pointer (some ⟨w.heap.size, 0, none⟩), .int .u64 150] 65)).cell? ⟨0, 0, none⟩ = some (.iface 98 (.agg #[.pointer (some ⟨4, 27, none⟩)])) := by
    rw [World.cell?_alloc_lt _ _ ⟨0, 0, none⟩ (by simp), World.cell?_alloc_lt _ _ ⟨0, 0, none⟩ hlt]; exact hg
  unfold asW at h
  go_enter Tryd.func17, Tryd.ntmps17
  go_wp2_with (go_at_call 32; refine h.mono ?_; rintro e w' ⟨⟨b, rfl⟩, hR⟩)
  exact hR
end Go.Proofs.YtoobblofblodnaaDoor
