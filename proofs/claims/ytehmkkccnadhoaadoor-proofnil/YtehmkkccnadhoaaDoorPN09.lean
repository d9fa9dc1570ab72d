/-
  errors.As at a target of type *Errno, asked of an error that wraps nothing by itself: a number is found; an error of errors.New, and one in a shell, are not.
  errors.As at a target of type *Errno: the shell of an error that wraps; and errors.As whole, out of errors.as.
  calm(ask): what ask answers, where it does not panic.
-/
import Derived.Defers
import Derived.Recover
import Derived.Test.YtehmkkccnadhoaaDoorPN07
import Derived.Test.YtehmkkccnadhoaaDoorPN08
namespace Go.Proofs.YtehmkkccnadhoaaDoor.Fl
open Go.RowKit Go.Extern.Stop Go.Stop Go.Extern

theorem Tryd.methodKind (h : Value) (w : World) : (Go.method 283 136 (.agg #[h]) "Kind").run Tryd.prog w = .ok (92, h) w := by kernel_rfl
theorem Tryd.methodElem (h : Value) (w : World) : (Go.method 283 136 (.agg #[h]) "Elem").run Tryd.prog w = .ok (106, .agg #[h]) w := by kernel_rfl
theorem Tryd.methodImplements (h : Value) (w : World) : (Go.method 283 136 (.agg #[h]) "Implements").run Tryd.prog w = .ok (107, .agg #[h]) w := by kernel_rfl
theorem Tryd.methodAssignableTo (h : Value) (w : World) : (Go.method 283 136 (.agg #[h]) "AssignableTo").run Tryd.prog w = .ok (104, .agg #[h]) w := by kernel_rfl
theorem Tryd.elemOf54 (w : World) : (Rtype.elem? 76).run Tryd.prog w = .ok (some 39) w := by kernel_rfl
theorem Tryd.mk24 (p : Addr) (w : World) : (ReflectliteValue.mk 39 p ReflectliteValue.flagAddr).run Tryd.prog w = .ok (.agg #[.pointer (some ⟨3, 39, none⟩), .pointer (some p), .int .u64 386]) w := by kernel_rfl
theorem Tryd.elemV54 (a p : Addr) (W : World) (ha : W.cell? a = some (.pointer (some p))) :
    (ReflectliteValue.method (ReflectliteValue.valueError "reflectlite.Value.Elem" 0) ReflectliteValue.elem #[.agg #[.pointer (some ⟨3, 76, none⟩), .pointer (some a), .int .u64 150]]).run Tryd.prog W
      = .ok (.agg #[.pointer (some ⟨3, 39, none⟩), .pointer (some p), .int .u64 386]) W := by
  rw [rlm]
  simp only [Sem.run_bind, Tryd.parts54, Result.andThen]
  simp [ReflectliteValue.elem, loadVar, isAgg, underlying, Tryd.underlying76, ha, Result.andThen, Tryd.elemOf54, Tryd.mk24]
theorem rls (v x : Value) : ReflectliteValue.set #[v, x] = (do
    let (some (dst, a, fl), some (src, b, _)) := (← ReflectliteValue.parts v, ← ReflectliteValue.parts x)
      | unsupported (.noEntry "extern/(internal/reflectlite.Value).Set.zeroValue")
    if fl / ReflectliteValue.flagAddr % 2 == 0 then unsupported (.noEntry "extern/(internal/reflectlite.Value).Set.unaddressable")
    let val ← loadVar src b
    if ← Rtype.directlyAssignable dst src then storeVar dst a val
    else if ← Rtype.implements dst src then
      if (← Rtype.kind src) == 20 then
        match val with
        | .nilIface => unsupported (.noEntry "extern/reflectlite: a nil value of one interface type handed on as a value of another")
        | _ => storeVar dst a val
      else storeVar dst a (.iface src val)
    else panicString ("reflectlite.Set: value of type " ++ (← Rtype.spelt src) ++ " is not assignable to type " ++ (← Rtype.spelt dst))
    pure (.tuple #[])) := rfl
theorem Tryd.parts24a (a : Addr) (w : World) : (ReflectliteValue.parts (.agg #[.pointer (some ⟨3, 39, none⟩), .pointer (some a), .int .u64 386])).run Tryd.prog w = .ok (some (39, a, 386)) w := by kernel_rfl
theorem Tryd.parts24 (a : Addr) (w : World) : (ReflectliteValue.parts (.agg #[.pointer (some ⟨3, 39, none⟩), .pointer (some a), .int .u64 130])).run Tryd.prog w = .ok (some (39, a, 130)) w := by kernel_rfl
theorem Tryd.direct24 (w : World) : (Rtype.directlyAssignable 39 39).run Tryd.prog w = .ok true w := by kernel_rfl
/-- (Value).Set: the Errno variable at 'ta' gets what the Value's own variable 'b' holds. -/
theorem Tryd.set24 (ta b : Addr) (n : Int) (old : Value) (W : World) (hb : W.cell? b = some (.int .i64 n)) (ht : W.cell? ta = some old) (hf : W.frozen? ta = false) :
    (ReflectliteValue.set #[.agg #[.pointer (some ⟨3, 39, none⟩), .pointer (some ta), .int .u64 386], .agg #[.pointer (some ⟨3, 39, none⟩), .pointer (some b), .int .u64 130]]).run Tryd.prog W
      = .ok (.tuple #[]) (W.setCell ta (.int .i64 n)) := by
  rw [rls]
  simp only [Sem.run_bind, Tryd.parts24a, Tryd.parts24, Result.andThen]
  simp [ReflectliteValue.flagAddr, loadVar, isAgg, underlying, Tryd.underlying39, hb, Result.andThen, Tryd.direct24, storeVar, Value.cells, storeCells, Addr.add]
  rw [run_store Tryd.prog W ta _ _ (by rfl)]
  simp [ht, hf]


set_option maxRecDepth 100000 in
set_option maxHeartbeats 4000000 in
theorem as32_hit (n : Int) (t a : Addr) (old : Value) (w : World) (ha : w.cell? a = some (.pointer (some t))) (ht0 : w.cell? t = some old) (hf0 : w.frozen? t = false) :
    Calls Tryd.prog 52 #[.iface 39 (.int .i64 n), .iface 76 (.pointer (some t)), .agg #[.pointer (some ⟨3, 76, none⟩), .pointer (some a), .int .u64 150], .iface 136 (.agg #[.pointer (some ⟨3, 39, none⟩)])] w
      fun ev w' => ev = .returned (.bool true) ∧ w' = ((w.alloc (.cells #[.pointer (some ⟨3, 76, none⟩), .pointer (some a), .int .u64 150] 101)).alloc (.cells #[.int .i64 n] 39)).setCell t (.int .i64 n) := by
  have h29 := @run_callFunc_extern Tryd.prog 49 _ (fun args => ReflectliteValue.unpack (args.getD 0 (.tuple #[]))) Tryd.func49 (by kernel_rfl) (by kernel_rfl) (by kernel_rfl) (by kernel_rfl)
  have h26 := @run_callFunc_extern Tryd.prog 68 _ ReflectliteType.typeOf Tryd.func68 (by kernel_rfl) (by kernel_rfl) (by kernel_rfl) (by kernel_rfl)
  have h90 := @run_callFunc_extern Tryd.prog 104 _ (ReflectliteType.relation "AssignableTo" ReflectliteType.assignableTo) Tryd.func104 (by kernel_rfl) (by kernel_rfl) (by kernel_rfl) (by kernel_rfl)
  have h41 := @run_callFunc_extern Tryd.prog 69 _ (ReflectliteValue.method (ReflectliteValue.valueError "reflectlite.Value.Elem" 0) ReflectliteValue.elem) Tryd.func69 (by kernel_rfl) (by kernel_rfl) (by kernel_rfl) (by kernel_rfl)
  have h42 := @run_callFunc_extern Tryd.prog 70 _ ReflectliteValue.set Tryd.func70 (by kernel_rfl) (by kernel_rfl) (by kernel_rfl) (by kernel_rfl)
  have tO := Tryd.typeOf24
  have mA := Tryd.methodAssignableTo
  have a24 := Tryd.assignable24
  have v24 := Tryd.valueOf24
  have hal := lt_of_cell ha
  have htl := lt_of_cell ht0
  have el := Tryd.elemV54 a t (w.alloc (.cells #[.pointer (some ⟨3, 76, none⟩), .pointer (some a), .int .u64 150] 101)) (by rw [World.cell?_alloc_lt _ _ a hal]; exact ha)
  have st := Tryd.set24 t ⟨w.heap.size + 1, 0, none⟩ n old ((w.alloc (.cells #[.pointer (some ⟨3, 76, none⟩), .pointer (some a), .int .u64 150] 101)).alloc (.cells #[.int .i64 n] 39))
    (by rw [World.cell?_alloc_at _ _ _ _ (by simp)]; rfl)
    (by rw [World.cell?_alloc_lt _ _ t (by simp; omega), World.cell?_alloc_lt _ _ t htl]; exact ht0)
    (by rw [World.frozen?_alloc_old _ _ t (by simp; omega), World.frozen?_alloc_old _ _ t (Nat.ne_of_lt htl)]; exact hf0)
  go_enter Tryd.func52, Tryd.ntmps52
  go_wp2
  refine wp_loop_rounds 1 ?_
  rw [rounds_succ]
  go_wp2
  go_ret
  exact ⟨rfl, rfl⟩

end Go.Proofs.YtehmkkccnadhoaaDoor.Fl
namespace Go.Proofs.YtehmkkccnadhoaaDoor.Fl
open Go.RowKit Go.Extern.Stop Go.Stop Go.Extern

/-- What a shell may hold: an error whose type has neither an Is nor an As. -/
def Plain (v : Value) : Prop := ∃ x, v = .iface 88 x

theorem shellAs (v : Value) (hv : Plain v) (t : Value) (w : World) :
    Calls Tryd.prog 102 #[.agg #[v], t] w fun e w' => e = .returned (.bool false) ∧ w' = w.alloc (.cells #[v] 115) := by
  obtain ⟨x, rfl⟩ := hv
  have q := tA40_106
  go_enter Tryd.func102, Tryd.ntmps102
  go_wp2
  go_ret
  exact ⟨rfl, rfl⟩

theorem methodAs (v : Value) (w : World) : (Go.method 283 115 (.agg #[v]) "As").run Tryd.prog w = .ok (102, .agg #[v]) w := by kernel_rfl
set_option maxRecDepth 100000 in
set_option maxHeartbeats 4000000 in
theorem as32_shell (v : Value) (hv : Plain v) (t a : Addr) (w : World) :
    Calls Tryd.prog 52 #[.iface 115 (.agg #[v]), .iface 76 (.pointer (some t)), .agg #[.pointer (some ⟨3, 76, none⟩), .pointer (some a), .int .u64 150], .iface 136 (.agg #[.pointer (some ⟨3, 39, none⟩)])] w
      fun ev w' => ev = .returned (.bool false) ∧ w' = (w.alloc (.cells #[.pointer (some ⟨3, 76, none⟩), .pointer (some a), .int .u64 150] 101)).alloc (.cells #[v] 115) := by
  have h26 := @run_callFunc_extern Tryd.prog 68 _ ReflectliteType.typeOf Tryd.func68 (by kernel_rfl) (by kernel_rfl) (by kernel_rfl) (by kernel_rfl)
  have h90 := @run_callFunc_extern Tryd.prog 104 _ (ReflectliteType.relation "AssignableTo" ReflectliteType.assignableTo) Tryd.func104 (by kernel_rfl) (by kernel_rfl) (by kernel_rfl) (by kernel_rfl)
  have tO := Tryd.typeOf93
  have mA := Tryd.methodAssignableTo
  have a24 := Tryd.assignable93
  have q1 := tA93_106
  have q2 := tA93_79
  have q3 := tA93_90
  have m1 := methodAs
  go_enter Tryd.func52, Tryd.ntmps52
  go_wp2
  refine wp_loop_rounds 1 ?_
  rw [rounds_succ]
  go_wp2_with (go_at_call 102; refine (shellAs v hv _ _).mono ?_; rintro e w' ⟨rfl, rfl⟩)
  go_ret
  exact ⟨rfl, rfl⟩

/-- What errors.As lays ahead of its search. -/
def asW (t : Addr) (w : World) : World := (w.alloc (.cells #[.pointer (some t)] 76)).alloc (.cells #[.pointer (some ⟨3, 76, none⟩), .pointer (some ⟨w.heap.size, 0, none⟩), .int .u64 150] 101)

set_option maxRecDepth 100000 in
set_option maxHeartbeats 4000000 in
theorem as17_of {T : TypeId} {x : Value} {R : Ending → World → Prop} (t : Addr) (w : World) (hg : w.cell? ⟨0, 0, none⟩ = some (.iface 136 (.agg #[.pointer (some ⟨3, 48, none⟩)])))
    (h : Calls Tryd.prog 52 #[.iface T x, .iface 76 (.pointer (some t)), .agg #[.pointer (some ⟨3, 76, none⟩), .pointer (some ⟨w.heap.size, 0, none⟩), .int .u64 150], .iface 136 (.agg #[.pointer (some ⟨3, 39, none⟩)])] (asW t w) fun ev w' => (∃ b, ev = .returned (.bool b)) ∧ R ev w') :
    Calls Tryd.prog 29 #[.iface T x, .iface 76 (.pointer (some t))] w R := by
  have h29 := @run_callFunc_extern Tryd.prog 49 _ (fun args => ReflectliteValue.unpack (args.getD 0 (.tuple #[]))) Tryd.func49 (by kernel_rfl) (by kernel_rfl) (by kernel_rfl) (by kernel_rfl)
  have h30 := @run_callFunc_extern Tryd.prog 50 _ (ReflectliteValue.methodAny (ReflectliteValue.valueError "reflectlite.Value.Type" 0) (fun t _ _ _ => ReflectliteType.toType t)) Tryd.func50 (by kernel_rfl) (by kernel_rfl) (by kernel_rfl) (by kernel_rfl)
  have h31 := @run_callFunc_extern Tryd.prog 51 _ (ReflectliteValue.method (ReflectliteValue.valueError "reflectlite.Value.IsNil" 0) ReflectliteValue.isNil) Tryd.func51 (by kernel_rfl) (by kernel_rfl) (by kernel_rfl) (by kernel_rfl)
  have h75 := @run_callFunc_extern Tryd.prog 92 _ (ReflectliteType.abiMethod fun t => do pure (.int .u8 (← Rtype.kind t))) Tryd.func92 (by kernel_rfl) (by kernel_rfl) (by kernel_rfl) (by kernel_rfl)
  have h92 := @run_callFunc_extern Tryd.prog 106 _ (ReflectliteType.method ReflectliteType.elem) Tryd.func106 (by kernel_rfl) (by kernel_rfl) (by kernel_rfl) (by kernel_rfl)
  have h93 := @run_callFunc_extern Tryd.prog 107 _ (ReflectliteType.relation "Implements" ReflectliteType.implements_) Tryd.func107 (by kernel_rfl) (by kernel_rfl) (by kernel_rfl) (by kernel_rfl)
  have hq := nilEq T x
  have f6 := Tryd.valueOf54
  have f7 := Tryd.type54
  have mK := Tryd.methodKind
  have mE := Tryd.methodElem
  have mI := Tryd.methodImplements
  have k27 := Tryd.kind54
  have k25 := Tryd.kind24
  have e27 := Tryd.elem54
  have i25 := Tryd.implements24
  have n8 := Tryd.isNil54 ⟨w.heap.size, 0, none⟩ t ((w.alloc (.cells #[.pointer (some t)] 76)).alloc (.cells #[.pointer (some ⟨3, 76, none⟩), .pointer (some ⟨w.heap.size, 0, none⟩), .int .u64 150] 101)) (by simp)
  have hlt := lt_of_cell hg
  have hg2 : ((w.alloc (.cells #[.pointer (some t)] 76)).alloc (.cells #[.pointer (some ⟨3, 76, none⟩), .pointer (some ⟨w.heap.size, 0, none⟩), .int .u64 150] 101)).cell? ⟨0, 0, none⟩ = some (.iface 136 (.agg #[.pointer (some ⟨3, 48, none⟩)])) := by
    rw [World.cell?_alloc_lt _ _ ⟨0, 0, none⟩ (by simp), World.cell?_alloc_lt _ _ ⟨0, 0, none⟩ hlt]; exact hg
  unfold asW at h
  go_enter Tryd.func29, Tryd.ntmps29
  go_wp2_with (go_at_call 52; refine h.mono ?_; rintro e w' ⟨⟨b, rfl⟩, hR⟩)
  exact hR
end Go.Proofs.YtehmkkccnadhoaaDoor.Fl
namespace Go.Proofs.YtehmkkccnadhoaaDoor.Fl
open Go.RowKit Go.Extern.Stop Go.Stop Go.Extern

theorem catch_idle (p : Addr) (w : World) :
    CallsD Tryd.prog 48 #[.pointer (some p)] .returning w fun e u' w' => e = .returned (.tuple #[]) ∧ u' = .returning ∧ w' = w := by
  have hq : ∀ w : World, (binOp .neq 20 .nilIface .nilIface).run Tryd.prog w = .ok (.bool false) w := fun w => by kernel_rfl
  refine callsD_of_wpS Tryd.func48 rfl fun c₀ cs hu => ?_
  apply wpS_seq
  apply wpS_region
  simp [wpOpsS, go_sem, recoverD, hu, Tryd.ntmps48, Exit.thenS, hq]
  refine wpS_cond (t := false) (by simp [Act.eval, Array.replicate]) ?_
  simp only [Bool.false_eq_true, if_false]
  refine wpS_of_wp (wp_skip ?_)
  cases c₀
  simp_all [bodyPostS, results, Tryd.results48]

theorem calm_any (f : Nat) (caps : Array Value) (w : World) (R : Bool → World → Prop) (ent : ∀ args w, (callFunc f args).run Tryd.prog w = .ok (.enter f args) w)
    (h : Calls Tryd.prog f caps (w.alloc (.cells #[.bool false] 4)) fun e w' => ∃ b, e = .returned (.bool b) ∧ (w'.cell? ⟨w.heap.size, 0, none⟩ = some (.bool false) ∧ w'.frozen? ⟨w.heap.size, 0, none⟩ = false) ∧ R b w') :
    Calls Tryd.prog 27 #[.func (.func f) #[] caps] w fun e w' => ∃ b w2, e = .returned (.bool b) ∧ R b w2 ∧ w' = w2.setCell ⟨w.heap.size, 0, none⟩ (.bool b) := by
  have hmf : ∀ (fn : Fn) (first cap : Array Value) (w : World), (Instr.makeFunc fn first cap).run Tryd.prog w = .ok (.func fn first cap) w := fun _ _ _ _ => rfl
  go_enter_defers Tryd.func27, Tryd.ntmps27
  go_wp2_with (fail)
  refine h.mono ?_
  rintro e w' ⟨b, rfl, ⟨hc, hf⟩, hR⟩
  go_wp2
  refine leaves_cons (f := 48) (args := #[.pointer (some ⟨w.heap.size, 0, none⟩)]) (by simp) (by simp [go_sem]) ?_
  refine (catch_idle ⟨w.heap.size, 0, none⟩ _).mono ?_
  rintro e u' w'' ⟨rfl, rfl, rfl⟩
  have hs := World.cell?_setCell_same' w' ⟨w.heap.size, 0, none⟩ (.bool b) (by rw [hc]; rfl)
  simp [Leaves, settle, results, Tryd.results27, go_sem, hs]
  cases b
  · exact Or.inl ⟨rfl, w', hR, rfl⟩
  · exact Or.inr ⟨rfl, w', hR, rfl⟩
end Go.Proofs.YtehmkkccnadhoaaDoor.Fl
