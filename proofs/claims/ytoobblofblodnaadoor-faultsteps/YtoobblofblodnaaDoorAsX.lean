/-
  errors.As at a target of type **Step, asked of a Step that another wraps: it is found.
-/
import Derived.Test.YtoobblofblodnaaDoorAsOut
import Derived.Test.YtoobblofblodnaaDoorInner
namespace Go.Proofs.YtoobblofblodnaaDoor
open Go.RowKit Go.Extern.Stop Go.Stop Go.Extern

theorem Tryd.valueOf44 (t : Addr) (w : World) : (ReflectliteValue.unpack (.iface 44 (.pointer (some t)))).run Tryd.prog w
    = .ok (.agg #[.pointer (some ⟨4, 44, none⟩), .pointer (some ⟨w.heap.size, 0, none⟩), .int .u64 150]) (w.alloc (.cells #[.pointer (some t)] 44)) := by kernel_rfl
theorem Tryd.type44 (a : Addr) (w : World) : (ReflectliteValue.methodAny (ReflectliteValue.valueError "reflectlite.Value.Type" 0) (fun t _ _ _ => ReflectliteType.toType t) #[.agg #[.pointer (some ⟨4, 44, none⟩), .pointer (some a), .int .u64 150]]).run Tryd.prog w
    = .ok (.iface 98 (.agg #[.pointer (some ⟨4, 44, none⟩)])) w := by kernel_rfl
theorem Tryd.kind44 (w : World) : ((ReflectliteType.abiMethod fun t => (fun a : Nat => Value.int IntKind.u8 (a : Int)) <$> Rtype.kind t) #[.pointer (some ⟨4, 44, none⟩)]).run Tryd.prog w = .ok (.int .u8 22) w := by kernel_rfl
theorem Tryd.kind40 (w : World) : ((ReflectliteType.abiMethod fun t => (fun a : Nat => Value.int IntKind.u8 (a : Int)) <$> Rtype.kind t) #[.pointer (some ⟨4, 40, none⟩)]).run Tryd.prog w = .ok (.int .u8 22) w := by kernel_rfl
theorem Tryd.parts44 (a : Addr) (w : World) : (ReflectliteValue.parts (.agg #[.pointer (some ⟨4, 44, none⟩), .pointer (some a), .int .u64 150])).run Tryd.prog w = .ok (some (44, a, 150)) w := by kernel_rfl
theorem Tryd.isNil44 (a p : Addr) (W : World) (ha : W.cell? a = some (.pointer (some p))) :
    (ReflectliteValue.method (ReflectliteValue.valueError "reflectlite.Value.IsNil" 0) ReflectliteValue.isNil #[.agg #[.pointer (some ⟨4, 44, none⟩), .pointer (some a), .int .u64 150]]).run Tryd.prog W = .ok (.bool false) W := by
  rw [rlm]
  simp only [Sem.run_bind, Tryd.parts44, Result.andThen]
  simp [ReflectliteValue.isNil, loadVar, isAgg, underlying, Tryd.underlying44, ha, Result.andThen]
theorem Tryd.elem44 (w : World) : (ReflectliteType.method ReflectliteType.elem #[.agg #[.pointer (some ⟨4, 44, none⟩)]]).run Tryd.prog w = .ok (.iface 98 (.agg #[.pointer (some ⟨4, 40, none⟩)])) w := by kernel_rfl
theorem Tryd.implements40 (w : World) : (ReflectliteType.relation "Implements" ReflectliteType.implements_ #[.agg #[.pointer (some ⟨4, 40, none⟩)], .iface 98 (.agg #[.pointer (some ⟨4, 27, none⟩)])]).run Tryd.prog w = .ok (.bool true) w := by kernel_rfl
theorem Tryd.typeOf40 (v : Value) (w : World) : (ReflectliteType.typeOf #[.iface 40 v]).run Tryd.prog w = .ok (.iface 98 (.agg #[.pointer (some ⟨4, 40, none⟩)])) w := by kernel_rfl
theorem Tryd.typeOf43 (v : Value) (w : World) : (ReflectliteType.typeOf #[.iface 43 v]).run Tryd.prog w = .ok (.iface 98 (.agg #[.pointer (some ⟨4, 43, none⟩)])) w := by kernel_rfl
theorem Tryd.assignable40 (w : World) : (ReflectliteType.relation "AssignableTo" ReflectliteType.assignableTo #[.agg #[.pointer (some ⟨4, 40, none⟩)], .iface 98 (.agg #[.pointer (some ⟨4, 40, none⟩)])]).run Tryd.prog w = .ok (.bool true) w := by kernel_rfl
theorem Tryd.assignable43 (w : World) : (ReflectliteType.relation "AssignableTo" ReflectliteType.assignableTo #[.agg #[.pointer (some ⟨4, 43, none⟩)], .iface 98 (.agg #[.pointer (some ⟨4, 40, none⟩)])]).run Tryd.prog w = .ok (.bool false) w := by kernel_rfl
theorem Tryd.valueOf40 (e : Addr) (w : World) : (ReflectliteValue.unpack (.iface 40 (.pointer (some e)))).run Tryd.prog w
    = .ok (.agg #[.pointer (some ⟨4, 40, none⟩), .pointer (some ⟨w.heap.size, 0, none⟩), .int .u64 150]) (w.alloc (.cells #[.pointer (some e)] 40)) := by kernel_rfl
theorem Tryd.elemOf44 (w : World) : (Rtype.elem? 44).run Tryd.prog w = .ok (some 40) w := by kernel_rfl
theorem Tryd.mk40 (p : Addr) (w : World) : (ReflectliteValue.mk 40 p ReflectliteValue.flagAddr).run Tryd.prog w = .ok (.agg #[.pointer (some ⟨4, 40, none⟩), .pointer (some p), .int .u64 406]) w := by kernel_rfl
theorem Tryd.elemV44 (a p : Addr) (W : World) (ha : W.cell? a = some (.pointer (some p))) :
    (ReflectliteValue.method (ReflectliteValue.valueError "reflectlite.Value.Elem" 0) ReflectliteValue.elem #[.agg #[.pointer (some ⟨4, 44, none⟩), .pointer (some a), .int .u64 150]]).run Tryd.prog W
      = .ok (.agg #[.pointer (some ⟨4, 40, none⟩), .pointer (some p), .int .u64 406]) W := by
  rw [rlm]
  simp only [Sem.run_bind, Tryd.parts44, Result.andThen]
  simp [ReflectliteValue.elem, loadVar, isAgg, underlying, Tryd.underlying44, ha, Result.andThen, Tryd.elemOf44, Tryd.mk40]
theorem Tryd.parts40a (a : Addr) (w : World) : (ReflectliteValue.parts (.agg #[.pointer (some ⟨4, 40, none⟩), .pointer (some a), .int .u64 406])).run Tryd.prog w = .ok (some (40, a, 406)) w := by kernel_rfl
theorem Tryd.parts40 (a : Addr) (w : World) : (ReflectliteValue.parts (.agg #[.pointer (some ⟨4, 40, none⟩), .pointer (some a), .int .u64 150])).run Tryd.prog w = .ok (some (40, a, 150)) w := by kernel_rfl
theorem Tryd.direct40 (w : World) : (Rtype.directlyAssignable 40 40).run Tryd.prog w = .ok true w := by kernel_rfl
/-- (Value).Set: the *Step variable at 'ta' gets what the Value's own variable 'b' holds. -/
theorem Tryd.set40 (ta b e : Addr) (old : Value) (W : World) (hb : W.cell? b = some (.pointer (some e))) (ht : W.cell? ta = some old) (hf : W.frozen? ta = false) :
    (ReflectliteValue.set #[.agg #[.pointer (some ⟨4, 40, none⟩), .pointer (some ta), .int .u64 406], .agg #[.pointer (some ⟨4, 40, none⟩), .pointer (some b), .int .u64 150]]).run Tryd.prog W
      = .ok (.tuple #[]) (W.setCell ta (.pointer (some e))) := by
  rw [rls]
  simp only [Sem.run_bind, Tryd.parts40a, Tryd.parts40, Result.andThen]
  simp [ReflectliteValue.flagAddr, loadVar, isAgg, underlying, Tryd.underlying40, hb, Result.andThen, Tryd.direct40, storeVar, Value.cells, storeCells, Addr.add]
  rw [run_store Tryd.prog W ta _ _ (by rfl)]
  simp [ht, hf]

set_option maxRecDepth 100000 in
set_option maxHeartbeats 4000000 in
theorem as32_step (b : Nat) (t a : Addr) (old : Value) (w : World) (ha : w.cell? a = some (.pointer (some t))) (ht0 : w.cell? t = some old) (hf0 : w.frozen? t = false) :
    Calls Tryd.prog 32 #[.iface 43 (.agg #[.iface 40 (.pointer (some ⟨b, 0, none⟩))]), .iface 44 (.pointer (some t)), .agg #[.pointer (some ⟨4, 44, none⟩), .pointer (some a), .int .u64 150], .iface 98 (.agg #[.pointer (some ⟨4, 40, none⟩)])] w
      fun ev w' => ev = .returned (.bool true) ∧ w' = (((w.alloc (.cells #[.pointer (some ⟨4, 44, none⟩), .pointer (some a), .int .u64 150] 65)).alloc (.cells #[.iface 40 (.pointer (some ⟨b, 0, none⟩))] 43)).alloc (.cells #[.pointer (some ⟨b, 0, none⟩)] 40)).setCell t (.pointer (some ⟨b, 0, none⟩)) := by
  have h29 := @run_callFunc_extern Tryd.prog 29 _ (fun args => ReflectliteValue.unpack (args.getD 0 (.tuple #[]))) Tryd.func29 (by kernel_rfl) (by kernel_rfl) (by kernel_rfl) (by kernel_rfl)
  have h26 := @run_callFunc_extern Tryd.prog 26 _ ReflectliteType.typeOf Tryd.func26 (by kernel_rfl) (by kernel_rfl) (by kernel_rfl) (by kernel_rfl)
  have h90 := @run_callFunc_extern Tryd.prog 90 _ (ReflectliteType.relation "AssignableTo" ReflectliteType.assignableTo) Tryd.func90 (by kernel_rfl) (by kernel_rfl) (by kernel_rfl) (by kernel_rfl)
  have h41 := @run_callFunc_extern Tryd.prog 41 _ (ReflectliteValue.method (ReflectliteValue.valueError "reflectlite.Value.Elem" 0) ReflectliteValue.elem) Tryd.func41 (by kernel_rfl) (by kernel_rfl) (by kernel_rfl) (by kernel_rfl)
  have h42 := @run_callFunc_extern Tryd.prog 42 _ ReflectliteValue.set Tryd.func42 (by kernel_rfl) (by kernel_rfl) (by kernel_rfl) (by kernel_rfl)
  have tO := Tryd.typeOf40
  have tP := Tryd.typeOf43
  have mA := Tryd.methodAssignableTo
  have a40 := Tryd.assignable40
  have a43 := Tryd.assignable43
  have v40 := Tryd.valueOf40
  have q1 := tA43_106
  have q2 := tA43_79
  have m1 := methodUnwrap43
  have qn := nilEq 40 (.pointer (some ⟨b, 0, none⟩))
  have hal := lt_of_cell ha
  have htl := lt_of_cell ht0
  have hs1 : (w.alloc (.cells #[.pointer (some ⟨4, 44, none⟩), .pointer (some a), .int .u64 150] 65)).heap.size = w.heap.size + 1 := by simp
  have hs2 : ((w.alloc (.cells #[.pointer (some ⟨4, 44, none⟩), .pointer (some a), .int .u64 150] 65)).alloc (.cells #[.iface 40 (.pointer (some ⟨b, 0, none⟩))] 43)).heap.size = w.heap.size + 1 + 1 := by simp
  have el := Tryd.elemV44 a t ((w.alloc (.cells #[.pointer (some ⟨4, 44, none⟩), .pointer (some a), .int .u64 150] 65)).alloc (.cells #[.iface 40 (.pointer (some ⟨b, 0, none⟩))] 43)) (by rw [World.cell?_alloc_lt _ _ a (by rw [hs1]; omega), World.cell?_alloc_lt _ _ a hal]; exact ha)
  have st := Tryd.set40 t ⟨w.heap.size + 1 + 1, 0, none⟩ ⟨b, 0, none⟩ old (((w.alloc (.cells #[.pointer (some ⟨4, 44, none⟩), .pointer (some a), .int .u64 150] 65)).alloc (.cells #[.iface 40 (.pointer (some ⟨b, 0, none⟩))] 43)).alloc (.cells #[.pointer (some ⟨b, 0, none⟩)] 40))
    (by rw [cNew (by rw [hs2])]; rfl)
    (by rw [World.cell?_alloc_lt _ _ t (by rw [hs2]; omega), World.cell?_alloc_lt _ _ t (by rw [hs1]; omega), World.cell?_alloc_lt _ _ t htl]; exact ht0)
    (by rw [World.frozen?_alloc_old _ _ t (by rw [hs2]; omega), World.frozen?_alloc_old _ _ t (by rw [hs1]; omega), World.frozen?_alloc_old _ _ t (Nat.ne_of_lt htl)]; exact hf0)
  have cbox : ((w.alloc (.cells #[.pointer (some ⟨4, 44, none⟩), .pointer (some a), .int .u64 150] 65)).alloc (.cells #[.iface 40 (.pointer (some ⟨b, 0, none⟩))] 43)).cell? ⟨w.heap.size, 0, none⟩ = some (.pointer (some ⟨4, 44, none⟩)) := by rw [cOld (by rw [hs1]; omega), cNew rfl]; rfl
  have cbox1 : ((w.alloc (.cells #[.pointer (some ⟨4, 44, none⟩), .pointer (some a), .int .u64 150] 65)).alloc (.cells #[.iface 40 (.pointer (some ⟨b, 0, none⟩))] 43)).cell? ⟨w.heap.size, 1, none⟩ = some (.pointer (some a)) := by rw [cOld (by rw [hs1]; omega), cNew rfl]; rfl
  have cbox2 : ((w.alloc (.cells #[.pointer (some ⟨4, 44, none⟩), .pointer (some a), .int .u64 150] 65)).alloc (.cells #[.iface 40 (.pointer (some ⟨b, 0, none⟩))] 43)).cell? ⟨w.heap.size, 2, none⟩ = some (.int .u64 150) := by rw [cOld (by rw [hs1]; omega), cNew rfl]; rfl
  clear hs1 hs2
  go_enter Tryd.func32, Tryd.ntmps32
  go_wp2
  refine wp_loop_rounds 2 ?_
  rw [rounds_succ]
  go_wp2_with (go_at_call 81; refine (otherUnwrap (.iface 40 (.pointer (some ⟨b, 0, none⟩))) _).mono ?_; rintro e w' ⟨rfl, rfl⟩)
  rw [rounds_succ]
  go_wp2
  go_ret
  exact ⟨rfl, rfl⟩

/-- What errors.As lays ahead of its search. -/
def asX (t : Addr) (w : World) : World := (w.alloc (.cells #[.pointer (some t)] 44)).alloc (.cells #[.pointer (some ⟨4, 44, none⟩), .pointer (some ⟨w.heap.size, 0, none⟩), .int .u64 150] 65)

set_option maxRecDepth 100000 in
set_option maxHeartbeats 4000000 in
theorem as17x_of {T : TypeId} {x : Value} {R : Ending → World → Prop} (t : Addr) (w : World) (hg : w.cell? ⟨0, 0, none⟩ = some (.iface 98 (.agg #[.pointer (some ⟨4, 27, none⟩)])))
    (h : Calls Tryd.prog 32 #[.iface T x, .iface 44 (.pointer (some t)), .agg #[.pointer (some ⟨4, 44, none⟩), .pointer (some ⟨w.heap.size, 0, none⟩), .int .u64 150], .iface 98 (.agg #[.pointer (some ⟨4, 40, none⟩)])] (asX t w) fun ev w' => (∃ b, ev = .returned (.bool b)) ∧ R ev w') :
    Calls Tryd.prog 17 #[.iface T x, .iface 44 (.pointer (some t))] w R := by
  have h29 := @run_callFunc_extern Tryd.prog 29 _ (fun args => ReflectliteValue.unpack (args.getD 0 (.tuple #[]))) Tryd.func29 (by kernel_rfl) (by kernel_rfl) (by kernel_rfl) (by kernel_rfl)
  have h30 := @run_callFunc_extern Tryd.prog 30 _ (ReflectliteValue.methodAny (ReflectliteValue.valueError "reflectlite.Value.Type" 0) (fun t _ _ _ => ReflectliteType.toType t)) Tryd.func30 (by kernel_rfl) (by kernel_rfl) (by kernel_rfl) (by kernel_rfl)
  have h31 := @run_callFunc_extern Tryd.prog 31 _ (ReflectliteValue.method (ReflectliteValue.valueError "reflectlite.Value.IsNil" 0) ReflectliteValue.isNil) Tryd.func31 (by kernel_rfl) (by kernel_rfl) (by kernel_rfl) (by kernel_rfl)
  have h75 := @run_callFunc_extern Tryd.prog 75 _ (ReflectliteType.abiMethod fun t => do pure (.int .u8 (← Rtype.kind t))) Tryd.func75 (by kernel_rfl) (by kernel_rfl) (by kernel_rfl) (by kernel_rfl)
  have h92 := @run_callFunc_extern Tryd.prog 92 _ (ReflectliteType.method ReflectliteType.elem) Tryd.func92 (by kernel_rfl) (by kernel_rfl) (by kernel_rfl) (by kernel_rfl)
  have h93 := @run_callFunc_extern Tryd.prog 93 _ (ReflectliteType.relation "Implements" ReflectliteType.implements_) Tryd.func93 (by kernel_rfl) (by kernel_rfl) (by kernel_rfl) (by kernel_rfl)
  have hq := nilEq T x
  have f6 := Tryd.valueOf44
  have f7 := Tryd.type44
  have mK := Tryd.methodKind
  have mE := Tryd.methodElem
  have mI := Tryd.methodImplements
  have k27 := Tryd.kind44
  have k25 := Tryd.kind40
  have e27 := Tryd.elem44
  have i25 := Tryd.implements40
  have n8 := Tryd.isNil44 ⟨w.heap.size, 0, none⟩ t ((w.alloc (.cells #[.pointer (some t)] 44)).alloc (.cells #[.pointer (some ⟨4, 44, none⟩), .pointer (some ⟨w.heap.size, 0, none⟩), .int .u64 150] 65)) (by simp)
  have hlt := lt_of_cell hg
  have hg2 : ((w.alloc (.cells #[.pointer (some t)] 44)).alloc (.cells #[.pointer (some ⟨4, 44, none⟩), .pointer (some ⟨w.heap.size, 0, none⟩), .int .u64 150] 65)).cell? ⟨0, 0, none⟩ = some (.iface 98 (.agg #[.pointer (some ⟨4, 27, none⟩)])) := by
    rw [World.cell?_alloc_lt _ _ ⟨0, 0, none⟩ (by simp), World.cell?_alloc_lt _ _ ⟨0, 0, none⟩ hlt]; exact hg
  unfold asX at h
  go_enter Tryd.func17, Tryd.ntmps17
  go_wp2_with (go_at_call 32; refine h.mono ?_; rintro e w' ⟨⟨b, rfl⟩, hR⟩)
  exact hR
end Go.Proofs.YtoobblofblodnaaDoor
