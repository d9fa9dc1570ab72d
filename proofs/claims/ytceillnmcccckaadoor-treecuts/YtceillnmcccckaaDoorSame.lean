/-
  What SameNode returns for two nodes that read alike: true; and All, Nodes of a nil or an empty tree: nothing; conditions: their bytes are read.
-/
import Derived.Test.YtceillnmcccckaaDoorAwake
namespace Go.Proofs.YtceillnmcccckaaDoor
open Go.RowKit
open Tr

theorem acells_lrange {w : World} {g : Nat} {t : TypeId} {kv vv : Value} {h : Int} {z : Nat} {l r : List UInt8} (hw : Whole w g t (acells kv vv h z l r).toArray) : w.rangeAt g 4 (l.map V8) := fun j v hv =>
  hw.at_ (by
    have hj := (List.getElem?_eq_some_iff.1 hv).1
    rw [List.getElem?_toArray, acells, show 4 + j = j + 4 by omega]
    show (l.map V8 ++ r.map V8)[j]? = some v
    rw [List.getElem?_append_left hj, hv])
theorem acells_rrange {w : World} {g : Nat} {t : TypeId} {kv vv : Value} {h : Int} {z : Nat} {l r : List UInt8} (hw : Whole w g t (acells kv vv h z l r).toArray) (hl : l.length = 32) : w.rangeAt g 36 (r.map V8) := fun j v hv =>
  hw.at_ (by
    rw [List.getElem?_toArray, acells, show 36 + j = (32 + j) + 4 by omega]
    show (l.map V8 ++ r.map V8)[32 + j]? = some v
    rw [List.getElem?_append_right (by rw [List.length_map, hl]; omega), List.length_map, hl, show 32 + j - 32 = j by omega, hv])
/-- A stretch of a block is loaded, by an operation that is wanted. -/
theorem wpList_load_w {ops : Array Oper} {rest : List Oper} {op : Oper} {a : Act} {w : World} {Q : Exit → Act → World → Prop} (hw : Region.wanted op (yielded ops a.tmps) = true) (ty : TypeId) (x : Operand) (ho : op.op = .load ty x)
    (g o : Nat) (hx : a.eval x = .pointer (some ⟨g, o, none⟩)) (cs : List Value) (d : TypeDesc) (hc : w.rangeAt g o cs)
    (hu : Tryd.prog.underlying ty = some d) (hd : d.isRow = true) (hi : (Tryd.prog.info? ty).map (·.size) = some cs.length)
    (h : wpList Tryd.prog ops Q rest (a.put op.dst (.agg cs.toArray)) w) : wpList Tryd.prog ops Q (op :: rest) a w :=
  wpList_step fun K hK => by
    rw [if_pos hw]
    exact wp_load_mid ty x ho g o hx cs d hc hu hd hi (hK _ _ h)
theorem load49 {w : World} {g o : Nat} {s : List UInt8} (h : w.rangeAt g o (s.map V8)) (hs : s.length = 32) : (Instr.loadAt 49 (.pointer (some ⟨g, o, none⟩))).run Tryd.prog w = .ok (.agg (Sh.bcells s)) w :=
  run_loadAt_mid w g o 49 (s.map V8) _ h Tryd.underlying49 rfl (by rw [List.length_map, hs]; exact info49)

set_option maxRecDepth 100000 in
set_option maxHeartbeats 1000000 in
theorem sameNode_yes (A A' A2 A2' : Option Addr) (n c n' c' n2 c2 n2' c2' : Nat) (h : Int) (z : Nat) (l r k v : List UInt8) (w : World) (hl : l.length = 32) (hr : r.length = 32)
    (h1 : Rd w w.heap.size A n k) (h2 : Rd w w.heap.size A' n' v) (h3 : Rd w w.heap.size A2 n2 k) (h4 : Rd w w.heap.size A2' n2' v) :
    Calls Tryd.prog 32 #[.agg (acells (.slice A n c) (.slice A' n' c') h z l r).toArray, .agg (acells (.slice A2 n2 c2) (.slice A2' n2' c2') h z l r).toArray] w fun e w' => e = .returned (.bool true) ∧ Below w.heap.size w w' := by
  have hb : Below w.heap.size w ((w.alloc (.cells (acells (.slice A n c) (.slice A' n' c') h z l r).toArray 64)).alloc (.cells (acells (.slice A2 n2 c2) (.slice A2' n2' c2') h z l r).toArray 64)) := ((Below.refl _ _).alloc (Nat.le_refl _) _).alloc (by simp) _
  have hw1 := (Whole.made w 64 (acells (.slice A n c) (.slice A' n' c') h z l r).toArray).alloc (.cells (acells (.slice A2 n2 c2) (.slice A2' n2' c2') h z l r).toArray 64)
  have hw2 := Whole.made (w.alloc (.cells (acells (.slice A n c) (.slice A' n' c') h z l r).toArray 64)) 64 (acells (.slice A2 n2 c2) (.slice A2' n2' c2') h z l r).toArray
  rw [size_alloc] at hw2
  generalize hX1 : (acells (.slice A n c) (.slice A' n' c') h z l r).toArray = X1 at *
  generalize hX2 : (acells (.slice A2 n2 c2) (.slice A2' n2' c2') h z l r).toArray = X2 at *
  have HX := Lib.hid (And.intro hX1 hX2)
  clear hX1 hX2
  have HH := Lib.hid (And.intro h1 (And.intro h2 (And.intro h3 h4)))
  clear h1 h2 h3 h4
  have HW1 := Lib.hid hw1
  have HW2 := Lib.hid hw2
  have HB := Lib.hid hb
  clear hw1 hw2 hb
  go_enter Tryd.func32, Tryd.ntmps32
  go_upto_region 1 with (fail)
  generalize (w.alloc (.cells X1 64)).alloc (.cells X2 64) = w1 at *
  have hw1 := HW1.out
  have hw2 := HW2.out
  rw [← HX.out.1] at hw1
  rw [← HX.out.2] at hw2
  obtain ⟨a0, a1, a2, a3⟩ := abox hw1
  obtain ⟨b0, b1, b2, b3⟩ := abox hw2
  have s1 := run_string w1 _ A n c k (HH.out.1.below HB.out (Nat.le_refl _))
  have s2 := run_string w1 _ A' n' c' v (HH.out.2.1.below HB.out (Nat.le_refl _))
  have s3 := run_string w1 _ A2 n2 c2 k (HH.out.2.2.1.below HB.out (Nat.le_refl _))
  have s4 := run_string w1 _ A2' n2' c2' v (HH.out.2.2.2.below HB.out (Nat.le_refl _))
  have HL1 := Lib.hid (acells_lrange hw1)
  have HL2 := Lib.hid (acells_lrange hw2)
  have HR1 := Lib.hid (acells_rrange hw1 hl)
  have HR2 := Lib.hid (acells_rrange hw2 hl)
  have e1 := run_eq49 l l hl hl w1
  have e2 := run_eq49 r r hr hr w1
  rw [show (l == l) = true by simp] at e1
  rw [show (r == r) = true by simp] at e2
  have il : (Tryd.prog.info? 49).map (·.size) = some (l.map V8).length := by rw [List.length_map, hl]; exact info49
  have ir : (Tryd.prog.info? 49).map (·.size) = some (r.map V8).length := by rw [List.length_map, hr]; exact info49
  have HI := Lib.hid (And.intro il ir)
  clear hw1 hw2 HX HW1 HW2 HH il ir
  refine wp_region_lit ?_
  iterate 78 go_step
  refine wpList_load_w rfl 49 (.tmp 36) rfl w.heap.size 4 rfl _ _ HL1.out Tryd.underlying49 rfl HI.out.1 ?_
  iterate 2 go_step
  refine wpList_load_w rfl 49 (.tmp 38) rfl (w.heap.size + 1) 4 rfl _ _ HL2.out Tryd.underlying49 rfl HI.out.1 ?_
  change Sem.run Tryd.prog (Op.equalIn 10000 49 (Value.agg (l.map V8).toArray) (Value.agg (l.map V8).toArray)) w1 = _ at e1
  change Sem.run Tryd.prog (Op.equalIn 10000 49 (Value.agg (r.map V8).toArray) (Value.agg (r.map V8).toArray)) w1 = _ at e2
  generalize hL : l.map V8 = L at *
  generalize hR : r.map V8 = R at *
  clear hL hR
  iterate 10 go_step
  refine wpList_load_w rfl 49 (.tmp 43) rfl w.heap.size 36 rfl _ _ HR1.out Tryd.underlying49 rfl HI.out.2 ?_
  iterate 2 go_step
  refine wpList_load_w rfl 49 (.tmp 45) rfl (w.heap.size + 1) 36 rfl _ _ HR2.out Tryd.underlying49 rfl HI.out.2 ?_
  go_wp2_with fail
  go_ret
  exact ⟨rfl, HB.out⟩

set_option maxRecDepth 100000 in
theorem all_nil (w : World) : Calls Tryd.prog 23 #[.pointer none] w fun e w' => e = .returned (.slice none 0 0) ∧ Below w.heap.size w w' := by
  have hmf : ∀ (fn : Fn) (first cap : Array Value) (w : World), (Instr.makeFunc fn first cap).run Tryd.prog w = .ok (.func fn first cap) w := fun _ _ _ _ => rfl
  have hb : Below w.heap.size w (w.alloc (.cells #[.slice none 0 0] 32)) := (Below.refl _ _).alloc (Nat.le_refl _) _
  have hc := (Whole.made w 32 #[.slice none 0 0]).at_ (i := 0) rfl
  have HU := Lib.hid (upmost_any (G := All) none none w.heap.size (w.alloc (.cells #[.slice none 0 0] 32)) rfl)
  have HV := Lib.hid (visit_nil (.func (.func 47) #[] #[.pointer (some ⟨w.heap.size, 0, none⟩)]) (w.alloc (.cells #[.slice none 0 0] 32)))
  have HB := Lib.hid hb
  clear hb
  rw [ptr_none] at HU
  go_enter Tryd.func23, Tryd.ntmps23
  go_wp2_with fail
  refine HU.out.mono ?_
  rintro e w1 ⟨p, rfl, hp, rfl⟩
  obtain rfl := hp
  rw [ptr_none]
  generalize w.alloc (.cells #[.slice none 0 0] 32) = w1 at *
  go_wp2_with fail
  refine HV.out.mono ?_
  rintro e w2 ⟨rfl, rfl⟩
  go_wp2_with fail
  go_ret
  exact ⟨rfl, HB.out⟩
set_option maxRecDepth 100000 in
theorem nodes_nil (w : World) : Calls Tryd.prog 27 #[.pointer none] w fun e w' => e = .returned (.slice none 0 0) ∧ Below w.heap.size w w' := by
  have hmf : ∀ (fn : Fn) (first cap : Array Value) (w : World), (Instr.makeFunc fn first cap).run Tryd.prog w = .ok (.func fn first cap) w := fun _ _ _ _ => rfl
  have hb : Below w.heap.size w (w.alloc (.cells #[.slice none 0 0] 52)) := (Below.refl _ _).alloc (Nat.le_refl _) _
  have hc := (Whole.made w 52 #[.slice none 0 0]).at_ (i := 0) rfl
  have HU := Lib.hid (upmost_any (G := All) none none w.heap.size (w.alloc (.cells #[.slice none 0 0] 52)) rfl)
  have HV := Lib.hid (visit_nil (.func (.func 49) #[] #[.pointer (some ⟨w.heap.size, 0, none⟩)]) (w.alloc (.cells #[.slice none 0 0] 52)))
  have HB := Lib.hid hb
  clear hb
  rw [ptr_none] at HU
  go_enter Tryd.func27, Tryd.ntmps27
  go_wp2_with fail
  refine HU.out.mono ?_
  rintro e w1 ⟨p, rfl, hp, rfl⟩
  obtain rfl := hp
  rw [ptr_none]
  generalize w.alloc (.cells #[.slice none 0 0] 52) = w1 at *
  go_wp2_with fail
  refine HV.out.mono ?_
  rintro e w2 ⟨rfl, rfl⟩
  go_wp2_with fail
  go_ret
  exact ⟨rfl, HB.out⟩
end Go.Proofs.YtceillnmcccckaaDoor
