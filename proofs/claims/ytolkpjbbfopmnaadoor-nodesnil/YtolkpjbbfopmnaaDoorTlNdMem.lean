/-
  How nodes lie in memory; small facts that the walks lean on: no condition.
-/
import Derived.Test.YtolkpjbbfopmnaaDoorTlNd
import Derived.Test.YtolkpjbbfopmnaaDoorTlRes
import Derived.Test.YtolkpjbbfopmnaaDoorTlPut
import Derived.Test.YtolkpjbbfopmnaaDoorTlEight
namespace Go.Proofs.YtolkpjbbfopmnaaDoor.Tl
open Go.RowKit
open Tlv (Nd)

/-- The cells of a node as it is handed on. -/
def acells (kv vv : Value) (h : Int) (z : Nat) (l r : List UInt8) : List Value := kv :: vv :: .int .i64 h :: .int .u64 z :: (l.map V8 ++ r.map V8)
theorem acells_len (kv vv : Value) (h : Int) (z : Nat) (l r : List UInt8) (hl : l.length = 32) (hr : r.length = 32) : (acells kv vv h z l r).length = 68 := by
  simp [acells, hl, hr]
theorem abox {w : World} {g : Nat} {t : TypeId} {kv vv : Value} {h : Int} {z : Nat} {l r : List UInt8} (hw : Whole w g t (acells kv vv h z l r).toArray) :
    w.cell? ⟨g, 0, none⟩ = some kv ∧ w.cell? ⟨g, 1, none⟩ = some vv ∧ w.cell? ⟨g, 2, none⟩ = some (.int .i64 h) ∧ w.cell? ⟨g, 3, none⟩ = some (.int .u64 z) :=
  ⟨hw.at_ rfl, hw.at_ rfl, hw.at_ rfl, hw.at_ rfl⟩

theorem abox_l {w : World} {g : Nat} {t : TypeId} {kv vv : Value} {h : Int} {z : Nat} {l r : List UInt8} (hw : Whole w g t (acells kv vv h z l r).toArray) (hl : l.length = 32) : Rd w w.heap.size (some ⟨g, 4, none⟩) 32 l :=
  Rd.mk_ hl g 4 hw.lt fun j v hv => hw.at_ (by
    have hj := (List.getElem?_eq_some_iff.1 hv).1
    rw [List.getElem?_toArray, acells, Nat.add_comm 4 j]
    show (List.map V8 l ++ List.map V8 r)[j]? = _
    rw [List.getElem?_append_left (by rw [List.length_map]; exact hj), List.getElem?_map, hv]; rfl)
theorem abox_r {w : World} {g : Nat} {t : TypeId} {kv vv : Value} {h : Int} {z : Nat} {l r : List UInt8} (hw : Whole w g t (acells kv vv h z l r).toArray) (hl : l.length = 32) (hr : r.length = 32) : Rd w w.heap.size (some ⟨g, 36, none⟩) 32 r :=
  Rd.mk_ hr g 36 hw.lt fun j v hv => hw.at_ (by
    rw [List.getElem?_toArray, acells, show 36 + j = (32 + j) + 4 by omega]
    show (List.map V8 l ++ List.map V8 r)[32 + j]? = _
    rw [List.getElem?_append_right (by rw [List.length_map]; omega), List.length_map, hl, Nat.add_sub_cancel_left, List.getElem?_map, hv]; rfl)

theorem acells_lrange {w : World} {g : Nat} {t : TypeId} {kv vv : Value} {h : Int} {z : Nat} {l r : List UInt8} (hw : Whole w g t (acells kv vv h z l r).toArray) : w.rangeAt g 4 (l.map V8) := fun j v hv =>
  hw.at_ (by
    have hj := (List.getElem?_eq_some_iff.1 hv).1
    rw [List.getElem?_toArray, acells, show 4 + j = j + 4 by omega]
    show (l.map V8 ++ r.map V8)[j]? = some v
    rw [List.getElem?_append_left hj, hv])
theorem acells_rrange {w : World} {g : Nat} {t : TypeId} {kv vv : Value} {h : Int} {z : Nat} {l r : List UInt8} (hw : Whole w g t (acells kv vv h z l r).toArray) (hl : l.length = 32) : w.rangeAt g 36 (r.map V8) := fun j v hv =>
  hw.at_ (by
    rw [List.getElem?_toArray, acells, show 36 + j = (32 + j) + 4 by omega]
    show (l.map V8 ++ r.map V8)[32 + j]? = some v
    rw [List.getElem?_append_right (by rw [List.length_map, hl]; omega), List.length_map, hl, show 32 + j - 32 = j by omega, hv])
theorem wpList_load_w {ops : Array Oper} {rest : List Oper} {op : Oper} {a : Act} {w : World} {Q : Exit → Act → World → Prop} (hw : Region.wanted op (yielded ops a.tmps) = true) (ty : TypeId) (x : Operand) (ho : op.op = .load ty x)
    (g o : Nat) (hx : a.eval x = .pointer (some ⟨g, o, none⟩)) (cs : List Value) (d : TypeDesc) (hc : w.rangeAt g o cs)
    (hu : Tryd.prog.underlying ty = some d) (hd : d.isRow = true) (hi : (Tryd.prog.info? ty).map (·.size) = some cs.length)
    (h : wpList Tryd.prog ops Q rest (a.put op.dst (.agg cs.toArray)) w) : wpList Tryd.prog ops Q (op :: rest) a w :=
  wpList_step fun K hK => by
    rw [if_pos hw]
    exact wp_load_mid ty x ho g o hx cs d hc hu hd hi (hK _ _ h)
theorem info25 : (Tryd.prog.info? 29).map (·.size) = some 32 := by kernel_rfl
theorem info27 : (Tryd.prog.info? 47).map (·.size) = some 68 := by kernel_rfl
theorem zero25 : ∀ w, (zeroValue 29).run Tryd.prog w = .ok (.agg (zb 32)) w := (zero_of_info (P := Tryd.prog) (t := 29) (v := .agg (zb 32)) (n := 32) (by kernel_rfl)).1
def z27 : Array Value := (acells (.slice none 0 0) (.slice none 0 0) 0 0 Tlv.nought Tlv.nought).toArray
theorem zero27 : ∀ w, (zeroValue 47).run Tryd.prog w = .ok (.agg z27) w := (zero_of_info (P := Tryd.prog) (t := 47) (v := .agg z27) (n := 68) (by kernel_rfl)).1
theorem acells_one (A : Option Addr) (n c : Nat) (A2 : Option Addr) (n2 c2 : Nat) (h : Int) (z : Nat) (l r : List UInt8) : (acells (.slice A n c) (.slice A2 n2 c2) h z l r).toArray.all (·.oneCell') = true := by
  simp [acells, V8, Value.oneCell']
theorem nought_cells : bcells Tlv.nought = zb 32 := rfl

/-- A node in memory: its key and its value read. -/
structure NRd (w : World) (B : Nat) (A : Option Addr) (n c : Nat) (A' : Option Addr) (n' c' : Nat) (nd : Nd) : Prop where
  key : Rd w B A n nd.key
  knc : n ≤ c
  val : Rd w B A' n' nd.value
  vnc : n' ≤ c'
def ndc (A : Option Addr) (n c : Nat) (A' : Option Addr) (n' c' : Nat) (nd : Nd) : List Value := acells (.slice A n c) (.slice A' n' c') nd.h nd.z nd.l nd.r
theorem NRd.below {w w' : World} {B B' : Nat} {A A' : Option Addr} {n c n' c' : Nat} {nd : Nd} (h : NRd w B A n c A' n' c' nd) (hb : Below B' w w') (hB : B ≤ B') : NRd w' B A n c A' n' c' nd :=
  ⟨h.key.below hb hB, h.knc, h.val.below hb hB, h.vnc⟩
theorem NRd.more {w : World} {B B' : Nat} {A A' : Option Addr} {n c n' c' : Nat} {nd : Nd} (h : NRd w B A n c A' n' c' nd) (hB : B ≤ B') : NRd w B' A n c A' n' c' nd :=
  ⟨h.key.more hB, h.knc, h.val.more hB, h.vnc⟩
theorem ndc_len {A A' : Option Addr} {n c n' c' : Nat} {nd : Nd} (h : nd.fit) : (ndc A n c A' n' c' nd).length = 68 := acells_len _ _ _ _ _ _ h.1 h.2.1
end Go.Proofs.YtolkpjbbfopmnaaDoor.Tl
