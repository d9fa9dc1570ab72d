/-
  Calls in memory, and their keys: what Act.Key returns; condition: the call's bytes are read. It only makes memory of its own.
-/
import Derived.Test.YtceillnmcccckaaDoorPutP
namespace Go.Proofs.YtceillnmcccckaaDoor
open Go.RowKit
open Tr

structure Ac where
  kind : UInt8
  no : UInt8
  raw : List UInt8
  val : List UInt8
def kb1 (x : UInt8) : UInt8 := UInt8.ofNat (97 + x.toNat % 26)
def kb2 (x : UInt8) : UInt8 := UInt8.ofNat (97 + x.toNat / 26)
def Ac.key (a : Ac) : List UInt8 := if a.raw = [] then [107, kb1 a.no, kb2 a.no] else a.raw
def Ac.cut (a : Ac) : List UInt8 := a.val.take 100
theorem Ac.key_pos (a : Ac) : 1 ≤ a.key.length := by
  unfold Ac.key
  split
  · show 1 ≤ 3; omega
  · rename_i h
    cases hr : a.raw with
    | nil => exact absurd hr h
    | cons x r => simp

theorem key_cells (x : UInt8) : #[Value.int .u8 107, Value.int .u8 (97 + (x.toNat : Int) % 26), Value.int .u8 ((97 + (x.toNat : Int) / 26) % 256)] = (([107, kb1 x, kb2 x] : List UInt8).map V8).toArray := by
  have h1 : ((kb1 x).toNat : Int) = 97 + (x.toNat : Int) % 26 := by
    unfold kb1
    rw [UInt8.toNat_ofNat']
    omega
  have h2 : ((kb2 x).toNat : Int) = (97 + (x.toNat : Int) / 26) % 256 := by
    unfold kb2
    rw [UInt8.toNat_ofNat']
    omega
  simp only [List.map_cons, List.map_nil, V8, h1, h2]
  rfl

set_option maxRecDepth 100000 in
theorem key_any (a : Ac) (A1 A2 : Option Addr) (n1 c1 n2 c2 : Nat) (w : World) (h1 : Rd w w.heap.size A1 n1 a.raw) (hnc : n1 ≤ c1) :
    Calls Tryd.prog 13 #[.agg #[.int .u8 a.kind.toNat, .int .u8 a.no.toNat, .slice A1 n1 c1, .slice A2 n2 c2]] w (BytesPost w a.key) := by
  have hb0 : Below w.heap.size w (w.alloc (.cells #[.int .u8 a.kind.toNat, .int .u8 a.no.toNat, .slice A1 n1 c1, .slice A2 n2 c2] 29)) := (Below.refl _ _).alloc (Nat.le_refl _) _
  have hw0 := Whole.made w 29 #[.int .u8 a.kind.toNat, .int .u8 a.no.toNat, .slice A1 n1 c1, .slice A2 n2 c2]
  have c1' := hw0.at_ (i := 1) rfl
  have c2' := hw0.at_ (i := 2) rfl
  have hs0 : (w.alloc (.cells #[.int .u8 a.kind.toNat, .int .u8 a.no.toNat, .slice A1 n1 c1, .slice A2 n2 c2] 29)).heap.size = w.heap.size + 1 := size_alloc _ _
  have HR := Lib.hid h1
  have HB := Lib.hid hb0
  have hlen := h1.len
  clear h1 hb0 hw0
  by_cases hr : a.raw = []
  · have HK : Hid (a.key = [107, kb1 a.no, kb2 a.no]) := Lib.hid (by unfold Ac.key; rw [if_pos hr])
    obtain rfl : n1 = 0 := by rw [← hlen, hr]; rfl
    clear hlen hr
    go_enter Tryd.func13, Tryd.ntmps13
    go_upto_region 3 with (fail)
    generalize w.alloc (.cells #[.int .u8 a.kind.toNat, .int .u8 a.no.toNat, .slice A1 0 c1, .slice A2 n2 c2] 29) = w1 at *
    refine wp_region_lit ?_
    iterate 27 go_step
    have hb2 : Below w1.heap.size w1 (w1.alloc (.cells #[.int .u8 107, .int .u8 (97 + (a.no.toNat : Int) % 26), .int .u8 ((97 + (a.no.toNat : Int) / 26) % 256)] 5)) := (Below.refl _ _).alloc (Nat.le_refl _) _
    have hr2 : Rd (w1.alloc (.cells #[.int .u8 107, .int .u8 (97 + (a.no.toNat : Int) % 26), .int .u8 ((97 + (a.no.toNat : Int) / 26) % 256)] 5)) (w1.heap.size + 1) (some ⟨w1.heap.size, 0, none⟩) 3 [107, kb1 a.no, kb2 a.no] := rd_new w1 5 _ 3 rfl _ (key_cells a.no)
    have hs2 : (w1.alloc (.cells #[.int .u8 107, .int .u8 (97 + (a.no.toNat : Int) % 26), .int .u8 ((97 + (a.no.toNat : Int) / 26) % 256)] 5)).heap.size = w1.heap.size + 1 := size_alloc _ _
    rw [hs0] at hr2
    have HR2 := Lib.hid (hr2.more (B' := (w1.alloc (.cells #[.int .u8 107, .int .u8 (97 + (a.no.toNat : Int) % 26), .int .u8 ((97 + (a.no.toNat : Int) / 26) % 256)] 5)).heap.size) (by omega))
    have HB2 := Lib.hid (HB.out.trans (hb2.mono HB.out.size))
    clear hr2 hb2 hs2 c1' c2'
    generalize w1.alloc (.cells #[.int .u8 107, .int .u8 (97 + (a.no.toNat : Int) % 26), .int .u8 ((97 + (a.no.toNat : Int) / 26) % 256)] 5) = w2 at *
    go_wp2_with fail
    go_ret
    exact ⟨_, 3, 3, rfl, by rw [HK.out]; exact HR2.out, Nat.le_refl _, HB2.out⟩
  · have HK : Hid (a.key = a.raw) := Lib.hid (by unfold Ac.key; rw [if_neg hr])
    have hn : 0 < n1 := by
      rw [← hlen]
      cases ha : a.raw with
      | nil => exact absurd ha hr
      | cons x r => simp
    clear hlen hr
    go_enter Tryd.func13, Tryd.ntmps13
    go_upto_region 1 with (fail)
    generalize w.alloc (.cells #[.int .u8 a.kind.toNat, .int .u8 a.no.toNat, .slice A1 n1 c1, .slice A2 n2 c2] 29) = w1 at *
    go_wp2_with fail
    go_ret
    exact ⟨A1, n1, c1, rfl, by rw [HK.out]; exact (HR.out.below HB.out (Nat.le_refl _)).more HB.out.size, hnc, HB.out⟩

/-- The cells of one call. -/
def Ac.cells (a : Ac) (A1 : Option Addr) (n1 c1 : Nat) (A2 : Option Addr) (n2 c2 : Nat) : Array Value := #[.int .u8 a.kind.toNat, .int .u8 a.no.toNat, .slice A1 n1 c1, .slice A2 n2 c2]
/-- The slice with address A and n elements reads as calls. -/
def ARd (w : World) (B : Nat) (A : Option Addr) (n : Nat) (cs : List Ac) : Prop :=
  cs.length = n ∧ ∀ (j : Nat) (a : Ac), cs[j]? = some a → ∃ b o A1 n1 c1 A2 n2 c2, A = some ⟨b, o, none⟩ ∧ b < B ∧ w.cell? ⟨b, o + j * 4, none⟩ = some (.int .u8 a.kind.toNat) ∧ w.cell? ⟨b, o + j * 4 + 1, none⟩ = some (.int .u8 a.no.toNat) ∧
    w.cell? ⟨b, o + j * 4 + 2, none⟩ = some (.slice A1 n1 c1) ∧ w.cell? ⟨b, o + j * 4 + 3, none⟩ = some (.slice A2 n2 c2) ∧ n1 ≤ c1 ∧ n2 ≤ c2 ∧ n1 ≤ 140737488355328 ∧ n2 ≤ 140737488355328 ∧ Rd w B A1 n1 a.raw ∧ Rd w B A2 n2 a.val
theorem ARd.below {w w' : World} {B B' n : Nat} {A : Option Addr} {cs : List Ac} (h : ARd w B A n cs) (hb : Below B' w w') (hB : B ≤ B') : ARd w' B A n cs :=
  ⟨h.1, fun j a ha => by
    obtain ⟨b, o, A1, n1, c1, A2, n2, c2, e, hbb, k0, k1, k2, k3, m1, m2, m3, m4, r1, r2⟩ := h.2 j a ha
    have hc : ∀ q, w'.cell? ⟨b, q, none⟩ = w.cell? ⟨b, q, none⟩ := fun q => hb.cell (p := ⟨b, q, none⟩) (Nat.lt_of_lt_of_le hbb hB)
    exact ⟨b, o, A1, n1, c1, A2, n2, c2, e, hbb, (hc _).trans k0, (hc _).trans k1, (hc _).trans k2, (hc _).trans k3, m1, m2, m3, m4, r1.below hb hB, r2.below hb hB⟩⟩

theorem ARd.more {w : World} {B B' n : Nat} {A : Option Addr} {cs : List Ac} (h : ARd w B A n cs) (hB : B ≤ B') : ARd w B' A n cs :=
  ⟨h.1, fun j a ha => by
    obtain ⟨b, o, A1, n1, c1, A2, n2, c2, e, hbb, k0, k1, k2, k3, m1, m2, m3, m4, r1, r2⟩ := h.2 j a ha
    exact ⟨b, o, A1, n1, c1, A2, n2, c2, e, Nat.lt_of_lt_of_le hbb hB, k0, k1, k2, k3, m1, m2, m3, m4, r1.more hB, r2.more hB⟩⟩

/-- One call on a tree. -/
def gstep (o : Option T) (a : Ac) : Option T :=
  if a.kind.toNat % 6 < 4 then some (oput o a.key a.cut) else if (ofind o a.key).isSome then ocut o a.key else o
/-- Calls on a tree, no more than so many, as long as keys may be. -/
def grow : Nat → List Ac → Option T → Option T
  | 0, _, o => o
  | _ + 1, [], o => o
  | m + 1, a :: r, o => if 90 < a.key.length then o else grow m r (gstep o a)
/-- A tree that is in order. -/
def OAvl : Option T → Prop
  | none => True
  | some t => Avl t
structure Fine (o : Option T) : Prop where
  srt : Srt (optLeaves o)
  avl : OAvl o
theorem Fine.none : Fine none := ⟨List.Pairwise.nil, trivial⟩
theorem oput_leaves (o : Option T) (k v : List UInt8) (h : Srt (optLeaves o)) : (oput o k v).leaves = putL (optLeaves o) k v := by
  cases o with
  | none => rfl
  | some t => exact put_leaves k v t h
theorem Fine.put {o : Option T} (h : Fine o) (k v : List UInt8) : Fine (some (oput o k v)) := by
  refine ⟨?_, ?_⟩
  · show Srt (oput o k v).leaves
    rw [oput_leaves o k v h.srt]
    exact putL_srt k v _ h.srt
  · cases o with
    | none => exact trivial
    | some t => exact (put_avl k v t h.avl).1
theorem ofind_leaves (o : Option T) (k : List UInt8) (h : Srt (optLeaves o)) : ofind o k = findL (optLeaves o) k := by
  cases o with
  | none => rfl
  | some t => exact find_leaves k t h
theorem ocut_leaves (o : Option T) (k : List UInt8) (h : Srt (optLeaves o)) (hf : (ofind o k).isSome = true) : optLeaves (ocut o k) = cutL (optLeaves o) k := by
  cases o with
  | none => cases hf
  | some t => exact cut_leaves k t h hf
theorem Fine.cut {o : Option T} (h : Fine o) (k : List UInt8) (hf : (ofind o k).isSome = true) : Fine (ocut o k) := by
  refine ⟨?_, ?_⟩
  · rw [ocut_leaves o k h.srt hf]
    exact cutL_srt k h.srt
  · cases o with
    | none => exact trivial
    | some t =>
      show OAvl (t.cut k)
      cases hc : t.cut k with
      | none => exact trivial
      | some t' => exact (cut_avl k t t' h.avl hc).1
theorem findL_none_cut {l : Prs} {k : List UInt8} (h : findL l k = none) : cutL l k = l := by
  refine cutL_none fun p hp e => ?_
  induction l with
  | nil => cases hp
  | cons x r ih =>
    unfold findL at h
    split at h
    · cases h
    · rename_i hx
      rcases List.mem_cons.1 hp with rfl | hp
      · exact hx e
      · exact ih h hp
theorem oln_leaves (o : Option T) : (optLeaves o).length = oln o := by
  cases o with
  | none => rfl
  | some t => exact T.n_leaves t
theorem cutL_le (l : Prs) (k : List UInt8) : (cutL l k).length ≤ l.length := List.length_filter_le _ _
theorem gstep_put {o : Option T} {a : Ac} (h : a.kind.toNat % 6 < 4) : gstep o a = some (oput o a.key a.cut) := by unfold gstep; rw [if_pos h]
theorem grow_stop (m : Nat) (a : Ac) (r : List Ac) (o : Option T) (h : 90 < a.key.length) : grow m (a :: r) o = o := by
  cases m with
  | zero => rfl
  | succ m => show (if 90 < a.key.length then o else _) = o; rw [if_pos h]
theorem grow_nil (m : Nat) (o : Option T) : grow m [] o = o := by cases m <;> rfl
theorem grow_step (m : Nat) (a : Ac) (r : List Ac) (o : Option T) (h : ¬ 90 < a.key.length) : grow (m + 1) (a :: r) o = grow m r (gstep o a) := by
  show (if 90 < a.key.length then o else grow m r (gstep o a)) = _
  rw [if_neg h]
end Go.Proofs.YtceillnmcccckaaDoor
