/-
  Small facts of bases and nodes: values that are nodes, slices of one sum, bytes turned in a row; no condition but that what is named lies in memory.
  Caches in memory: what cache.New returns for a base and a room of one to 4096; what slices.Clone and List return for a row of sums: no condition but that the row is read. They only make memory of their own.
  Caches in memory: what they hold, and what is kept when one turns; drop (the oldest goes).
  beneath: the sum below an inner node, on the way to a key; conditions: both keys are read. It only makes memory of its own.
  What the document's Texts returns for a row of nodes: their texts, and the leaves' values; conditions: the nodes are read, the document's table holds its words. It only makes memory of its own.
  What the document's answer Clash returns for texts of which two unlike ones have one sum: true; conditions: they are read, the document's table holds its words. It only makes memory of its own.
  What the document's Texts returns for a row of nodes: their texts, and the leaves' values; conditions: the nodes are read, the document's table holds its words. It only makes memory of its own.
  What the law's clash returns for a tree of whose nodes' texts two unlike ones have one sum: true; conditions: the tree lies in memory, the document's table holds its words. It only makes memory of its own.
-/
import Derived.StillTailTactics
import Derived.Deep.DeepCutAuto
import Derived.LoopN
import Derived.BigQuiet
import Derived.Test.YtolkpjbbfopmnaaDoorCY07
import Derived.Test.YtolkpjbbfopmnaaDoorCY10
import Derived.Test.YtolkpjbbfopmnaaDoorCY12
import Derived.Test.YtolkpjbbfopmnaaDoorCY14
import Derived.Test.YtolkpjbbfopmnaaDoorCY15
namespace Go.Proofs.YtolkpjbbfopmnaaDoor
open Go.RowKit Go.Shelf
open Tr

theorem bytes_len (nd : Tl.Tlv.Nd) (hk : nd.key.length ≤ 96) (hv : nd.value.length ≤ 256) (hh : nd.h.toNat < 18446744073709551616) (hf : nd.fit) : nd.bytes.length ≤ 1000 := by
  obtain ⟨h1, h2, h3⟩ := hf
  have l0 : (Tl.Tlv.put [] 1 nd.key).length ≤ 99 := Tl.put_len (b := []) (n := 0) (m := 96) (Nat.le_refl _) hk rfl
  have l1 : nd.front.length ≤ 358 := Tl.put_len (m := 256) l0 hv rfl
  have l2 : nd.mid.length ≤ 369 := Tl.put_len (m := 8) l1 (Tl.Tlv.num_len8 _ hh) rfl
  have l4 : (Tl.Tlv.put nd.mid 4 (Tl.Tlv.num nd.z)).length ≤ 380 := Tl.put_len (m := 8) l2 (Tl.Tlv.num_len8 _ h3) rfl
  have l5 : (Tl.Tlv.put (Tl.Tlv.put nd.mid 4 (Tl.Tlv.num nd.z)) 5 nd.l).length ≤ 415 := Tl.put_len (m := 32) l4 (by omega) rfl
  have l6 : nd.whole.length ≤ 450 := Tl.put_len (m := 32) l5 (by omega) rfl
  unfold Tl.Tlv.Nd.bytes
  split <;> omega
theorem obytes_len {o : Option T} {w : World} {B : Nat} (h : ∀ t, o = some t → (∃ v, NodeV w B t v) ∧ t.n ≤ 64) : (obytes o).length ≤ 1000 := by
  cases o with
  | none => simp [obytes]
  | some t =>
    obtain ⟨⟨v, cs, A, n, c, A', n', c', rfl, hT⟩, htn⟩ := h t rfl
    have hh := T.h_lt t
    exact bytes_len (ndT t) (by show t.key.length ≤ 96; rw [hT.key.len]; exact hT.kle) (by show t.val.length ≤ 256; rw [hT.val.len]; exact hT.vle) (by show (t.h : Int).toNat < _; omega) (ndT_fit t (by omega))
theorem fr_over {M B : Nat} {w w7 w8 : World} (h : Below B w w7) (hf : Fr M none w7 w8) (hB : B ≤ w7.heap.size) (hM : B ≤ M) : Below B w w8 :=
  ⟨hf.os.trans h.os, hf.tape.trans h.tape, hf.output.trans h.output, Nat.le_trans h.size hf.size, fun k hk => (hf.block k (by omega) (by omega) (fun e => by cases e)).trans (h.block k hk)⟩
theorem info49f : (Tryd.prog.info? 29).map (fun i => (i.zero, i.size, i.bytes)) = some (some (.agg (zb 32)), 32, 32) := by kernel_rfl
theorem fill_sum (z Y : Array Value) (hz : z.size = 32) (hY : Y.size = 32) : Instr.fill (fun i => some (i * 32, 32)) z [(0, Value.agg Y)] = some Y := by
  have h := Great.fill_whole (s := 32) (by omega) [Value.agg Y] z (fun v hv => by simp at hv; subst hv; exact hY) (by simp [hz])
  simpa [Value.cells] using h
/-- A slice of one sum. -/
theorem wp_build_sum {o : Oper} {a : Act} {w : World} {K : Act → World → Prop} {Q : Exit → Act → World → Prop} (x : Operand)
    (ho : o.op = .buildSlice 61 1 #[(0, x)]) (Y : Array Value) (hY : Y.size = 32) (hx : a.eval x = .agg Y)
    (h : K (a.put o.dst (.slice (some ⟨w.heap.size, 0, none⟩) 1 1)) (w.alloc (.cells Y 29))) : o.wp Tryd.prog a w K Q := by
  obtain ⟨i, hi, hz, hs, hby⟩ := info_of info49f
  refine wp_buildSlice 61 29 1 _ ho Y i _ Tryd.underlying61 hi hz (by rw [hs]; omega) (by rw [hs]; omega) ?_ h
  rw [hs]
  have := fill_sum ((Array.range (1 * 32)).map ((Value.agg (zb 32)).cells[· % (Value.agg (zb 32)).cells.size]!)) Y (by simp) hY
  simpa [hx] using this
theorem Tl.Fresh.setCell {w : World} {B : Nat} {A : Option Addr} (h : Tl.Fresh B w A) (p : Addr) (u : Value) : Tl.Fresh B (w.setCell p u) A := fun b o e => by
  obtain ⟨h1, h2, h3⟩ := h b o e
  exact ⟨h1, by rw [World.size_setCell]; exact h2, fun j => by rw [World.frozen?_setCell]; exact h3 j⟩
theorem node_below {w w' : World} {B : Nat} {s : T} {v : Value} (h : NodeV w B s v) (hb : Below w.heap.size w w') : NodeV w' B s v := by
  obtain ⟨cs, A, n, c, A', n', c', e, h⟩ := h
  exact ⟨cs, A, n, c, A', n', c', e, h.below hb⟩
end Go.Proofs.YtolkpjbbfopmnaaDoor
namespace Go.Proofs.YtolkpjbbfopmnaaDoor
open Go.RowKit
open Tr

/-- The cells of a row of sums. -/
def scells (os : List (List UInt8)) : List Value := (os.map fun h => h.map V8).flatten
theorem scells_len : ∀ (os : List (List UInt8)), (∀ h ∈ os, h.length = 32) → (scells os).length = os.length * 32
  | [], _ => rfl
  | h :: os, hl => by
    have := scells_len os fun x hx => hl x (by simp [hx])
    simp only [scells, List.map_cons, List.flatten_cons, List.length_append, List.length_map, List.length_cons] at this ⊢
    rw [this, hl h (by simp)]
    omega
theorem scells_snoc (os : List (List UInt8)) (h : List UInt8) : scells (os ++ [h]) = scells os ++ h.map V8 := by simp [scells]
theorem scells_one (os : List (List UInt8)) : ∀ u ∈ scells os, u.oneCell' = true := fun u hu => by
  obtain ⟨l, hl, hu⟩ := List.mem_flatten.1 hu
  obtain ⟨h, _, rfl⟩ := List.mem_map.1 hl
  obtain ⟨b, _, rfl⟩ := List.mem_map.1 hu
  rfl
theorem scells_range {os : List (List UInt8)} (hl : ∀ h ∈ os, h.length = 32) {j : Nat} {h : List UInt8} (hj : os[j]? = some h) (k : Nat) (b : UInt8) (hb : h[k]? = some b) : (scells os)[j * 32 + k]? = some (V8 b) := by
  induction os generalizing j with
  | nil => simp at hj
  | cons x os ih =>
    have hx : (x.map V8).length = 32 := by rw [List.length_map]; exact hl x (by simp)
    have e : scells (x :: os) = x.map V8 ++ scells os := by simp [scells]
    rw [e]
    cases j with
    | zero =>
      simp at hj
      subst hj
      have hk := (List.getElem?_eq_some_iff.1 hb).1
      rw [List.getElem?_append_left (by rw [List.length_map]; omega)]
      simp [hb]
    | succ j =>
      rw [List.getElem?_append_right (by omega), hx, show (j + 1) * 32 + k - 32 = j * 32 + k by omega]
      exact ih (fun y hy => hl y (by simp [hy])) (by simpa using hj)
theorem built_cache (pb M room : Nat) (w : World) : (Instr.build 122 #[(0, .pointer (some ⟨pb, 0, none⟩)), (1, .int .i64 room), (2, .map (some M))]).run Tryd.prog w = .ok (.agg #[ptr (some pb), .int .i64 room, .map (some M), .slice none 0 0]) w := run_build w 122 _ _ (by kernel_rfl)
/-- The row in which a cache keeps its order: a row of its own, or a bare slice of an emptied one. -/
def ORow (w : World) (B : Nat) (v : Value) (os : List (List UInt8)) : Prop :=
  w.ownsRow B 29 32 v os.length (scells os) ∨ (os = [] ∧ ∃ g, v = .slice (some ⟨g, 0, none⟩) 0 0 ∧ B ≤ g ∧ g < w.heap.size)
theorem ORow.form {w : World} {B : Nat} {v : Value} {os : List (List UInt8)} (h : ORow w B v os) : ∃ A c, v = .slice A os.length c ∧ os.length ≤ c ∧ c ≤ maxLen := by
  rcases h with h | ⟨rfl, g, rfl, _, _⟩
  · exact own_form h
  · exact ⟨_, 0, rfl, Nat.le_refl _, Nat.zero_le _⟩
theorem ORow.rd {w : World} {B n c : Nat} {A : Option Addr} {os : List (List UInt8)} (h : ORow w B (.slice A n c) os) : RdV w w.heap.size 32 A n (scells os) := by
  rcases h with h | ⟨rfl, g, e, _, _⟩
  · have hn : n = os.length := by
      obtain ⟨A', c', e, _⟩ := own_form h
      injection e
    subst hn
    exact RdV.of_own h
  · injection e with e1 e2 e3
    subst e2
    exact ⟨rfl, fun h => absurd h (by omega)⟩

set_option maxRecDepth 100000 in
theorem cache_new (pb room : Nat) (h1 : 1 ≤ room) (h2 : room ≤ 4096) (w : World) : Calls Tryd.prog 55 #[.pointer (some ⟨pb, 0, none⟩), .int .i64 room] w fun e w' => ∃ cb H, e = .returned (.tuple #[ptr (some cb), .int .i64 0]) ∧ Whole w' cb 122 #[ptr (some pb), .int .i64 room, .map (some H), .slice none 0 0] ∧ MAt w' H [] ∧ cb ≠ H ∧ w.heap.size ≤ cb ∧ w.heap.size ≤ H ∧ Below w.heap.size w w' := by
  have hmm := @run_makeMap Tryd.prog
  have hbb := built_cache
  have e1 : ¬ ((room : Int) < 1) := by omega
  have e2 : ¬ ((4096 : Int) < (room : Int)) := by omega
  have HR := Lib.hid (And.intro h1 h2)
  clear h1 h2
  go_enter Tryd.func55, Tryd.ntmps55
  go_wp2
  go_ret2
  have hm := mat_made w
  have hb : Below w.heap.size w ((w.alloc (.map #[] 0)).alloc (.cells #[ptr (some pb), .int .i64 room, .map (some w.heap.size), .slice none 0 0] 122)) := ((Below.refl _ _).alloc (Nat.le_refl _) _).alloc (by simp) _
  have hw := Whole.made (w.alloc (.map #[] 0)) 122 #[ptr (some pb), .int .i64 room, .map (some w.heap.size), .slice none 0 0]
  rw [size_alloc] at hw
  refine ⟨w.heap.size + 1, rfl, w.heap.size, hw, hm.block ?_, by omega, by omega, Nat.le_refl _, hb⟩
  exact Below.heap_alloc (w.alloc (.map #[] 0)) _ w.heap.size (by simp)

/-- What slices.Clone returns: a row that reads as the same sums. -/
def SumsPost (w : World) (os : List (List UInt8)) (e : Ending) (w' : World) : Prop :=
  ∃ A n c, e = .returned (.slice A n c) ∧ n = os.length ∧ RdV w' w'.heap.size 32 A n (scells os) ∧ n ≤ c ∧ Below w.heap.size w w'

set_option maxRecDepth 100000 in
theorem sums_clone (A : Option Addr) (n c : Nat) (os : List (List UInt8)) (w : World) (hr : RdV w w.heap.size 32 A n (scells os)) (hn : n = os.length) (hm : n ≤ 4096) :
    Calls Tryd.prog 60 #[.slice A n c] w (SumsPost w os) := by
  have HR := Lib.hid hr
  have HN := Lib.hid hn
  have heq := fun w : World => Lib.run_eql_slice_nil (P := Tryd.prog) w 61 29 A n c 0 0 Tryd.underlying61
  clear hr hn
  cases A with
  | none =>
    go_enter Tryd.func60, Tryd.ntmps60
    go_wp2_with fail
    go_ret
    have h0 : n = 0 := by
      rcases Nat.eq_zero_or_pos n with h | h
      · exact h
      · obtain ⟨b, o, e, _⟩ := HR.out.2 h
        cases e
    subst h0
    have ho : os = [] := List.eq_nil_of_length_eq_zero HN.out.symm
    subst ho
    exact ⟨none, 0, 0, rfl, rfl, RdV.nil, Nat.le_refl _, Below.refl _ _⟩
  | some ad =>
    go_enter Tryd.func60, Tryd.ntmps60
    go_upto_region 3 with (fail)
    refine wp_region_lit ?_
    iterate 6 go_step
    have hb0 : Below w.heap.size w (w.alloc (.cells #[] 29)) := (Below.refl _ _).alloc (Nat.le_refl _) _
    refine wpList_append_rd rfl (.tmp 5) (.tmp 6) 61 29 _ 32 32 rfl Tryd.underlying61 info49f (zb_size 32) (by omega) w.heap.size _ 0 [] rfl (World.ownsRow_lit w #[] 0 (Nat.le_refl _) (by unfold maxLen; omega) rfl) _ (some ad) n c (scells os) rfl (HR.out.below hb0 (Nat.le_refl _)) (scells_one os) (by unfold maxLen; omega) (by omega) (by simp) ?_
    intro v1 w1 hown hb1
    have hb : Below w.heap.size w w1 := hb0.trans hb1
    rw [Nat.zero_add, List.nil_append] at hown
    obtain ⟨A', c', rfl, hnc, _⟩ := own_form hown
    have hr := RdV.of_own hown
    clear hb1
    have HH := Lib.hid (And.intro hb hr)
    clear hb hr hown hb0 heq
    go_simp
    go_wp2_with fail
    go_ret
    obtain ⟨hb, hr⟩ := HH.out
    exact ⟨A', n, c', rfl, HN.out, hr, hnc, hb⟩

set_option maxRecDepth 100000 in
/-- List: the order, cloned. -/
theorem cache_list (cb : Nat) (pb H : Value) (room : Int) (A : Option Addr) (n c : Nat) (os : List (List UInt8)) (w : World) (hw : Whole w cb 122 #[pb, .int .i64 room, H, .slice A n c]) (hr : RdV w w.heap.size 32 A n (scells os)) (hn : n = os.length) (hm : n ≤ 4096) :
    Calls Tryd.prog 28 #[.pointer (some ⟨cb, 0, none⟩)] w (SumsPost w os) := by
  have c3 := hw.at_ (i := 3) rfl
  have HC := Lib.hid (sums_clone A n c os w hr hn hm)
  clear hw hr hn hm
  go_enter Tryd.func28, Tryd.ntmps28
  go_wp2_with fail
  refine HC.out.mono ?_
  rintro _ w2 ⟨A2, n2, c2, rfl, hP⟩
  have HP := Lib.hid hP
  clear hP
  simp only []
  go_wp2_with fail
  go_ret
  exact ⟨A2, n2, c2, rfl, HP.out⟩
end Go.Proofs.YtolkpjbbfopmnaaDoor
namespace Go.Proofs.YtolkpjbbfopmnaaDoor
open Go.RowKit
open Tr

/-- All blocks but a cache, its map and its row are as they were. -/
structure Fc (cb H : Nat) (r : Option Nat) (w w' : World) : Prop where
  os : w'.os = w.os
  tape : w'.tape = w.tape
  output : w'.output = w.output
  size : w.heap.size ≤ w'.heap.size
  block : ∀ k, k < w.heap.size → k ≠ cb → k ≠ H → r ≠ some k → w'.heap[k]? = w.heap[k]?
theorem Fc.refl (cb H : Nat) (r : Option Nat) (w : World) : Fc cb H r w w := ⟨rfl, rfl, rfl, Nat.le_refl _, fun _ _ _ _ _ => rfl⟩
theorem Fc.of_below {cb H : Nat} {r : Option Nat} {w w' : World} (h : Below w.heap.size w w') : Fc cb H r w w' := ⟨h.os, h.tape, h.output, h.size, fun k hk _ _ _ => h.block k hk⟩
/-- The row is the same or a new one. -/
def RNew (w : World) (r r' : Option Nat) : Prop := r' = r ∨ ∃ g, r' = some g ∧ w.heap.size ≤ g
theorem Fc.trans {cb H : Nat} {r r' : Option Nat} {w w' w'' : World} (h : Fc cb H r w w') (h' : Fc cb H r' w' w'') (hr : RNew w r r') : Fc cb H r w w'' :=
  ⟨h'.os.trans h.os, h'.tape.trans h.tape, h'.output.trans h.output, Nat.le_trans h.size h'.size, fun k hk h1 h2 h3 => by
    refine (h'.block k (Nat.lt_of_lt_of_le hk h.size) h1 h2 ?_).trans (h.block k hk h1 h2 h3)
    rcases hr with rfl | ⟨g, rfl, hg⟩
    · exact h3
    · intro e; injection e with e; omega⟩
theorem RNew.trans {w w' : World} {r r' r'' : Option Nat} (h : RNew w r r') (h' : RNew w' r' r'') (hs : w.heap.size ≤ w'.heap.size) : RNew w r r'' := by
  rcases h' with rfl | ⟨g, rfl, hg⟩
  · exact h
  · exact .inr ⟨g, rfl, by omega⟩
/-- Bytes that lie outside of a cache, its map and its row. -/
def BF (w : World) (cb H : Nat) (r : Option Nat) (A : Option Addr) (n : Nat) (bs : List UInt8) : Prop :=
  Rd w w.heap.size A n bs ∧ (0 < n → ∀ b o, A = some ⟨b, o, none⟩ → b ≠ cb ∧ b ≠ H ∧ r ≠ some b)
theorem BF.keep {w w' : World} {cb H n : Nat} {r r' : Option Nat} {A : Option Addr} {bs : List UInt8} (h : BF w cb H r A n bs) (hf : Fc cb H r w w') (hr : RNew w r r') : BF w' cb H r' A n bs := by
  refine ⟨⟨h.1.1, fun hn => ?_⟩, fun hn b o e => ?_⟩
  · obtain ⟨b, o, e, hb, hc⟩ := h.1.2 hn
    obtain ⟨h1, h2, h3⟩ := h.2 hn b o e
    exact ⟨b, o, e, Nat.lt_of_lt_of_le hb hf.size, fun j u hu => (cell_keep (hf.block b hb h1 h2 h3) _).trans (hc j u hu)⟩
  · obtain ⟨h1, h2, h3⟩ := h.2 hn b o e
    refine ⟨h1, h2, ?_⟩
    rcases hr with rfl | ⟨g, rfl, hg⟩
    · exact h3
    · obtain ⟨b', o', e', hb, _⟩ := h.1.2 hn
      rw [e] at e'
      injection e' with e'
      injection e' with e' _
      intro e2
      injection e2 with e2
      omega
/-- A value that is the node of a tree's subtree. -/
def HV (w : World) (cb H : Nat) (r : Option Nat) (s : T) (u : Value) : Prop :=
  ∃ A n c A' n' c', u = .agg (acells (.slice A n c) (.slice A' n' c') s.h s.n s.lsum s.rsum).toArray ∧ BF w cb H r A n s.key ∧ n ≤ c ∧ BF w cb H r A' n' s.val ∧ n' ≤ c'
theorem HV.keep {w w' : World} {cb H : Nat} {r r' : Option Nat} {s : T} {u : Value} (h : HV w cb H r s u) (hf : Fc cb H r w w') (hr : RNew w r r') : HV w' cb H r' s u := by
  obtain ⟨A, n, c, A', n', c', e, h1, h2, h3, h4⟩ := h
  exact ⟨A, n, c, A', n', c', e, h1.keep hf hr, h2, h3.keep hf hr, h4⟩
/-- A cache: its base, its room, its map with these pairs, its row with these sums. -/
structure CAt (w : World) (B cb pb H room : Nat) (ts : List T) (hs : List (List UInt8 × Value)) (v : Value) (os : List (List UInt8)) : Prop where
  whole : Whole w cb 122 #[.pointer (some ⟨pb, 0, none⟩), .int .i64 room, .map (some H), v]
  mat : MAt w H hs
  row : ORow w B v os
  cb_ge : B ≤ cb
  h_ge : B ≤ H
  ne : cb ≠ H
  rcb : v.ownBlock ≠ some cb
  rh : v.ownBlock ≠ some H
  rB : ∀ g, v.ownBlock = some g → B ≤ g ∧ g < w.heap.size
  nodup : os.Nodup
  len32 : ∀ h ∈ os, h.length = 32
  perm : (hs.map (·.1)).Perm os
  few : os.length ≤ room
  vals : ∀ p ∈ hs, ∃ s ∈ ts, p.1 = s.sum ∧ HV w cb H v.ownBlock s p.2
theorem drop_keys (h : List UInt8) : ∀ (hs : List (List UInt8 × Value)), (dropK h hs).map (·.1) = (hs.map (·.1)).erase h
  | [] => rfl
  | p :: hs => by
    have ih := drop_keys h hs
    unfold dropK at ih ⊢
    rw [List.eraseP_cons, List.map_cons, List.erase_cons]
    cases hp : p.1 == h with
    | true => simp
    | false => simp [ih]
/-- A cache that has lain still, while new memory was made. -/
theorem CAt.below {w w' : World} {B cb pb H room : Nat} {ts : List T} {hs : List (List UInt8 × Value)} {v : Value} {os : List (List UInt8)} (h : CAt w B cb pb H room ts hs v os) (hb : Below w.heap.size w w') : CAt w' B cb pb H room ts hs v os :=
  ⟨h.whole.below hb h.whole.lt, h.mat.block (hb.block H h.mat.lt), by
    rcases h.row with h | ⟨h1, g, h2, h3, h4⟩
    · exact .inl (own_keep h hb)
    · exact .inr ⟨h1, g, h2, h3, Nat.lt_of_lt_of_le h4 hb.size⟩, h.cb_ge, h.h_ge, h.ne, h.rcb, h.rh, fun g hg => ⟨(h.rB g hg).1, Nat.lt_of_lt_of_le (h.rB g hg).2 hb.size⟩, h.nodup, h.len32, h.perm, h.few, fun p hp => by
    obtain ⟨s, h1, h2, h3⟩ := h.vals p hp
    exact ⟨s, h1, h2, h3.keep (Fc.of_below hb) (.inl rfl)⟩⟩
end Go.Proofs.YtolkpjbbfopmnaaDoor
namespace Go.Proofs.YtolkpjbbfopmnaaDoor
open Go.RowKit
open Tr

set_option maxRecDepth 100000 in
set_option maxHeartbeats 600000 in
theorem beneath_any (A : Option Addr) (n c : Nat) (vv : Value) (h : Int) (z : Nat) (l r k key : List UInt8) (A' : Option Addr) (n' c' : Nat) (w : World) (hk : Rd w w.heap.size A n k) (hk' : Rd w w.heap.size A' n' key) (hl : l.length = 32) (hr : r.length = 32) :
    Calls Tryd.prog 75 #[.agg (acells (.slice A n c) vv h z l r).toArray, .slice A' n' c'] w fun e w' => e = .returned (.agg (Sh.bcells (if lt key k = true then l else r))) ∧ Below w.heap.size w w' := by
  have hz49 := zero49
  obtain ⟨X, hX⟩ : ∃ X, (acells (.slice A n c) vv h z l r).toArray = X := ⟨_, rfl⟩
  have hb0 : Below w.heap.size w ((w.alloc (.cells X 47)).alloc (.cells (zb 32) 29)) := ((Below.refl _ _).alloc (Nat.le_refl _) _).alloc (by simp) _
  have hw2 := (Whole.made w 47 X).alloc (.cells (zb 32) 29)
  have hw4 := Whole.made (w.alloc (.cells X 47)) 29 (zb 32)
  rw [size_alloc] at hw4
  have HX := Lib.hid hX
  rw [hX]
  have HB0 := Lib.hid hb0
  have HW2 := Lib.hid hw2
  have HW4 := Lib.hid hw4
  have HK := Lib.hid (And.intro hk hk')
  have HL := Lib.hid (And.intro hl hr)
  have hc0 : ((w.alloc (.cells X 47)).alloc (.cells (zb 32) 29)).cell? ⟨w.heap.size, 0, none⟩ = some (.slice A n c) := by rw [← hX] at hw2 ⊢; exact hw2.at_ rfl
  clear hX hb0 hw2 hw4 hk hk' hl hr
  go_enter Tryd.func75, Tryd.ntmps75
  go_upto_region 1 with (fail)
  generalize (w.alloc (.cells X 47)).alloc (.cells (zb 32) 29) = w1 at *
  clear hz49
  have hka : Rd w1 w1.heap.size A n k := (HK.out.1.below HB0.out (Nat.le_refl _)).more HB0.out.size
  have hkb : Rd w1 w1.heap.size A' n' key := (HK.out.2.below HB0.out (Nat.le_refl _)).more HB0.out.size
  have HCMP := Lib.hid (compare_any A' A n' c' n c w1.heap.size w1.heap.size key k w1 hkb hka)
  have HB3 := HB0
  have HW2d := HW2
  clear hka hkb HB0 HW2
  have hlt : decide (Lib.compareBytes key k < 0) = lt key k := by
    cases hq : lt key k with
    | true => rw [cmp_lt key k hq]; rfl
    | false => have := cmp_ge key k hq; simpa using this
  obtain ⟨C, hC⟩ : ∃ C, Lib.compareBytes key k = C := ⟨_, rfl⟩
  rw [hC] at hlt HCMP
  clear hC
  go_wp2_with fail
  refine HCMP.out.mono ?_
  rintro e w3 ⟨rfl, rfl⟩
  clear HCMP hc0
  generalize w1 = w3 at *
  have hw := HW2d.out
  rw [← HX.out] at hw
  have HR1 : Hid (w3.rangeAt w.heap.size 4 (l.map V8)) := Lib.hid (by
    have h1 := abox_l hw HL.out.1
    obtain ⟨b, o, e, _, hc⟩ := h1.2 (by omega)
    injection e with e
    injection e with e1 e2
    subst e1 e2
    exact hc)
  have HR2 : Hid (w3.rangeAt w.heap.size 36 (r.map V8)) := Lib.hid (by
    have h1 := abox_r hw HL.out.1 HL.out.2
    obtain ⟨b, o, e, _, hc⟩ := h1.2 (by omega)
    injection e with e
    injection e with e1 e2
    subst e1 e2
    exact hc)
  clear hw
  simp only []
  cases hq : lt key k with
  | true =>
    have hC0 : C < 0 := by rw [hq] at hlt; simpa using hlt
    go_upto_region 2 with (fail)
    refine wp_region_lit ?_
    iterate 3 go_step
    refine wpList_load_mid rfl 29 (.tmp 10) rfl w.heap.size 4 rfl (l.map V8) _ HR1.out Tryd.underlying29 rfl (by rw [List.length_map, HL.out.1]; exact info49) ?_
    simp only [Act.put, List.setIfInBounds_toArray, List.set_cons_zero, List.set_cons_succ]
    refine wpList_store_mid rfl 29 (.tmp 4) (.tmp 11) rfl (w.heap.size + 1) 0 (Sh.bcells l) rfl rfl ?_ ?_ (Sh.bcells_one l) ?_
    · rw [Sh.bcells_size, HL.out.1]; have := HW4.out.there_; rw [zb_size] at this; exact this
    · rw [Sh.bcells_size, HL.out.1]; exact info49
    have HWA : Hid (Whole (w3.setCells (w.heap.size + 1) 0 (Sh.bcells l).toList) (w.heap.size + 1) 29 (Sh.bcells l)) := Lib.hid (HW4.out.setAll (by rw [zb_size, Sh.bcells_size, HL.out.1]))
    have HBA : Hid (Below w.heap.size w (w3.setCells (w.heap.size + 1) 0 (Sh.bcells l).toList)) := Lib.hid (below_setCells w (w.heap.size + 1) _ 0 HB3.out (by omega))
    generalize w3.setCells (w.heap.size + 1) 0 (Sh.bcells l).toList = wA at *
    go_wp2_with fail
    refine bodyPost_ret (results_cell1 Tryd.results75 _ _ _ ⟨w.heap.size + 1, 0, none⟩ _ rfl (load_whole HWA.out 29 _ Tryd.underlying29 rfl (by rw [Sh.bcells_size, HL.out.1]; exact info49))) rfl ?_
    refine ⟨?_, HBA.out⟩
    simp
  | false =>
    have hC0 : ¬ C < 0 := by rw [hq] at hlt; simpa using hlt
    go_upto_region 3 with (fail)
    refine wp_region_lit ?_
    iterate 3 go_step
    refine wpList_load_mid rfl 29 (.tmp 12) rfl w.heap.size 36 rfl (r.map V8) _ HR2.out Tryd.underlying29 rfl (by rw [List.length_map, HL.out.2]; exact info49) ?_
    simp only [Act.put, List.setIfInBounds_toArray, List.set_cons_zero, List.set_cons_succ]
    refine wpList_store_mid rfl 29 (.tmp 4) (.tmp 13) rfl (w.heap.size + 1) 0 (Sh.bcells r) rfl rfl ?_ ?_ (Sh.bcells_one r) ?_
    · rw [Sh.bcells_size, HL.out.2]; have := HW4.out.there_; rw [zb_size] at this; exact this
    · rw [Sh.bcells_size, HL.out.2]; exact info49
    have HWA : Hid (Whole (w3.setCells (w.heap.size + 1) 0 (Sh.bcells r).toList) (w.heap.size + 1) 29 (Sh.bcells r)) := Lib.hid (HW4.out.setAll (by rw [zb_size, Sh.bcells_size, HL.out.2]))
    have HBA : Hid (Below w.heap.size w (w3.setCells (w.heap.size + 1) 0 (Sh.bcells r).toList)) := Lib.hid (below_setCells w (w.heap.size + 1) _ 0 HB3.out (by omega))
    generalize w3.setCells (w.heap.size + 1) 0 (Sh.bcells r).toList = wA at *
    go_wp2_with fail
    refine bodyPost_ret (results_cell1 Tryd.results75 _ _ _ ⟨w.heap.size + 1, 0, none⟩ _ rfl (load_whole HWA.out 29 _ Tryd.underlying29 rfl (by rw [Sh.bcells_size, HL.out.2]; exact info49))) rfl ?_
    refine ⟨?_, HBA.out⟩
    simp
end Go.Proofs.YtolkpjbbfopmnaaDoor
namespace Go.Proofs.YtolkpjbbfopmnaaDoor
open Go.RowKit
open Tr

/-- The document's text of a tree's node, out of its cells. -/
theorem textT_any (s : T) (A A' : Option Addr) (n c n' c' : Nat) (w : World) (hk : Rd w w.heap.size A n s.key) (hv : Rd w w.heap.size A' n' s.val) (hn : n ≤ 96) (hn' : n' ≤ 256) (hs : s.n ≤ 1000) (ht : Sh.Tab w 0) (hw : 1 < w.heap.size) :
    Calls Tryd.prog 74 #[.agg (acells (.slice A n c) (.slice A' n' c') s.h s.n s.lsum s.rsum).toArray] w (ClonePost w s.text) := by
  cases s with
  | leaf k v => exact text_leaf A n c A' n' c' _ _ _ k v w hk hv (by omega) (by omega) ht hw
  | node l r =>
    have hz : (T.node l r).n = (UInt64.ofNat (T.node l r).n).toNat := by
      rw [UInt64.toNat_ofNat']
      have := hs
      omega
    have := text_inner (.slice A n c) (.slice A' n' c') ((T.node l r).h : Int) (UInt8.ofNat (T.node l r).h) (UInt64.ofNat (T.node l r).n) l.sum r.sum w (by have := h_ne l r; omega) (u8_len _) (sum32 l) (sum32 r)
    rw [← hz] at this
    exact this

/-- Cells that are slices of bytes, each read by R. -/
def LLay (R : Option Addr → Nat → List UInt8 → Prop) (xs : List Value) (ls : List (List UInt8)) : Prop :=
  xs.length = ls.length ∧ ∀ (j : Nat) (bs : List UInt8), ls[j]? = some bs → ∃ A n c, xs[j]? = some (.slice A n c) ∧ n ≤ c ∧ R A n bs
theorem LLay.mono {R R' : Option Addr → Nat → List UInt8 → Prop} {xs : List Value} {ls : List (List UInt8)} (h : LLay R xs ls) (hR : ∀ A n bs, R A n bs → R' A n bs) : LLay R' xs ls :=
  ⟨h.1, fun j bs hj => by
    obtain ⟨A, n, c, h1, h2, h3⟩ := h.2 j bs hj
    exact ⟨A, n, c, h1, h2, hR _ _ _ h3⟩⟩
theorem LLay.snoc {R : Option Addr → Nat → List UInt8 → Prop} {xs : List Value} {ls : List (List UInt8)} (h : LLay R xs ls) (bs : List UInt8) (A : Option Addr) (n c : Nat) (hnc : n ≤ c) (hr : R A n bs) : LLay R (xs ++ [.slice A n c]) (ls ++ [bs]) := by
  refine ⟨by rw [List.length_append, List.length_append, h.1]; rfl, fun j u hu => ?_⟩
  by_cases hj : j < ls.length
  · rw [List.getElem?_append_left hj] at hu
    obtain ⟨A', n', c', h1, h2, h3⟩ := h.2 j u hu
    exact ⟨A', n', c', by rw [List.getElem?_append_left (by rw [h.1]; exact hj)]; exact h1, h2, h3⟩
  · rw [List.getElem?_append_right (by omega)] at hu
    have hj2 : j - ls.length < 1 := (List.getElem?_eq_some_iff.1 hu).1
    rw [show j - ls.length = 0 by omega] at hu
    simp at hu
    subst hu
    exact ⟨A, n, c, by rw [List.getElem?_append_right (by rw [h.1]; omega), h.1, show j - ls.length = 0 by omega]; rfl, hnc, hr⟩
/-- A row of slices of bytes of the call's own; the bytes lie in other blocks than the row. -/
def LOwn (w : World) (base : Nat) (v : Value) (m : Nat) (ls : List (List UInt8)) : Prop := ∃ xs, w.ownsRow base 31 1 v m xs ∧ ls.length = m ∧ LLay (RdX w w.heap.size v.ownBlock) xs ls
theorem LOwn.on {w w' : World} {base m : Nat} {v : Value} {ls : List (List UInt8)} (h : LOwn w base v m ls) (hb : Below w.heap.size w w') : LOwn w' base v m ls := by
  obtain ⟨xs, h1, h2, h3⟩ := h
  exact ⟨xs, own_keep h1 hb, h2, h3.mono fun _ _ _ h => (h.below hb (Nat.le_refl _)).more hb.size⟩
theorem LOwn.form {w : World} {base : Nat} {v : Value} {m : Nat} {ls : List (List UInt8)} (h : LOwn w base v m ls) : ∃ A c, v = .slice A m c ∧ m ≤ c := by
  obtain ⟨xs, h1, _, _⟩ := h
  obtain ⟨A, c, e, h2, _⟩ := own_form h1
  exact ⟨A, c, e, h2⟩
theorem wpList_append_text {ops : Array Oper} {rest : List Oper} {o : Oper} {a : Act} {w : World} {Q : Exit → Act → World → Prop} (hgd : o.guard = none) (s x : Operand)
    (ho : o.op = .call { callee := .builtin .append, args := #[s, x], argTypes := #[112, 112] })
    (base : Nat) (v : Value) (m : Nat) (ls : List (List UInt8)) (bs : List UInt8) (hs : a.eval s = v) (hown : LOwn w base v m ls) (A : Option Addr) (n c : Nat)
    (hx : a.eval x = .slice (some ⟨w.heap.size, 0, none⟩) 1 1) (hc : n ≤ c) (hk : RdX w w.heap.size v.ownBlock A n bs)
    (hm : m ≤ 1000000) (hbase : base ≤ w.heap.size)
    (h : ∀ v' w', LOwn w' base v' (m + 1) (ls ++ [bs]) → Below base w w' → w.heap.size ≤ w'.heap.size → wpList Tryd.prog ops Q rest (a.put o.dst v') w') :
    wpList Tryd.prog ops Q (o :: rest) a (w.alloc (.cells #[.slice A n c] 31)) := by
  obtain ⟨xs, h1, h2, h3⟩ := hown
  have hr : RdV (w.alloc (.cells #[.slice A n c] 31)) (w.heap.size + 1) 1 (some ⟨w.heap.size, 0, none⟩) 1 [.slice A n c] :=
    ⟨rfl, fun _ => ⟨_, _, rfl, by omega, fun j u hu => (Whole.made w 31 #[.slice A n c]).at_ (by rw [Nat.zero_add]; simpa using hu)⟩⟩
  obtain ⟨v', w', hrun, k2, k3, k4⟩ := run_append_rd (w.alloc (.cells #[.slice A n c] 31)) base 112 o.type 31 _ 1 24 Tryd.underlying112 Tl.info22 rfl (by omega) v m xs (h1.alloc _) _ _ 1 1 _ hr
    (fun u hu => by simp only [List.mem_cons, List.not_mem_nil, or_false] at hu; subst hu; rfl) (by unfold maxLen; omega) (by omega) (by rw [size_alloc]; omega)
  have hb0 : Below w.heap.size w (w.alloc (.cells #[.slice A n c] 31)) := (Below.refl _ _).alloc (Nat.le_refl _) _
  have hbg : Below base w w' := (hb0.mono hbase).grown k3 (by rw [size_alloc]; omega) (fun k hk => (h1.lt k hk).1)
  refine wpList_plain hgd fun K hK => ?_
  unfold Oper.wp execOp
  simp only [ho, resolve, invoke, builtin, Sem.run_bind, Sem.run_pure, Result.andThen_ok, List.map_toArray, List.map_cons, List.map_nil, hs, hx, hrun]
  refine hK _ _ (h v' w' ⟨xs ++ [.slice A n c], k2, by rw [List.length_append, h2]; rfl, ?_⟩ hbg hbg.size)
  exact (h3.snoc bs A n c hc hk).mono fun A n bs hx => ((hx.below hb0 (Nat.le_refl _)).more hb0.size |>.grown k3 (Nat.le_refl _) k4).more k3.size
end Go.Proofs.YtolkpjbbfopmnaaDoor
namespace Go.Proofs.YtolkpjbbfopmnaaDoor
open Go.RowKit
open Tr

theorem info49g : (Tryd.prog.info? 29).map (fun i => (i.zero, i.size, i.bytes)) = some (some (.agg (zb 32)), 32, 32) := by kernel_rfl
theorem zb_get (n j : Nat) (hj : j < n) : (zb n)[j]! = .int .u8 0 := by simp [zb, hj, V8]
theorem made_sums (m : Nat) : madeCells (Value.agg (zb 32)).cells (m * 32) = Sh.bcells (List.replicate (m * 32) 0) := by
  have hz : (Value.agg (zb 32)).cells = zb 32 := rfl
  rw [hz]
  apply Array.ext
  · rw [size_madeCells, Sh.bcells_size, List.length_replicate]
  · intro i h1 h2
    have h3 : i % (zb 32).size < 32 := by rw [zb_size]; exact Nat.mod_lt _ (by omega)
    have e1 : (madeCells (zb 32) (m * 32))[i] = (zb 32)[i % (zb 32).size]! := by simp only [madeCells, Array.getElem_map, Array.getElem_range]
    rw [e1, zb_get 32 _ h3]
    simp only [Sh.bcells, List.getElem_toArray, List.getElem_map, List.getElem_replicate]
    rfl
theorem run_make_sums (m : Nat) (hm : m ≤ 1000000) (M : Int) (eM : M = m) (w : World) : (Instr.makeSlice 61 (.int .i64 M) (.int .i64 M)).run Tryd.prog w = .ok (.slice (some ⟨w.heap.size, 0, none⟩) m m) (w.alloc (.cells (Sh.bcells (List.replicate (m * 32) 0)) 29)) := by
  subst eM
  obtain ⟨i, hi, hz, hs, hby⟩ := info_of info49g
  have := run_make (P := Tryd.prog) w 61 29 i _ Tryd.underlying61 hi hz .i64 .i64 (m : Int) (m : Int) (by omega) (by omega) (by rw [hby]; omega) (by omega)
  rw [hs] at this
  simp only [Int.toNat_natCast] at this
  rw [made_sums] at this
  exact this
/-- Bytes stored over others, in the middle of a row of bytes. -/
theorem whole_bytes {w : World} {g : Nat} {t : TypeId} {pre old post vs : List UInt8} {o : Nat} (h : Whole w g t (Sh.bcells (pre ++ (old ++ post)))) (ho : pre.length = o) (hl : old.length = vs.length) :
    Whole (w.setCells g o (Sh.bcells vs).toList) g t (Sh.bcells (pre ++ (vs ++ post))) := by
  subst ho
  have e : ∀ a b c : List UInt8, Sh.bcells (a ++ (b ++ c)) = (a.map V8 ++ (b.map V8 ++ c.map V8)).toArray := fun a b c => by
    show ((a ++ (b ++ c)).map V8).toArray = _
    simp only [List.map_append]
  rw [e] at h ⊢
  have h2 := Sh.Whole.setCells (vs.map V8) (pre.map V8) (old.map V8) (post.map V8) h (by simpa using hl)
  rw [List.length_map] at h2
  exact h2
theorem whole_midthere {w : World} {g : Nat} {t : TypeId} {cs : Array Value} (h : Whole w g t cs) (o n : Nat) (hn : o + n ≤ cs.size) : w.there g o n := fun j hj =>
  ⟨by rw [h.at_ (Array.getElem?_eq_getElem (show o + j < cs.size by omega))]; rfl, h.free _⟩
theorem whole_midrange {w : World} {g : Nat} {t : TypeId} {pre mid post : List UInt8} (h : Whole w g t (Sh.bcells (pre ++ (mid ++ post)))) (o : Nat) (ho : pre.length = o) : w.rangeAt g o (mid.map V8) := fun j v hv => by
  refine h.at_ ?_
  subst ho
  show ((pre ++ (mid ++ post)).map V8).toArray[pre.length + j]? = some v
  rw [List.getElem?_toArray, List.map_append, List.map_append, List.getElem?_append_right (by simp), List.length_map, Nat.add_sub_cancel_left, List.getElem?_append_left (List.getElem?_eq_some_iff.1 hv).1]
  exact hv
theorem rep_split {m i : Nat} (h : i < m) : List.replicate ((m - i) * 32) (0 : UInt8) = List.replicate 32 0 ++ List.replicate ((m - (i + 1)) * 32) 0 := by
  rw [List.replicate_append_replicate, show (m - i) * 32 = 32 + (m - (i + 1)) * 32 by omega]
def sumsF (ls : List (List UInt8)) : List UInt8 := (ls.map Sh.Sha.sum).flatten
theorem sumsF_len (ls : List (List UInt8)) : (sumsF ls).length = ls.length * 32 := by
  induction ls with
  | nil => rfl
  | cons a r ih =>
    show (Sh.Sha.sum a ++ sumsF r).length = _
    rw [List.length_append, ih, Sh.sum_length, List.length_cons]
    omega
theorem sumsF_snoc {ls : List (List UInt8)} {i : Nat} {a : List UInt8} (h : ls[i]? = some a) : sumsF (ls.take (i + 1)) = sumsF (ls.take i) ++ Sh.Sha.sum a := by
  unfold sumsF
  rw [List.take_add_one, h]
  simp
theorem sumsF_at {ls : List (List UInt8)} {i : Nat} {a : List UInt8} (h : ls[i]? = some a) : sumsF ls = sumsF (ls.take i) ++ (Sh.Sha.sum a ++ sumsF (ls.drop (i + 1))) := by
  obtain ⟨hl, rfl⟩ := List.getElem?_eq_some_iff.1 h
  have e : ls = ls.take i ++ ls[i] :: ls.drop (i + 1) := by rw [← List.drop_eq_getElem_cons hl, List.take_append_drop]
  have : sumsF ls = sumsF (ls.take i ++ ls[i] :: ls.drop (i + 1)) := congrArg sumsF e
  rw [this]
  show (List.map Sh.Sha.sum (ls.take i ++ ls[i] :: ls.drop (i + 1))).flatten = _
  rw [List.map_append, List.map_cons, List.flatten_append, List.flatten_cons]
  rfl
/-- Two unlike ones with one sum. -/
def BadP (ls : List (List UInt8)) (i k : Nat) : Prop := ∃ a b, ls[i]? = some a ∧ ls[k]? = some b ∧ Sh.Sha.sum a = Sh.Sha.sum b ∧ a ≠ b
theorem bad_of {ls : List (List UInt8)} (h : ¬ Apart ls) : ∃ i k, k < i ∧ i < ls.length ∧ BadP ls i k := by
  apply Classical.byContradiction
  intro hno
  refine h fun a ha b hb e => Classical.byContradiction fun hne => ?_
  obtain ⟨i, hi, rfl⟩ := List.getElem_of_mem ha
  obtain ⟨k, hk, rfl⟩ := List.getElem_of_mem hb
  rcases Nat.lt_trichotomy i k with h1 | rfl | h1
  · exact hno ⟨k, i, h1, hk, _, _, List.getElem?_eq_getElem hk, List.getElem?_eq_getElem hi, e.symm, fun e => hne e.symm⟩
  · exact hne rfl
  · exact hno ⟨i, k, h1, hi, _, _, List.getElem?_eq_getElem hi, List.getElem?_eq_getElem hk, e, hne⟩
/-- A row of slices of bytes that are read. -/
def LRd (w : World) (A : Option Addr) (m : Nat) (ls : List (List UInt8)) : Prop := ∃ xs, RdV w w.heap.size 1 A m xs ∧ ls.length = m ∧ LLay (Rd w w.heap.size) xs ls
theorem LRd.on {w w' : World} {A : Option Addr} {m : Nat} {ls : List (List UInt8)} (h : LRd w A m ls) (hb : Below w.heap.size w w') : LRd w' A m ls := by
  obtain ⟨xs, h1, h2, h3⟩ := h
  exact ⟨xs, (h1.below hb (Nat.le_refl _)).more hb.size, h2, h3.mono fun _ _ _ h => (h.below hb (Nat.le_refl _)).more hb.size⟩
theorem LOwn.rd {w : World} {base m c : Nat} {A : Option Addr} {ls : List (List UInt8)} (h : LOwn w base (.slice A m c) m ls) : LRd w A m ls := by
  obtain ⟨xs, h1, h2, h3⟩ := h
  exact ⟨xs, RdV.of_own h1, h2, h3.mono fun _ _ _ h => h.1⟩
theorem LRd.at_ {w : World} {A : Option Addr} {m j : Nat} {ls : List (List UInt8)} {a : List UInt8} (h : LRd w A m ls) (hj : ls[j]? = some a) : ∃ b o K n c, A = some ⟨b, o, none⟩ ∧ b < w.heap.size ∧ w.cell? ⟨b, o + j, none⟩ = some (.slice K n c) ∧ n ≤ c ∧ Rd w w.heap.size K n a := by
  obtain ⟨xs, h1, h2, h3⟩ := h
  obtain ⟨K, n, c, e, hc, hr⟩ := h3.2 j a hj
  obtain ⟨b, o, e2, hb, hcl⟩ := h1.2 (by have := (List.getElem?_eq_some_iff.1 hj).1; omega)
  exact ⟨b, o, K, n, c, e2, hb, hcl j _ e, hc, hr⟩

set_option maxRecDepth 100000 in
set_option maxHeartbeats 1000000 in
theorem clash_any (A : Option Addr) (m c : Nat) (ls : List (List UInt8)) (w : World) (hr : LRd w A m ls) (hlen : ∀ a ∈ ls, a.length ≤ 100000) (hm : m ≤ 100000) (hno : ¬ Apart ls) (ht : Sh.Tab w 0) (hw : 1 < w.heap.size) :
    Calls Tryd.prog 53 #[.slice A m c] w fun e w' => e = .returned (.bool true) ∧ Below w.heap.size w w' := by
  have hlm : ls.length = m := by obtain ⟨_, _, h, _⟩ := hr; exact h
  have HR := Lib.hid hr
  have HL := Lib.hid hlen
  have HBD := Lib.hid (bad_of hno)
  have HT := Lib.hid ht
  have HLM := Lib.hid hlm
  have hmk := run_make_sums m (by omega) m rfl
  clear hr hlen hno ht hlm
  go_enter Tryd.func53, Tryd.ntmps53
  go_upto_region 2 with (fail)
  clear hmk
  have hb0 : Below w.heap.size w (w.alloc (.cells (Sh.bcells (List.replicate (m * 32) 0)) 29)) := (Below.refl _ _).alloc (Nat.le_refl _) _
  have hw0 := Whole.made w 29 (Sh.bcells (List.replicate (m * 32) 0))
  obtain ⟨gs, hgs⟩ : ∃ gs, w.heap.size = gs := ⟨_, rfl⟩
  have HB0 := Lib.hid hb0
  have HW0 := Lib.hid hw0
  have HGS := Lib.hid hgs
  rw [hgs] at HW0 ⊢
  clear hb0 hw0
  generalize w.alloc (.cells (Sh.bcells (List.replicate (m * 32) 0)) 29) = w0 at *
  go_wp2_with fail
  go_loopg [4] m (fun gk s4 wx => ∃ i, i + gk = m ∧ s4 = .int .i64 (i : Nat) ∧ Whole wx gs 29 (Sh.bcells (sumsF (ls.take i) ++ List.replicate ((m - i) * 32) 0)) ∧ Below w.heap.size w wx)
  case atStart => exact ⟨0, by omega, rfl, HW0.out, HB0.out⟩
  case round =>
    clear HB0 HW0
    obtain ⟨i, hi, rfl, hW, hb⟩ := hrel
    have hsx := hb.size
    by_cases hin : i < m
    · obtain ⟨a, hai⟩ : ∃ a, ls[i]? = some a := ⟨_, List.getElem?_eq_getElem (by rw [HLM.out]; exact hin)⟩
      have hal := HL.out a (List.mem_of_getElem? hai)
      obtain ⟨b, o, K, n, ck, rfl, hbl, hcell, hck, hkr⟩ := (HR.out.on hb).at_ hai
      have hn : n ≤ 100000 := by rw [← hkr.len]; exact hal
      have HS := Lib.hid (Sh.ref_any K n ck a wr (reads_of_rd hkr (Nat.le_refl _)) hn (tab0_below HT.out hb hw) (by omega))
      have HW := Lib.hid hW
      have HB := Lib.hid hb
      have HAI := Lib.hid hai
      have hgl : gs < wr.heap.size := hW.lt
      clear hW hb hai hkr
      go_wp2_with fail
      refine HS.out.mono ?_
      rintro e w2 ⟨rfl, hb2⟩
      have hs2 := hb2.size
      have hW2 := HW.out.below hb2 hgl
      have hl0 : (Sh.Sha.sum a).length = 32 := Sh.sum_length a
      have hpre : (sumsF (ls.take i)).length = i * 32 := by rw [sumsF_len, List.length_take, HLM.out, Nat.min_eq_left (by omega)]
      have e1 : List.replicate ((m - i) * 32) (0 : UInt8) = List.replicate 32 0 ++ List.replicate ((m - (i + 1)) * 32) 0 := rep_split hin
      rw [e1] at hW2
      have hst := whole_bytes (vs := Sh.Sha.sum a) hW2 hpre (by rw [List.length_replicate, hl0])
      have hth := whole_midthere hW2 (i * 32) 32 (by rw [Sh.bcells_size, List.length_append, List.length_append, hpre, List.length_replicate]; omega)
      have hbs : Below w.heap.size w (w2.setCells gs (i * 32) (Sh.bcells (Sh.Sha.sum a)).toList) := below_setCells w gs _ _ (HB.out.trans (hb2.mono hsx)) (Nat.le_of_eq HGS.out)
      have s1 : (Sh.bcells (Sh.Sha.sum a)).size = 32 := (Sh.bcells_size _).trans hl0
      have hone := Sh.bcells_one (Sh.Sha.sum a)
      have HST := Lib.hid (And.intro hst hbs)
      clear hW2 hst hbs hpre e1 HS HW HB hb2
      simp only []
      iterate 4 go_step
      refine wpList_store_mid rfl 29 (.tmp 23) (.tmp 22) rfl gs (i * 32) (Sh.bcells (Sh.Sha.sum a)) ?_ ?_ (by rw [s1]; exact hth) (by rw [s1]; exact info49) hone ?_
      · rfl
      · rfl
      generalize w2.setCells gs (i * 32) (Sh.bcells (Sh.Sha.sum a)).toList = w3 at *
      clear hth s1 hone hl0
      go_wp2_with fail
      go_roundg (m - (i + 1))
      case measure => omega
      case rel => exact ⟨i + 1, by omega, by go_num, by rw [sumsF_snoc HAI.out, List.append_assoc]; exact HST.out.1, HST.out.2⟩
    · obtain rfl : i = m := by omega
      have hz : List.replicate ((i - i) * 32) (0 : UInt8) = [] := by rw [Nat.sub_self, Nat.zero_mul]; rfl
      rw [hz, List.append_nil, List.take_of_length_le (Nat.le_of_eq HLM.out)] at hW
      have HX := Lib.hid (And.intro hW hb)
      clear hW hb hin
      generalize wr = w4 at *
      go_wp2_with fail
      go_loopg [5] i (fun gk s5 wx => ∃ j, j + gk = i ∧ s5 = .int .i64 (j : Nat) ∧ Below w4.heap.size w4 wx ∧ ∀ x, x < j → ∀ y, y < x → ¬ BadP ls x y)
      case atStart => exact ⟨0, by omega, rfl, Below.refl _ _, fun x hx => by omega⟩
      case round =>
        obtain ⟨j, hj, rfl, hb5, hok⟩ := hrel
        by_cases hjn : j < i
        · have HOK := Lib.hid hok
          have HB5 := Lib.hid hb5
          clear hok hb5
          obtain ⟨aj, haj⟩ : ∃ a, ls[j]? = some a := ⟨_, List.getElem?_eq_getElem (by rw [HLM.out]; exact hjn)⟩
          have HAJ := Lib.hid haj
          clear haj
          go_wp2_with fail
          go_loopg [6] j (fun gk s6 wx => ∃ k, k + gk = j ∧ s6 = .int .i64 (k : Nat) ∧ Below w4.heap.size w4 wx ∧ ∀ y, y < k → ¬ BadP ls j y)
          case atStart => exact ⟨0, by omega, rfl, HB5.out, fun y hy => by omega⟩
          case round =>
            obtain ⟨k, hk, rfl, hb6, hok6⟩ := hrel
            by_cases hkj : k < j
            · obtain ⟨ak, hak⟩ : ∃ a, ls[k]? = some a := ⟨_, List.getElem?_eq_getElem (by rw [HLM.out]; omega)⟩
              have HOK6 := Lib.hid hok6
              have HB6 := Lib.hid hb6
              have HBW := Lib.hid (HX.out.2.trans (hb6.mono HX.out.2.size))
              have HAK := Lib.hid hak
              clear hok6 hb6 hak
              obtain ⟨b, o, Kj, nj, cj, hA, hbl, hcj, -, hrj⟩ := (HR.out.on HBW.out).at_ HAJ.out
              obtain ⟨b', o', Kk, nk, ck, hA', -, hck, -, hrk⟩ := (HR.out.on HBW.out).at_ HAK.out
              have hbo : b' = b ∧ o' = o := by
                rw [hA] at hA'
                injection hA' with hA'
                injection hA' with h1 h2
                exact ⟨h1.symm, h2.symm⟩
              obtain ⟨rfl, rfl⟩ := hbo
              subst hA
              have hW6 : Whole wr gs 29 (Sh.bcells (sumsF ls)) := HX.out.1.below HB6.out HX.out.1.lt
              have hra : wr.drew.rangeAt gs (j * 32) ((Sh.Sha.sum aj).map V8) := by
                have h := hW6
                rw [sumsF_at HAJ.out] at h
                exact whole_midrange (w := wr.drew) h (j * 32) (by rw [sumsF_len, List.length_take, HLM.out, Nat.min_eq_left (by omega)])
              have hrb : wr.drew.rangeAt gs (k * 32) ((Sh.Sha.sum ak).map V8) := by
                have h := hW6
                rw [sumsF_at HAK.out] at h
                exact whole_midrange (w := wr.drew) h (k * 32) (by rw [sumsF_len, List.length_take, HLM.out, Nat.min_eq_left (by omega)])
              have heq : ∀ u : World, (Op.equalIn 10000 29 (.agg ((Sh.Sha.sum aj).map V8).toArray) (.agg ((Sh.Sha.sum ak).map V8).toArray)).run Tryd.prog u = .ok (Sh.Sha.sum aj == Sh.Sha.sum ak) u := fun u => run_eq49 (Sh.Sha.sum aj) (Sh.Sha.sum ak) (Sh.sum_length _) (Sh.sum_length _) u
              have hi2 : (Tryd.prog.info? 29).map (·.size) = some ((Sh.Sha.sum aj).map V8).length := by rw [List.length_map, Sh.sum_length]; exact info49
              have hi1 : (Tryd.prog.info? 29).map (·.size) = some ((Sh.Sha.sum ak).map V8).length := by rw [List.length_map, Sh.sum_length]; exact info49
              have hs1 := run_string wr.drew _ Kj nj cj aj hrj
              have hs2 := run_string wr.drew _ Kk nk ck ak hrk
              have d1 : wr.drew.cell? ⟨b', o' + j, none⟩ = some (.slice Kj nj cj) := hcj
              have d2 : wr.drew.cell? ⟨b', o' + k, none⟩ = some (.slice Kk nk ck) := hck
              have HBD6 : Hid (Below w4.heap.size w4 wr.drew) := Lib.hid HB6.out.drew
              have HBWD : Hid (Below w.heap.size w wr.drew) := Lib.hid HBW.out.drew
              have hle : b' < wr.drew.heap.size := hbl
              have hki : k < i := by omega
              clear hcj hck hrj hrk hW6 hbl
              go_upto_region 12 with (fail)
              generalize hT2 : Sh.Sha.sum aj = T2 at *
              generalize hT1 : Sh.Sha.sum ak = T1 at *
              have HTT := Lib.hid (And.intro hT2 hT1)
              clear hT1 hT2
              by_cases hse : T2 = T1
              · rw [show (T2 == T1) = true by rw [beq_iff_eq]; exact hse] at heq
                by_cases hne : aj = ak
                · have HEQ := Lib.hid hne
                  have hstr : ((⟨aj.toArray⟩ : ByteArray).toList == (⟨ak.toArray⟩ : ByteArray).toList) = true := by rw [hne]; exact beq_self_eq_true _
                  clear hse hne
                  generalize (⟨aj.toArray⟩ : ByteArray) = S1 at hs1 hstr
                  generalize (⟨ak.toArray⟩ : ByteArray) = S2 at hs2 hstr
                  generalize T2.map V8 = X2 at *
                  generalize T1.map V8 = X1 at *
                  have HRA := Lib.hid hra
                  have HRB := Lib.hid hrb
                  have HI2 := Lib.hid hi2
                  have HI1 := Lib.hid hi1
                  clear hra hrb hi1 hi2
                  refine wp_region_still_lit (by kernel_rfl) (by kernel_rfl) ?_
                  change wpStill _ _ wr.drew _ _ _
                  generalize wr.drew = w5 at *
                  still_step
                  still_step
                  still_step
                  refine Sh.wpStill_load_mid rfl 29 (.tmp 37) rfl gs (j * 32) ?_ X2 (.array 32 5) HRA.out Tryd.underlying29 rfl HI2.out ?_
                  · rfl
                  go_simp
                  still_step
                  still_step
                  still_step
                  refine Sh.wpStill_load_mid rfl 29 (.tmp 41) rfl gs (k * 32) ?_ X1 (.array 32 5) HRB.out Tryd.underlying29 rfl HI1.out ?_
                  · rfl
                  go_simp
                  repeat still_step
                  refine wpStill_nil ?_
                  go_wp2_with fail
                  go_roundg (j - (k + 1))
                  case measure => omega
                  case rel => exact ⟨k + 1, by omega, by go_num, HB6.out.drew, fun y hy => by
                    rcases Nat.lt_or_ge y k with h | h
                    · exact HOK6.out y h
                    · obtain rfl : y = k := by omega
                      rintro ⟨a, b, h1, h2, h3, h4⟩
                      rw [HAJ.out] at h1
                      rw [HAK.out] at h2
                      injection h1 with h1
                      injection h2 with h2
                      subst h1 h2
                      exact h4 HEQ.out⟩
                · have hstr : ((⟨aj.toArray⟩ : ByteArray).toList == (⟨ak.toArray⟩ : ByteArray).toList) = false := by
                    rw [beq_eq_false_iff_ne, ByteArray.toList_eq, ByteArray.toList_eq]
                    exact hne
                  clear hse hne
                  generalize (⟨aj.toArray⟩ : ByteArray) = S1 at hs1 hstr
                  generalize (⟨ak.toArray⟩ : ByteArray) = S2 at hs2 hstr
                  generalize T2.map V8 = X2 at *
                  generalize T1.map V8 = X1 at *
                  have HRA := Lib.hid hra
                  have HRB := Lib.hid hrb
                  have HI2 := Lib.hid hi2
                  have HI1 := Lib.hid hi1
                  clear hra hrb hi1 hi2
                  refine wp_region_still_lit (by kernel_rfl) (by kernel_rfl) ?_
                  change wpStill _ _ wr.drew _ _ _
                  generalize wr.drew = w5 at *
                  still_step
                  still_step
                  still_step
                  refine Sh.wpStill_load_mid rfl 29 (.tmp 37) rfl gs (j * 32) ?_ X2 (.array 32 5) HRA.out Tryd.underlying29 rfl HI2.out ?_
                  · rfl
                  go_simp
                  still_step
                  still_step
                  still_step
                  refine Sh.wpStill_load_mid rfl 29 (.tmp 41) rfl gs (k * 32) ?_ X1 (.array 32 5) HRB.out Tryd.underlying29 rfl HI1.out ?_
                  · rfl
                  go_simp
                  repeat still_step
                  refine wpStill_nil ?_
                  go_wp2_with fail
                  go_ret
                  exact ⟨rfl, by have h := HBW.out.drew; rw [HGS.out] at h; exact h⟩
              · rw [show (T2 == T1) = false by rw [beq_eq_false_iff_ne]; exact hse] at heq
                have HEQ := Lib.hid hse
                clear hse hs1 hs2
                generalize T2.map V8 = X2 at *
                generalize T1.map V8 = X1 at *
                have HRA := Lib.hid hra
                have HRB := Lib.hid hrb
                have HI2 := Lib.hid hi2
                have HI1 := Lib.hid hi1
                clear hra hrb hi1 hi2
                have hS0 : wr.drew.rangeAt gs (j * 32) X2 ∧ wr.drew.rangeAt gs (k * 32) X1 := ⟨HRA.out, HRB.out⟩
                refine wp_region_held_drew (S := fun u => u.rangeAt gs (j * 32) X2 ∧ u.rangeAt gs (k * 32) X1) (by kernel_rfl) hS0 (fun hHeld => ?_)
                clear hS0 d1 d2
                refine wpAnyH_take (i := 0) (oi := { dst := some 35, op := Op.move (Operand.tmp 3), type := 61, pos := "ref.go:360", after := #[], guard := none }) (v := ?_) rfl (by kernel_rfl) (by kernel_rfl) (by kernel_rfl) (fun _ _ _ h => h) (Or.inl ⟨by rfl, ?_⟩) (by assumption) ?_
                rotate_left
                · first | (intro w hSw; (try dsimp only at hSw); go_simp; done) | (intro w hSw; (try dsimp only at hSw); go_simp; with_reducible rfl)
                simp only [Act.put, List.setIfInBounds_toArray, List.set_cons_zero, List.set_cons_succ]
                refine wpAnyH_take (i := 1) (oi := { dst := some 36, op := Op.move (Operand.tmp 5), type := 3, pos := "ref.go:360", after := #[], guard := none }) (v := ?_) rfl (by kernel_rfl) (by kernel_rfl) (by kernel_rfl) (fun _ _ _ h => h) (Or.inl ⟨by rfl, ?_⟩) (by assumption) ?_
                rotate_left
                · first | (intro w hSw; (try dsimp only at hSw); go_simp; done) | (intro w hSw; (try dsimp only at hSw); go_simp; with_reducible rfl)
                simp only [Act.put, List.setIfInBounds_toArray, List.set_cons_zero, List.set_cons_succ]
                refine wpAnyH_take (i := 2) (oi := { dst := some 37, op := Op.indexAddr 61 (Operand.tmp 35) (Operand.tmp 36), type := 0, pos := "ref.go:360", after := #[{ on := 0, ground := Ground.data }, { on := 1, ground := Ground.data }], guard := none }) (v := ?_) rfl (by kernel_rfl) (by kernel_rfl) (by kernel_rfl) (fun _ _ _ h => h) (Or.inl ⟨by rfl, ?_⟩) (by assumption) ?_
                rotate_left
                · first | (intro w hSw; (try dsimp only at hSw); go_simp; done) | (intro w hSw; (try dsimp only at hSw); go_simp; with_reducible rfl)
                simp only [Act.put, List.setIfInBounds_toArray, List.set_cons_zero, List.set_cons_succ]
                refine wpAnyH_take (i := 3) (oi := { dst := some 38, op := Op.load 29 (Operand.tmp 37), type := 29, pos := "ref.go:360", after := #[{ on := 2, ground := Ground.data }], guard := none }) (v := .agg X2.toArray) rfl (by kernel_rfl) (by kernel_rfl) (by kernel_rfl) (fun _ _ _ h => h) (yieldsIf_load_mid (by rfl) 29 (.tmp 37) rfl gs (j * 32) rfl X2 _ (fun _ h => h.1) Tryd.underlying29 rfl HI2.out) (by assumption) ?_
                simp only [Act.put, List.setIfInBounds_toArray, List.set_cons_zero, List.set_cons_succ]
                refine wpAnyH_take (i := 4) (oi := { dst := some 39, op := Op.move (Operand.tmp 3), type := 61, pos := "ref.go:360", after := #[], guard := none }) (v := ?_) rfl (by kernel_rfl) (by kernel_rfl) (by kernel_rfl) (fun _ _ _ h => h) (Or.inl ⟨by rfl, ?_⟩) (by assumption) ?_
                rotate_left
                · first | (intro w hSw; (try dsimp only at hSw); go_simp; done) | (intro w hSw; (try dsimp only at hSw); go_simp; with_reducible rfl)
                simp only [Act.put, List.setIfInBounds_toArray, List.set_cons_zero, List.set_cons_succ]
                refine wpAnyH_take (i := 5) (oi := { dst := some 40, op := Op.move (Operand.tmp 6), type := 3, pos := "ref.go:360", after := #[], guard := none }) (v := ?_) rfl (by kernel_rfl) (by kernel_rfl) (by kernel_rfl) (fun _ _ _ h => h) (Or.inl ⟨by rfl, ?_⟩) (by assumption) ?_
                rotate_left
                · first | (intro w hSw; (try dsimp only at hSw); go_simp; done) | (intro w hSw; (try dsimp only at hSw); go_simp; with_reducible rfl)
                simp only [Act.put, List.setIfInBounds_toArray, List.set_cons_zero, List.set_cons_succ]
                refine wpAnyH_take (i := 6) (oi := { dst := some 41, op := Op.indexAddr 61 (Operand.tmp 39) (Operand.tmp 40), type := 0, pos := "ref.go:360", after := #[{ on := 4, ground := Ground.data }, { on := 5, ground := Ground.data }], guard := none }) (v := ?_) rfl (by kernel_rfl) (by kernel_rfl) (by kernel_rfl) (fun _ _ _ h => h) (Or.inl ⟨by rfl, ?_⟩) (by assumption) ?_
                rotate_left
                · first | (intro w hSw; (try dsimp only at hSw); go_simp; done) | (intro w hSw; (try dsimp only at hSw); go_simp; with_reducible rfl)
                simp only [Act.put, List.setIfInBounds_toArray, List.set_cons_zero, List.set_cons_succ]
                refine wpAnyH_take (i := 7) (oi := { dst := some 42, op := Op.load 29 (Operand.tmp 41), type := 29, pos := "ref.go:360", after := #[{ on := 6, ground := Ground.data }], guard := none }) (v := .agg X1.toArray) rfl (by kernel_rfl) (by kernel_rfl) (by kernel_rfl) (fun _ _ _ h => h) (yieldsIf_load_mid (by rfl) 29 (.tmp 41) rfl gs (k * 32) rfl X1 _ (fun _ h => h.2) Tryd.underlying29 rfl HI1.out) (by assumption) ?_
                simp only [Act.put, List.setIfInBounds_toArray, List.set_cons_zero, List.set_cons_succ]
                refine wpAnyH_take (i := 8) (oi := { dst := some 43, op := Op.binOp BinOp.eql 29 (Operand.tmp 38) (Operand.tmp 42) 29, type := 4, pos := "ref.go:360", after := #[{ on := 3, ground := Ground.data }, { on := 7, ground := Ground.data }], guard := none }) (v := ?_) rfl (by kernel_rfl) (by kernel_rfl) (by kernel_rfl) (fun _ _ _ h => h) (Or.inl ⟨by rfl, ?_⟩) (by assumption) ?_
                rotate_left
                · first | (intro w hSw; (try dsimp only at hSw); go_simp; done) | (intro w hSw; (try dsimp only at hSw); go_simp; with_reducible rfl)
                simp only [Act.put, List.setIfInBounds_toArray, List.set_cons_zero, List.set_cons_succ]
                refine wpAnyH_take (i := 9) (oi := { dst := some 44, op := Op.move (Operand.tmp 43), type := 4, pos := "ref.go:360", after := #[{ on := 8, ground := Ground.data }], guard := none }) (v := ?_) rfl (by kernel_rfl) (by kernel_rfl) (by kernel_rfl) (fun _ _ _ h => h) (Or.inl ⟨by rfl, ?_⟩) (by assumption) ?_
                rotate_left
                · first | (intro w hSw; (try dsimp only at hSw); go_simp; done) | (intro w hSw; (try dsimp only at hSw); go_simp; with_reducible rfl)
                simp only [Act.put, List.setIfInBounds_toArray, List.set_cons_zero, List.set_cons_succ]
                refine wpAnyH_take (i := 10) (oi := { dst := some 45, op := Op.move (Operand.tmp 0), type := 112, pos := "ref.go:360", after := #[{ on := 9, ground := Ground.guard }], guard := some (9, true) }) (v := undef) rfl (by kernel_rfl) (by kernel_rfl) (by kernel_rfl) (fun _ _ _ h => h) (Or.inr ⟨by rfl, rfl⟩) (by assumption) ?_
                simp only [Act.put, List.setIfInBounds_toArray, List.set_cons_zero, List.set_cons_succ]
                refine wpAnyH_take (i := 11) (oi := { dst := some 46, op := Op.move (Operand.tmp 5), type := 3, pos := "ref.go:360", after := #[{ on := 9, ground := Ground.guard }], guard := some (9, true) }) (v := undef) rfl (by kernel_rfl) (by kernel_rfl) (by kernel_rfl) (fun _ _ _ h => h) (Or.inr ⟨by rfl, rfl⟩) (by assumption) ?_
                simp only [Act.put, List.setIfInBounds_toArray, List.set_cons_zero, List.set_cons_succ]
                refine wpAnyH_take (i := 12) (oi := { dst := some 47, op := Op.indexAddr 112 (Operand.tmp 45) (Operand.tmp 46), type := 0, pos := "ref.go:360", after := #[{ on := 10, ground := Ground.data }, { on := 11, ground := Ground.data }, { on := 9, ground := Ground.guard }], guard := some (9, true) }) (v := undef) rfl (by kernel_rfl) (by kernel_rfl) (by kernel_rfl) (fun _ _ _ h => h) (Or.inr ⟨by rfl, rfl⟩) (by assumption) ?_
                simp only [Act.put, List.setIfInBounds_toArray, List.set_cons_zero, List.set_cons_succ]
                refine wpAnyH_take (i := 13) (oi := { dst := some 48, op := Op.load 31 (Operand.tmp 47), type := 31, pos := "ref.go:360", after := #[{ on := 12, ground := Ground.data }, { on := 9, ground := Ground.guard }], guard := some (9, true) }) (v := undef) rfl (by kernel_rfl) (by kernel_rfl) (by kernel_rfl) (fun _ _ _ h => h) (Or.inr ⟨by rfl, rfl⟩) (by assumption) ?_
                simp only [Act.put, List.setIfInBounds_toArray, List.set_cons_zero, List.set_cons_succ]
                refine wpAnyH_take (i := 14) (oi := { dst := some 49, op := Op.convert 31 9 (Operand.tmp 48), type := 9, pos := "ref.go:360", after := #[{ on := 13, ground := Ground.data }, { on := 9, ground := Ground.guard }], guard := some (9, true) }) (v := undef) rfl (by kernel_rfl) (by kernel_rfl) (by kernel_rfl) (fun _ _ _ h => h) (Or.inr ⟨by rfl, rfl⟩) (by assumption) ?_
                simp only [Act.put, List.setIfInBounds_toArray, List.set_cons_zero, List.set_cons_succ]
                refine wpAnyH_take (i := 15) (oi := { dst := some 50, op := Op.move (Operand.tmp 0), type := 112, pos := "ref.go:360", after := #[{ on := 9, ground := Ground.guard }], guard := some (9, true) }) (v := undef) rfl (by kernel_rfl) (by kernel_rfl) (by kernel_rfl) (fun _ _ _ h => h) (Or.inr ⟨by rfl, rfl⟩) (by assumption) ?_
                simp only [Act.put, List.setIfInBounds_toArray, List.set_cons_zero, List.set_cons_succ]
                refine wpAnyH_take (i := 16) (oi := { dst := some 51, op := Op.move (Operand.tmp 6), type := 3, pos := "ref.go:360", after := #[{ on := 9, ground := Ground.guard }], guard := some (9, true) }) (v := undef) rfl (by kernel_rfl) (by kernel_rfl) (by kernel_rfl) (fun _ _ _ h => h) (Or.inr ⟨by rfl, rfl⟩) (by assumption) ?_
                simp only [Act.put, List.setIfInBounds_toArray, List.set_cons_zero, List.set_cons_succ]
                refine wpAnyH_take (i := 17) (oi := { dst := some 52, op := Op.indexAddr 112 (Operand.tmp 50) (Operand.tmp 51), type := 0, pos := "ref.go:360", after := #[{ on := 15, ground := Ground.data }, { on := 16, ground := Ground.data }, { on := 9, ground := Ground.guard }], guard := some (9, true) }) (v := undef) rfl (by kernel_rfl) (by kernel_rfl) (by kernel_rfl) (fun _ _ _ h => h) (Or.inr ⟨by rfl, rfl⟩) (by assumption) ?_
                simp only [Act.put, List.setIfInBounds_toArray, List.set_cons_zero, List.set_cons_succ]
                refine wpAnyH_take (i := 18) (oi := { dst := some 53, op := Op.load 31 (Operand.tmp 52), type := 31, pos := "ref.go:360", after := #[{ on := 17, ground := Ground.data }, { on := 9, ground := Ground.guard }], guard := some (9, true) }) (v := undef) rfl (by kernel_rfl) (by kernel_rfl) (by kernel_rfl) (fun _ _ _ h => h) (Or.inr ⟨by rfl, rfl⟩) (by assumption) ?_
                simp only [Act.put, List.setIfInBounds_toArray, List.set_cons_zero, List.set_cons_succ]
                refine wpAnyH_take (i := 19) (oi := { dst := some 54, op := Op.convert 31 9 (Operand.tmp 53), type := 9, pos := "ref.go:360", after := #[{ on := 18, ground := Ground.data }, { on := 9, ground := Ground.guard }], guard := some (9, true) }) (v := undef) rfl (by kernel_rfl) (by kernel_rfl) (by kernel_rfl) (fun _ _ _ h => h) (Or.inr ⟨by rfl, rfl⟩) (by assumption) ?_
                simp only [Act.put, List.setIfInBounds_toArray, List.set_cons_zero, List.set_cons_succ]
                refine wpAnyH_take (i := 20) (oi := { dst := some 55, op := Op.binOp BinOp.neq 9 (Operand.tmp 49) (Operand.tmp 54) 9, type := 4, pos := "ref.go:360", after := #[{ on := 14, ground := Ground.data }, { on := 19, ground := Ground.data }, { on := 9, ground := Ground.guard }], guard := some (9, true) }) (v := undef) rfl (by kernel_rfl) (by kernel_rfl) (by kernel_rfl) (fun _ _ _ h => h) (Or.inr ⟨by rfl, rfl⟩) (by assumption) ?_
                simp only [Act.put, List.setIfInBounds_toArray, List.set_cons_zero, List.set_cons_succ]
                refine wpAnyH_take (i := 21) (oi := { dst := some 56, op := Op.pick (Operand.tmp 44) (Operand.tmp 55) (Operand.const (Value.bool false)), type := 4, pos := "ref.go:360", after := #[{ on := 9, ground := Ground.data }, { on := 20, ground := Ground.data }], guard := none }) (v := ?_) rfl (by kernel_rfl) (by kernel_rfl) (by kernel_rfl) (fun _ _ _ h => h) (Or.inl ⟨by rfl, ?_⟩) (by assumption) ?_
                rotate_left
                · first | (intro w hSw; (try dsimp only at hSw); go_simp; done) | (intro w hSw; (try dsimp only at hSw); go_simp; with_reducible rfl)
                simp only [Act.put, List.setIfInBounds_toArray, List.set_cons_zero, List.set_cons_succ]
                refine wpAnyH_done (by kernel_rfl) ?_ _
                go_wp2_with fail
                go_roundg (j - (k + 1))
                case measure => omega
                case rel => exact ⟨k + 1, by omega, by go_num, HB6.out.drew, fun y hy => by
                  rcases Nat.lt_or_ge y k with h | h
                  · exact HOK6.out y h
                  · obtain rfl : y = k := by omega
                    rintro ⟨a, b, h1, h2, h3, h4⟩
                    rw [HAJ.out] at h1
                    rw [HAK.out] at h2
                    injection h1 with h1
                    injection h2 with h2
                    subst h1 h2
                    exact HEQ.out (by rw [← HTT.out.1, ← HTT.out.2]; exact h3)⟩
            · obtain rfl : k = j := by omega
              have HE := Lib.hid (And.intro hb6 hok6)
              clear hb6 hok6
              go_wp2_with fail
              go_roundg (i - (k + 1))
              case measure => omega
              case rel => exact ⟨k + 1, by omega, by go_num, HE.out.1, fun x hx y hy => by
                rcases Nat.lt_or_ge x k with h | h
                · exact HOK.out x h y hy
                · obtain rfl : x = k := by omega
                  exact HE.out.2 y hy⟩
        · exfalso
          obtain ⟨x, y, h1, h2, h3⟩ := HBD.out
          exact hok x (by have := HLM.out; omega) y h1 h3
end Go.Proofs.YtolkpjbbfopmnaaDoor
namespace Go.Proofs.YtolkpjbbfopmnaaDoor
open Go.RowKit
open Tr

theorem texts_snoc {ts : List T} {i : Nat} {s : T} (h : ts[i]? = some s) : texts (ts.take (i + 1)) = texts (ts.take i) ++ s.texts := by
  unfold texts
  rw [List.take_add_one, h]
  simp [List.flatMap_append]
set_option maxRecDepth 100000 in
set_option maxHeartbeats 1000000 in
theorem texts_any (A : Option Addr) (n c : Nat) (ts : List T) (w : World) (hr : NRd w w.heap.size A n ts) (hk : ∀ s ∈ ts, s.key.length ≤ 96 ∧ s.val.length ≤ 256 ∧ s.n ≤ 1000) (hn : n ≤ 2000) (ht : Sh.Tab w 0) (hw : 1 < w.heap.size) :
    Calls Tryd.prog 54 #[.slice A n c] w fun e w' => ∃ v m, e = .returned v ∧ LOwn w' w.heap.size v m (texts ts) ∧ m ≤ 1 + 2 * n ∧ Below w.heap.size w w' := by
  have HR := Lib.hid hr
  have HK := Lib.hid hk
  have HT := Lib.hid ht
  clear hr hk ht
  go_enter Tryd.func54, Tryd.ntmps54
  go_upto_region 2 with (fail)
  have hb1 : Below w.heap.size w (w.alloc (.cells #[.slice none 0 0] 31)) := (Below.refl _ _).alloc (Nat.le_refl _) _
  have ho1 : LOwn (w.alloc (.cells #[.slice none 0 0] 31)) w.heap.size (.slice (some ⟨w.heap.size, 0, none⟩) 1 1) 1 (texts (ts.take 0)) :=
    ⟨[.slice none 0 0], World.ownsRow_lit w #[.slice none 0 0] 1 (Nat.le_refl _) (by unfold maxLen; omega) rfl, rfl, rfl, fun j bs hj => by
      match j, hj with
      | 0, hj =>
        simp [texts] at hj
        subst hj
        exact ⟨none, 0, 0, rfl, Nat.le_refl _, Rd.nil, fun b o e => by cases e⟩⟩
  have HO1 := Lib.hid ho1
  have HB1 := Lib.hid hb1
  clear ho1 hb1
  generalize w.alloc (.cells #[.slice none 0 0] 31) = w1 at *
  go_wp2_with fail
  go_loopg [4, 3] n (fun gk s4 s3 wx => ∃ i m, i + gk = n ∧ s4 = .int .i64 (i : Nat) ∧ LOwn wx w.heap.size s3 m (texts (ts.take i)) ∧ m ≤ 1 + 2 * i ∧ Below w.heap.size w wx)
  case atStart => exact ⟨0, 1, by omega, rfl, HO1.out, by omega, HB1.out⟩
  case round =>
    clear HO1 HB1
    obtain ⟨i, m, hi, rfl, hO, hm, hb⟩ := hrel
    obtain ⟨A3, c3, rfl, hc3⟩ := hO.form
    have hsx := hb.size
    by_cases hin : i < n
    · obtain ⟨s, hsi⟩ : ∃ s, ts[i]? = some s := ⟨_, List.getElem?_eq_getElem (by rw [HR.out.len]; exact hin)⟩
      obtain ⟨hk1, hk2, hk3⟩ := HK.out s (List.mem_of_getElem? hsi)
      obtain ⟨b, o, K, nk, ck, V, nv, cv, rfl, hlt, hrw, hck, hcv, hkw, hvw⟩ := HR.out.at_ hsi
      have hrg := range_keep hrw hb hlt
      have hkr := hkw.below hb (Nat.le_refl _)
      have hvr := hvw.below hb (Nat.le_refl _)
      have HVW := Lib.hid hvw
      clear hrw hkw hvw
      have hkl : nk ≤ 96 := by rw [← hkr.len]; exact hk1
      have hvl : nv ≤ 256 := by rw [← hvr.len]; exact hk2
      have HTX := Lib.hid (textT_any s K V nk ck nv cv wr (hkr.more hsx) (hvr.more hsx) hkl hvl hk3 (tab0_below HT.out hb hw) (by omega))
      have c1 : wr.cell? ⟨b, o + i * 68 + 1, none⟩ = some (.slice V nv cv) := hrg 1 _ rfl
      have c2 : wr.cell? ⟨b, o + i * 68 + 2, none⟩ = some (.int .i64 s.h) := hrg 2 _ rfl
      have hlen : (acells (.slice K nk ck) (.slice V nv cv) s.h s.n s.lsum s.rsum).length = 68 := ac_len _ _ _
      have hblt : b < wr.heap.size := by omega
      have HO := Lib.hid hO
      have HB := Lib.hid hb
      have HSI := Lib.hid hsi
      have HV1 : Hid (∀ bv ov, V = some ⟨bv, ov, none⟩ → 0 < nv → bv < w.heap.size) := Lib.hid fun bv ov ev h0 => by
        obtain ⟨b', o', e, h1, _⟩ := hvr.at_ h0
        rw [ev] at e
        injection e with e
        injection e with e _
        omega
      have HV0 : Hid (∀ u, Below w.heap.size w u → Rd u u.heap.size V nv s.val) := Lib.hid fun u hu => (HVW.out.below hu (Nat.le_refl _)).more hu.size
      clear hO hb hsi hkr hvr
      go_upto_region 5 with (fail)
      refine wp_region_lit ?_
      iterate 12 go_step
      refine wpList_load_mid rfl 47 (.tmp 15) rfl b (o + i * 68) rfl _ _ hrg Tryd.underlying47 rfl (by rw [hlen]; exact info64) ?_
      go_wp2_with fail
      refine HTX.out.mono ?_
      rintro e w2 ⟨At, nt, ct, rfl, hrt, hct, hft, hb2⟩
      have hs2 := hb2.size
      have d1 : w2.cell? ⟨b, o + i * 68 + 1, none⟩ = some (.slice V nv cv) := (hb2.cell (p := ⟨b, o + i * 68 + 1, none⟩) hblt).trans c1
      have d2 : w2.cell? ⟨b, o + i * 68 + 2, none⟩ = some (.int .i64 s.h) := (hb2.cell (p := ⟨b, o + i * 68 + 2, none⟩) hblt).trans c2
      have HO2 := Lib.hid (HO.out.on hb2)
      have HB2 := Lib.hid (HB.out.trans (hb2.mono hsx))
      have hkx : RdX w2 w2.heap.size (Value.slice A3 m c3).ownBlock At nt s.text := ⟨hrt, fun bt ot et h0 er => by
        obtain ⟨xs, h1, _⟩ := HO.out
        have h2 := (h1.lt bt er).2
        have h3 := (hft bt ot et).1
        omega⟩
      have HKX := Lib.hid hkx
      clear hrg c1 c2 hrt hft hb2 HTX HO HB hkx
      simp only []
      iterate 4 go_step
      refine wpList_append_text rfl (.tmp 12) (.tmp 18) rfl w.heap.size _ m _ s.text rfl HO2.out At nt ct rfl hct HKX.out (by omega) HB2.out.size ?_
      intro v3 w3 ho3 hb3 hs3
      obtain ⟨A4, c4, rfl, hc4⟩ := ho3.form
      have e1 : w3.cell? ⟨b, o + i * 68 + 1, none⟩ = some (.slice V nv cv) := (hb3.cell (p := ⟨b, o + i * 68 + 1, none⟩) hlt).trans d1
      have e2 : w3.cell? ⟨b, o + i * 68 + 2, none⟩ = some (.int .i64 s.h) := (hb3.cell (p := ⟨b, o + i * 68 + 2, none⟩) hlt).trans d2
      have HO3 := Lib.hid ho3
      have HB3 := Lib.hid (HB2.out.trans (hb3.mono (Nat.le_refl _)))
      have HV3 : Hid (Rd w3 w3.heap.size V nv s.val) := Lib.hid (HV0.out w3 HB3.out)
      clear ho3 hb3 HO2 HB2 HKX d1 d2
      cases s with
      | leaf kk vv =>
        rw [show ((T.leaf kk vv).h : Int) = 0 from rfl] at e2
        go_upto_region 7 with (fail)
        have hkv : RdX w3 w3.heap.size (Value.slice A4 (m + 1) c4).ownBlock V nv vv := ⟨HV3.out, fun bv ov ev h0 er => by
          obtain ⟨xs, h1, _⟩ := HO3.out
          have h2 := (h1.lt bv er).1
          have h3 := HV1.out bv ov ev h0
          omega⟩
        have HKV := Lib.hid hkv
        clear hkv e2
        refine wp_region_lit ?_
        iterate 21 go_step
        refine wpList_append_text rfl (.tmp 26) (.tmp 32) rfl w.heap.size _ (m + 1) _ vv rfl HO3.out V nv cv rfl hcv HKV.out (by omega) HB3.out.size ?_
        intro v5 w5 ho5 hb5 hs5
        obtain ⟨A5, c5, rfl, hc5⟩ := ho5.form
        have HE := Lib.hid (And.intro ho5 (HB3.out.trans (hb5.mono (Nat.le_refl _))))
        clear ho5 hb5 HO3 HB3 HV3 HKV e1
        go_wp2_with fail
        go_roundg (n - (i + 1))
        case measure => omega
        case rel => exact ⟨i + 1, m + 1 + 1, by omega, by go_num, by rw [texts_snoc HSI.out]; have h := HE.out.1; rw [List.append_assoc] at h; exact h, by omega, HE.out.2⟩
      | node ll rr =>
        have hh0 : (((T.node ll rr).h : Int) == 0) = false := by have := h_ne ll rr; simp; omega
        have HE := Lib.hid (And.intro HO3.out HB3.out)
        clear HO3 HB3 HV3
        go_wp2_with fail
        go_roundg (n - (i + 1))
        case measure => omega
        case rel => exact ⟨i + 1, m + 1, by omega, by go_num, by rw [texts_snoc HSI.out]; exact HE.out.1, by omega, HE.out.2⟩
    · obtain rfl : i = n := by omega
      have HE := Lib.hid (And.intro hO hb)
      clear hO hb
      go_wp2_with fail
      go_ret
      have h1 := HE.out.1
      rw [List.take_of_length_le (by rw [HR.out.len]; exact Nat.le_refl _)] at h1
      exact ⟨_, m, rfl, h1, hm, HE.out.2⟩
end Go.Proofs.YtolkpjbbfopmnaaDoor
namespace Go.Proofs.YtolkpjbbfopmnaaDoor
open Go.RowKit
open Tr

theorem nin_vals {G : Nat → Prop} {w : World} {B : Nat} : ∀ {t : T} {b : Nat}, NIn G w B t b → ∀ s ∈ t.all, s.val.length ≤ 256
  | .leaf k v, _, ⟨A, n, c, A', n', c', h⟩, p, hp => by
    obtain rfl : p = .leaf k v := by simpa [T.all] using hp
    have := h.val.len
    have h2 := h.vle
    omega
  | .node l r, _, ⟨A, n, c, A', n', c', x, y, h, h1, h2⟩, p, hp => by
    rcases List.mem_cons.1 (show p ∈ T.node l r :: (l.all ++ r.all) from hp) with rfl | hp
    · have := h.val.len
      have h2 := h.vle
      omega
    · rcases List.mem_append.1 hp with hp | hp
      · exact nin_vals h1 p hp
      · exact nin_vals h2 p hp
theorem n_all : ∀ {t s : T}, s ∈ t.all → s.n ≤ t.n
  | .leaf k v, s, hs => by
    obtain rfl : s = .leaf k v := by simpa [T.all] using hs
    exact Nat.le_refl _
  | .node l r, s, hs => by
    rcases List.mem_cons.1 (show s ∈ T.node l r :: (l.all ++ r.all) from hs) with rfl | hs
    · exact Nat.le_refl _
    · rcases List.mem_append.1 hs with hs | hs
      · exact Nat.le_trans (n_all hs) (show l.n ≤ l.n + r.n by omega)
      · exact Nat.le_trans (n_all hs) (show r.n ≤ l.n + r.n by omega)
theorem texts_len {ts : List T} (h : ∀ s ∈ ts, s.key.length ≤ 96 ∧ s.val.length ≤ 256) : ∀ a ∈ texts ts, a.length ≤ 1000 := fun a ha => by
  rcases List.mem_cons.1 ha with rfl | ha
  · simp
  · obtain ⟨s, hs, ha⟩ := List.mem_flatMap.1 ha
    obtain ⟨h1, h2⟩ := h s hs
    cases s with
    | leaf k v =>
      simp only [T.texts, List.mem_cons, List.not_mem_nil, or_false] at ha
      rcases ha with rfl | rfl
      · change k.length ≤ 96 at h1
        simp only [leafText, List.length_cons, List.length_append, Sh.sum_length]
        omega
      · change a.length ≤ 256 at h2
        omega
    | node l r =>
      simp only [T.texts, List.mem_cons, List.not_mem_nil, or_false] at ha
      subst ha
      simp only [T.text, innerText, List.length_cons, List.length_append, Sh.Sha.be8_length, sum32]
      omega

set_option maxRecDepth 100000 in
set_option maxHeartbeats 1000000 in
theorem clashT_any (t : T) (g : Nat) (G : Nat → Prop) (w : World) (ho : TIn G w w.heap.size (some t) g) (hn : t.n ≤ 500) (hno : ¬ Apart (texts t.all)) (ht : Sh.Tab w 0) (hw : 1 < w.heap.size) :
    Calls Tryd.prog 29 #[ptr (some g)] w fun e w' => e = .returned (.bool true) ∧ Below w.heap.size w w' := by
  have HK : Hid (∀ s ∈ t.all, s.key.length ≤ 96 ∧ s.val.length ≤ 256 ∧ s.n ≤ 1000) := Lib.hid fun s hs => by
    obtain ⟨_, _, p, _, b, _, hN⟩ := ho
    exact ⟨nin_all hN s hs, nin_vals hN s hs, by have := n_all hs; omega⟩
  have HN := Lib.hid (nodes_any (G := G) (some t) g w ho (by show t.n ≤ _; omega))
  have HNO := Lib.hid hno
  have HT := Lib.hid ht
  have hal : t.all.length ≤ 1000 := by have := all_len t; omega
  clear ho hno ht
  rw [ptr_some] at HN ⊢
  go_enter Tryd.func29, Tryd.ntmps29
  go_wp2_with fail
  refine HN.out.mono ?_
  rintro e w1 hpo
  obtain ⟨A, c, rfl, hr, hc, _, hb1⟩ := hpo.nodes
  have hs1 := hb1.size
  obtain ⟨m, hm⟩ : ∃ m, t.all.length = m := ⟨_, rfl⟩
  change NRd w1 w1.heap.size A t.all.length t.all at hr
  change t.all.length ≤ c at hc
  have hoall : (oall (some t)).length = m := hm
  rw [hoall]
  rw [hm] at hr hal hc
  have HTX := Lib.hid (texts_any A m c t.all w1 hr HK.out (by omega) (tab0_below HT.out hb1 hw) (by omega))
  have HB1 := Lib.hid hb1
  clear hr hpo hb1 HN hm hoall
  go_wp2_with fail
  refine HTX.out.mono ?_
  rintro e w2 ⟨v, q, rfl, hO, hq, hb2⟩
  obtain ⟨A2, c2, rfl, hc2⟩ := hO.form
  have hs2 := hb2.size
  have HB2 := Lib.hid (HB1.out.trans (hb2.mono hs1))
  have HC := Lib.hid (clash_any A2 q c2 (texts t.all) w2 hO.rd (fun a ha => Nat.le_trans (texts_len (fun s hs => ⟨(HK.out s hs).1, (HK.out s hs).2.1⟩) a ha) (by omega)) (by omega) HNO.out (tab0_below HT.out HB2.out hw) (by omega))
  clear hO hb2 HTX HB1
  go_wp2_with fail
  refine HC.out.mono ?_
  rintro e w3 ⟨rfl, hb3⟩
  have HB3 := Lib.hid (HB2.out.trans (hb3.mono HB2.out.size))
  clear hb3 HC HB2
  go_wp2_with fail
  go_ret
  exact ⟨rfl, HB3.out⟩
end Go.Proofs.YtolkpjbbfopmnaaDoor
