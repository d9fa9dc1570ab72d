/-
  The statements' fixed facts (chapter 1's two examples) come out true: condition: the table holds its words. It only makes memory of its own.
  What the statement's function ShaCuts returns: true, whatever bytes and cuts come in; conditions: both slices are read, and the table holds its words. It only makes memory of its own.
  What the document's answer calls turn returns; the sum of bytes, block by block: no condition but the turn's range.
  Small facts for the walk of the document's answer Sum: words out of bytes by adding, a new row of 64 words, how memory stands while the text is padded and its blocks are mixed: no condition.
  Small facts for the statements' functions: parts handed over, rows of the call's own read as bytes, a table behind a call: no condition.
-/
import Derived.Test.YtolkpjbbfopmnaaDoorShaB
import Derived.Lib.SlBytesConst
import Derived.Stop.BytesEq
import Derived.Maps.AppendAt
import Derived.Deep.AppendLies
import Derived.Deep.QuietTactic
import Derived.BigQuiet
import Derived.Deep.CutBlock
namespace Go.Proofs.YtolkpjbbfopmnaaDoor.Sh
open Go.RowKit

theorem sum_abc : ((Sha.sum [97, 98, 99]).getD 0 0, (Sha.sum [97, 98, 99]).getD 1 0, (Sha.sum [97, 98, 99]).getD 3 0) = (186, 120, 191) := by decide +kernel
theorem sum_nil : ((Sha.sum []).getD 0 0, (Sha.sum []).getD 1 0) = (227, 176) := by decide +kernel
theorem sum_length (bs : List UInt8) : (Sha.sum bs).length = 32 := Sha.outTo_length _ _

/-- Three bytes in a block of their own, handed over as the one part. -/
theorem parts_abc (w : World) (t1 t2 : TypeId) (fr : Nat × Nat) : Parts ((w.alloc (.cells #[.int .u8 97, .int .u8 98, .int .u8 99] t1 fr)).alloc (.cells #[.slice (some ⟨w.heap.size, 0, none⟩) 3 3] t2)) (some ⟨w.heap.size + 1, 0, none⟩) 1 [[97, 98, 99]] := by
  refine ⟨rfl, fun _ => ⟨w.heap.size + 1, 0, rfl, by simp, fun j l hl => ?_⟩⟩
  have hj : j < 1 := (List.getElem?_eq_some_iff.1 hl).1
  obtain rfl : j = 0 := by omega
  simp at hl
  subst hl
  have h2 := Whole.made (w.alloc (.cells #[.int .u8 97, .int .u8 98, .int .u8 99] t1 fr)) t2 #[.slice (some ⟨w.heap.size, 0, none⟩) 3 3]
  rw [show (w.alloc (.cells #[.int .u8 97, .int .u8 98, .int .u8 99] t1 fr)).heap.size = w.heap.size + 1 by simp] at h2
  have h1 : ((w.alloc (.cells #[.int .u8 97, .int .u8 98, .int .u8 99] t1 fr)).alloc (.cells #[.slice (some ⟨w.heap.size, 0, none⟩) 3 3] t2)).heap[w.heap.size]? = some (.cells #[.int .u8 97, .int .u8 98, .int .u8 99] t1 fr) :=
    (Below.heap_alloc _ _ _ (by simp)).trans (heap_alloc_last w _)
  refine ⟨some ⟨w.heap.size, 0, none⟩, 3, 3, h2.at_ rfl, by omega, by omega, rfl, fun _ => ⟨w.heap.size, 0, rfl, (Array.getElem?_eq_some_iff.1 h1).1, fun i v hv => ?_⟩⟩
  rw [Nat.zero_add, cell_of_row _ _ i _ _ _ h1]
  have hi : i < 3 := (List.getElem?_eq_some_iff.1 hv).1
  match i, hi with
  | 0, _ => simp at hv; subst hv; rfl
  | 1, _ => simp at hv; subst hv; rfl
  | 2, _ => simp at hv; subst hv; rfl
theorem Whole.setAll {w : World} {g : Nat} {t : TypeId} {cs vs : Array Value} (h : Whole w g t cs) (hl : cs.size = vs.size) : Whole (w.setCells g 0 vs.toList) g t vs := by
  have h1 : Whole w g t ([] ++ (cs.toList ++ [])).toArray := by simpa using h
  have := Whole.setCells vs.toList [] cs.toList [] h1 (by simpa using hl)
  simpa using this
theorem Whole.setOther {w : World} {g b : Nat} {t : TypeId} {cs : Array Value} (h : Whole w g t cs) (hb : g ≠ b) : ∀ (vs : List Value) (o : Nat), Whole (w.setCells b o vs) g t cs := by
  intro vs
  induction vs generalizing w with
  | nil => intro o; exact h
  | cons v r ih => intro o; exact ih (h.other (p := ⟨b, o, none⟩) hb v) (o + 1)
/-- Two sums laid into two new variables. -/
theorem two_sums (w : World) (Z A B : Array Value) (hZ : Z.size = 32) (hA : A.size = 32) (hB : B.size = 32) :
    Whole ((((w.alloc (.cells Z 29)).alloc (.cells Z 29)).setCells w.heap.size 0 A.toList).setCells (w.heap.size + 1) 0 B.toList) w.heap.size 29 A ∧
    Whole ((((w.alloc (.cells Z 29)).alloc (.cells Z 29)).setCells w.heap.size 0 A.toList).setCells (w.heap.size + 1) 0 B.toList) (w.heap.size + 1) 29 B ∧
    Below w.heap.size w ((((w.alloc (.cells Z 29)).alloc (.cells Z 29)).setCells w.heap.size 0 A.toList).setCells (w.heap.size + 1) 0 B.toList) ∧
    ((w.alloc (.cells Z 29)).alloc (.cells Z 29)).there w.heap.size 0 A.size ∧ (((w.alloc (.cells Z 29)).alloc (.cells Z 29)).setCells w.heap.size 0 A.toList).there (w.heap.size + 1) 0 B.size := by
  have h1 : Whole ((w.alloc (.cells Z 29)).alloc (.cells Z 29)) w.heap.size 29 Z := (Whole.made w 29 Z).alloc _
  have h2 : Whole ((w.alloc (.cells Z 29)).alloc (.cells Z 29)) (w.heap.size + 1) 29 Z := by
    have := Whole.made (w.alloc (.cells Z 29)) 29 Z
    rwa [show (w.alloc (.cells Z 29)).heap.size = w.heap.size + 1 by simp] at this
  have h3 := h1.setAll (vs := A) (by omega)
  have h4 := h2.setOther (b := w.heap.size) (by omega) A.toList 0
  refine ⟨h3.setOther (by omega) _ _, h4.setAll (by omega), below_setCells _ _ _ _ (below_setCells _ _ _ _ (((Below.refl _ _).alloc (Nat.le_refl _) _).alloc (by simp) _) (Nat.le_refl _)) (by omega), ?_, ?_⟩
  · have := h1.there_; rwa [hZ, ← hA] at this
  · have := h4.there_; rwa [hZ, ← hB] at this
theorem parts_none (w : World) (A : Option Addr) : Parts w A 0 [] := ⟨rfl, fun h => absurd h (by omega)⟩

theorem sum_as (A : Option Addr) (n c : Nat) (ls : List (List UInt8)) (bs : List UInt8) (hbs : ls.flatten = bs) (w : World) (hP : Parts w A n ls) (hn : n ≤ 140737488355328) (ht : Tab w 1) (hw : 1 < w.heap.size) :
    Calls Tryd.prog 57 #[.slice A n c] w fun e w' => e = .returned (.agg (bcells (Sha.sum bs))) ∧ Below w.heap.size w w' := by
  subst hbs
  exact sum_any A n c ls w hP hn ht hw

end Go.Proofs.YtolkpjbbfopmnaaDoor.Sh
namespace Go.Proofs.YtolkpjbbfopmnaaDoor.Sh
open Go.RowKit

theorem info5 : (Tryd.prog.info? 5).map (fun i => (i.zero, i.size, i.bytes)) = some (some (.int .u8 0), 1, 1) := by kernel_rfl
theorem info22 : (Tryd.prog.info? 31).map (fun i => (i.zero, i.size, i.bytes)) = some (some (.slice none 0 0), 1, 24) := by kernel_rfl

theorem info_of {t : TypeId} {z : Value} {s b : Nat} (h : (Tryd.prog.info? t).map (fun i => (i.zero, i.size, i.bytes)) = some (some z, s, b)) :
    ∃ i, Tryd.prog.info? t = some i ∧ i.zero = some z ∧ i.size = s ∧ i.bytes = b := by
  cases hq : Tryd.prog.info? t with
  | none => simp [hq] at h
  | some i =>
    simp [hq] at h
    exact ⟨i, rfl, h.1, h.2.1, h.2.2⟩

/-- Bytes that are read, appended to a row of the call's own. -/
theorem wpList_append_reads {ops : Array Oper} {rest : List Oper} {o : Oper} {a : Act} {w : World} {Q : Exit → Act → World → Prop} (hgd : o.guard = none) (s x : Operand)
    (ho : o.op = .call { callee := .builtin .append, args := #[s, x], argTypes := #[31, 31] })
    (base : Nat) (v : Value) (n : Nat) (xs : List Value) (hs : a.eval s = v) (hown : w.ownsRow base 5 1 v n xs)
    (A : Option Addr) (m c : Nat) (bs : List UInt8) (hx : a.eval x = .slice A m c) (hr : Reads w A m bs)
    (hb : n + m ≤ 140737488355328) (hbase : base ≤ w.heap.size)
    (h : ∀ v' w', w'.ownsRow base 5 1 v' (n + m) (xs ++ bs.map V8) → w.grownBy w' v.ownBlock → (v'.ownBlock = v.ownBlock ∨ v'.ownBlock = some w.heap.size) → wpList Tryd.prog ops Q rest (a.put o.dst v') w') :
    wpList Tryd.prog ops Q (o :: rest) a w := by
  obtain ⟨i, hi, hz, hsz, hby⟩ := info_of info5
  cases A with
  | none =>
    have hm : m = 0 := by
      rcases Nat.eq_zero_or_pos m with h0 | h0
      · exact h0
      · obtain ⟨b, o, h1, _⟩ := hr.2 h0; cases h1
    subst hm
    have hbs : bs = [] := List.eq_nil_of_length_eq_zero hr.1
    subst hbs
    have hrun : (Builtin.append_ #[31, 31] o.type #[v, .slice none 0 c]).run Tryd.prog w = .ok v w := by
      rcases hown.2 with ⟨rfl, rfl⟩ | ⟨g, cap, cur, rfl, _, _, hnc, _⟩
      · simp [Builtin.append_, run_underlying Tryd.underlying31, sizeOf, typeInfo, hi, Builtin.lenOf, Builtin.firstCells]
      · simp [Builtin.append_, run_underlying Tryd.underlying31, sizeOf, typeInfo, hi, Builtin.lenOf, Builtin.firstCells, hnc, storeCells]
    refine wpList_plain hgd fun K hK => ?_
    unfold Oper.wp
    simp [execOp, ho, resolve, invoke, builtin, hs, hx, hrun, Result.andThen]
    refine hK _ _ (h v w ?_ (World.grownBy.refl w _) (.inl rfl))
    simpa using hown
  | some ad =>
    refine wpList_append_own_at w hgd s x 31 ho base 5 i (.int .u8 0) 1 1 Tryd.underlying31 hi hz hsz hby rfl (by omega) v n xs hs hown ad m c (bs.map V8) hx (by rw [List.length_map, hr.1, Nat.mul_one]) ?_ ?_ (by unfold maxLen; omega) (by omega) hbase
      (fun v' w' h1 h2 _ h4 => h v' w' h1 h2 h4)
    · intro j u hu
      rw [List.getElem?_map, Option.map_eq_some_iff] at hu
      obtain ⟨y, hy, rfl⟩ := hu
      have hm : 0 < m := by have := (List.getElem?_eq_some_iff.1 hy).1; rw [hr.1] at this; omega
      obtain ⟨b, o, h1, _, h3⟩ := hr.2 hm
      obtain rfl := Option.some.inj h1
      rw [Addr.add_mid]
      exact h3 j y hy
    · intro u hu
      simp only [List.mem_map] at hu
      obtain ⟨y, _, rfl⟩ := hu
      rfl

theorem reads_new (w : World) (t : TypeId) (bs : List UInt8) (m : Nat) (hm : bs.length = m) : Reads (w.alloc (.cells (bs.map V8).toArray t)) (some ⟨w.heap.size, 0, none⟩) m bs :=
  ⟨hm, fun _ => ⟨w.heap.size, 0, rfl, by simp, fun j v hv => (Whole.made w t _).at_ (by rw [Nat.zero_add, List.getElem?_toArray, List.getElem?_map, hv]; rfl)⟩⟩

/-- A stretch of a row of bytes, read as a slice. -/
def Row (w : World) (g : Nat) (bs : List UInt8) : Prop := g < w.heap.size ∧ ∀ j v, bs[j]? = some v → w.cell? ⟨g, j, none⟩ = some (V8 v)
theorem Row.below {w w' : World} {g : Nat} {bs : List UInt8} (h : Row w g bs) (hb : Below w.heap.size w w') : Row w' g bs :=
  ⟨Nat.lt_of_lt_of_le h.1 hb.size, fun j v hv => by rw [hb.cell (p := ⟨g, j, none⟩) h.1]; exact h.2 j v hv⟩
theorem Row.reads {w : World} {g : Nat} {bs : List UInt8} (h : Row w g bs) (o m : Nat) (hm : o + m ≤ bs.length) : Reads w (some ⟨g, o, none⟩) m ((bs.drop o).take m) :=
  ⟨by rw [List.length_take, List.length_drop]; omega, fun _ => ⟨g, o, rfl, h.1, fun j v hv => by
    refine h.2 (o + j) v ?_
    rw [List.getElem?_take] at hv
    split at hv
    · rwa [List.getElem?_drop] at hv
    · cases hv⟩⟩
theorem row_of_take {w : World} {g : Nat} {cur : Array Value} {t : TypeId} {l : List UInt8} {k : Nat} (h : w.heap[g]? = some (.cells cur t (0, 0))) (ht : cur.toList.take k = l.map V8) : Row w g l :=
  ⟨(Array.getElem?_eq_some_iff.1 h).1, fun j v hv => by
    rw [cell_of_row w g j cur t (0, 0) h]
    have h1 : (cur.toList.take k)[j]? = some (V8 v) := by rw [ht, List.getElem?_map, hv]; rfl
    rw [List.getElem?_take] at h1
    split at h1
    · simpa using h1
    · cases h1⟩

/-- The value x is a slice that reads as the bytes l. -/
def SP (w : World) (x : Value) (l : List UInt8) : Prop := ∃ A n c, x = .slice A n c ∧ n ≤ c ∧ n ≤ 140737488355328 ∧ Reads w A n l

/-- How it stands behind k cuts: o bytes are cut off; the parts ls, as the values xs, lie in a row of the call's own. -/
structure CRel (w4 : World) (bs : List UInt8) (k o : Nat) (vp : Value) (xs : List Value) (ls : List (List UInt8)) (wx : World) : Prop where
  own : wx.ownsRow w4.heap.size 31 1 vp k xs
  len : ls.length = k
  all : ls.flatten = bs.take o
  each : ∀ (j : Nat) x l, xs[j]? = some x → ls[j]? = some l → SP w4 x l
  bel : Below w4.heap.size w4 wx
  out : o ≤ bs.length

def CutsRel (w4 : World) (bs : List UInt8) (g n cap n2 : Nat) (parts rest idx : Value) (wx : World) : Prop :=
  ∃ k o xs ls, k ≤ n2 ∧ idx = .int .i64 k ∧ rest = .slice (some ⟨g, o, none⟩) (n - o) (cap - o) ∧ CRel w4 bs k o parts xs ls wx

theorem crel_step {w4 wr w5 : World} {bs : List UInt8} {k o g m cap : Nat} {vp v5 : Value} {xs : List Value} {ls : List (List UInt8)} (h : CRel w4 bs k o vp xs ls wr) (tl : List UInt8) (hrow : Row w4 g (bs ++ tl))
    (hm : o + m ≤ bs.length) (hb : bs.length ≤ 1000) (hcap : bs.length ≤ cap) (t : TypeId)
    (h5 : w5.ownsRow w4.heap.size 31 1 v5 (k + 1) (xs ++ [.slice (some ⟨g, o, none⟩) m (cap - o)])) (hg : (wr.alloc (.cells #[.slice (some ⟨g, o, none⟩) m (cap - o)] t)).grownBy w5 vp.ownBlock) :
    CRel w4 bs (k + 1) (o + m) v5 (xs ++ [.slice (some ⟨g, o, none⟩) m (cap - o)]) (ls ++ [(bs.drop o).take m]) w5 := by
  have hxl : xs.length = k := by simpa using h.own.1
  refine ⟨h5, by rw [List.length_append, h.len]; rfl, ?_, ?_, ?_, hm⟩
  · rw [List.flatten_append, h.all]
    simp only [List.flatten_cons, List.flatten_nil, List.append_nil]
    rw [List.take_add]
  · intro j x l hx hl
    by_cases hj : j < k
    · rw [List.getElem?_append_left (by omega)] at hx
      rw [List.getElem?_append_left (by rw [h.len]; exact hj)] at hl
      exact h.each j x l hx hl
    · rw [List.getElem?_append_right (by omega), hxl] at hx
      rw [List.getElem?_append_right (by rw [h.len]; omega), h.len] at hl
      have h0 : j - k < 1 := (List.getElem?_eq_some_iff.1 hx).1
      have h0' : j - k = 0 := by omega
      rw [h0'] at hx hl
      simp at hx hl
      subst hx hl
      refine ⟨_, _, _, rfl, by omega, by omega, ?_⟩
      have := hrow.reads o m (by rw [List.length_append]; omega)
      rwa [List.drop_append_of_le_length (by omega), List.take_append_of_le_length (by rw [List.length_drop]; omega)] at this
  · exact (h.bel.alloc h.bel.size _).grown hg (by have := h.bel.size; simp; omega) (fun i hi => (h.own.lt i hi).1)

theorem crel_parts {w4 wx : World} {bs : List UInt8} {k o : Nat} {A : Option Addr} {c : Nat} {xs : List Value} {ls : List (List UInt8)} (h : CRel w4 bs k o (.slice A k c) xs ls wx) : Parts wx A k ls := by
  have hxl : xs.length = k := by simpa using h.own.1
  refine ⟨h.len, fun hk => ?_⟩
  obtain ⟨g, cap, hv, _, hlt⟩ := h.own.form hk
  have hA : A = some ⟨g, 0, none⟩ := by injection hv
  subst hA
  refine ⟨g, 0, rfl, hlt, fun j l hl => ?_⟩
  have hj : j < xs.length := by rw [hxl, ← h.len]; exact (List.getElem?_eq_some_iff.1 hl).1
  obtain ⟨A', n', c', hx, h1, h2, h3⟩ := h.each j xs[j] l (List.getElem?_eq_getElem hj) hl
  refine ⟨A', n', c', ?_, h1, h2, h3.below h.bel⟩
  have := h.own.cells (g := g) rfl j xs[j] (List.getElem?_eq_getElem hj)
  rw [Addr.add_mid] at this
  rw [this, hx]
theorem parts_one (w : World) (t : TypeId) (A : Option Addr) (n c : Nat) (bs : List UInt8) (hr : Reads w A n bs) (hnc : n ≤ c) (hn : n ≤ 140737488355328) :
    Parts (w.alloc (.cells #[.slice A n c] t)) (some ⟨w.heap.size, 0, none⟩) 1 [bs] := by
  refine ⟨rfl, fun _ => ⟨w.heap.size, 0, rfl, by simp, fun j l hl => ?_⟩⟩
  have hj : j < 1 := (List.getElem?_eq_some_iff.1 hl).1
  obtain rfl : j = 0 := by omega
  simp at hl
  subst hl
  exact ⟨A, n, c, (Whole.made w t _).at_ rfl, hnc, hn, hr.below ((Below.refl _ _).alloc (Nat.le_refl _) _)⟩

theorem run_eq25 (a b : List UInt8) (w : World) : (Op.equalIn 10000 29 (.agg (bcells (Sha.sum a))) (.agg (bcells (Sha.sum b)))).run Tryd.prog w = .ok (Sha.sum a == Sha.sum b) w :=
  run_equalIn_bytes w 9998 29 5 32 Tryd.underlying29 Tryd.underlying5 (fun w => by
    obtain ⟨i, hi, _, hs, _⟩ := info_of info5
    simp [sizeOf, typeInfo, hi, hs]) _ _ (sum_length a) (sum_length b)
/-- string(b) of bytes that are read. -/
theorem run_string (w : World) (A : Option Addr) (n c : Nat) (bs : List UInt8) (hr : Reads w A n bs) : (convert 31 9 (.slice A n c)).run Tryd.prog w = .ok (.string ⟨bs.toArray⟩) w := by
  obtain ⟨hn, hall⟩ := hr
  subst hn
  cases A with
  | none =>
    have hbs : bs = [] := by
      rcases Nat.eq_zero_or_pos bs.length with h0 | h0
      · exact List.eq_nil_of_length_eq_zero h0
      · obtain ⟨b, o, h1, _⟩ := hall h0; cases h1
    subst hbs
    rw [run_convert_bytes_string w 31 9 5 none _ _ Tryd.underlying31 Tryd.underlying5 Tryd.underlying9]
    rfl
  | some ad =>
    refine run_convert_bytes_back w 31 9 5 ad c bs Tryd.underlying31 Tryd.underlying5 Tryd.underlying9 fun j hj => ?_
    obtain ⟨b, o, h1, _, h3⟩ := hall (by omega)
    obtain rfl := Option.some.inj h1
    rw [Addr.add_mid]
    exact h3 j _ (List.getElem?_eq_getElem hj)

end Go.Proofs.YtolkpjbbfopmnaaDoor.Sh
namespace Go.Proofs.YtolkpjbbfopmnaaDoor.Sh
open Go.RowKit
theorem or_comm32 (x y : UInt32) : x ||| y = y ||| x := by
  apply UInt32.eq_of_toBitVec_eq
  simp only [UInt32.toBitVec_or]
  exact BitVec.or_comm _ _

set_option maxHeartbeats 400000 in
theorem turn_any (x : UInt32) (i : Nat) (m : Int) (hm : m = (i : Int)) (h1 : 1 ≤ i) (h2 : i ≤ 31) (w : World) :
    Calls Tryd.prog 88 #[.int .u32 x.toNat, .int .i64 m] w fun e w' => e = .returned (.int .u32 (Sha.rotr x i).toNat) ∧ w' = w.drew := by
  subst hm
  have HE : Hid (bits .or .u32 ((x.toNat : Int) / 2 ^ i) (IntKind.u32.wrap ((x.toNat : Int) * 2 ^ (32 - i))) = ((Sha.rotr x i).toNat : Int)) := Lib.hid (by
    rw [Sha.wshl_u32 x (32 - i) (by omega), Sha.shr_u32 x i (by omega), Sha.or_u32, Sha.rotr, or_comm32])
  have q : IntKind.i64.wrap (32 - (i : Int)) = 32 - (i : Int) := IntWalk.i64_in _ (by omega)
  have z0 : 0 ≤ 32 - (i : Int) := by omega
  have z1 : 32 - (i : Int) ≤ 32 := by omega
  have t1 : (32 - (i : Int)).toNat = 32 - i := by omega
  have i32 : (i : Int) ≤ 32 := by omega
  go_enter Tryd.func88, Tryd.ntmps88
  go_upto_region 1 with (fail)
  go_still (by kernel_rfl)
  change Exit.then _ _ _ _ w.drew
  go_wp2
  go_ret
  exact ⟨ret_int HE.out, rfl⟩

theorem turn_q (x : UInt32) (i : Nat) (h : 1 ≤ i ∧ i ≤ 31) (w : World) :
    Calls Tryd.prog 88 #[.int .u32 x.toNat, .int .i64 i] w fun e w' => e = .returned (.int .u32 (Sha.rotr x i).toNat) ∧ ∃ m, w' = w.drewN m :=
  (turn_any x i i rfl h.1 h.2 w).mono fun _ _ ⟨h1, h2⟩ => ⟨h1, 1, h2⟩

namespace Sha
/-- The words behind k blocks. -/
def run (msg : List UInt8) : Nat → St
  | 0 => init
  | k + 1 => mix (run msg k) ((msg.drop (64 * k)).take 64)
theorem run_pushAll (msg : List UInt8) (k : Nat) (h : 64 * k ≤ msg.length) : ∃ B : List UInt8, B.length = 64 ∧ dg0.pushAll (msg.take (64 * k)) = ⟨run msg k, B, 0, 0⟩ := by
  induction k with
  | zero => exact ⟨List.replicate 64 0, rfl, rfl⟩
  | succ k ih =>
    obtain ⟨B, hB, hp⟩ := ih (by omega)
    have hl : ((msg.drop (64 * k)).take 64).length = 64 := by rw [List.length_take, List.length_drop]; omega
    have e : msg.take (64 * (k + 1)) = msg.take (64 * k) ++ (msg.drop (64 * k)).take 64 := by
      rw [show 64 * (k + 1) = 64 * k + 64 by omega, List.take_add]
    refine ⟨(msg.drop (64 * k)).take 64, hl, ?_⟩
    rw [e, Dg.pushAll_append, hp, pushAll_full _ _ hB (by intro h0; rw [h0] at hl; simp at hl) (by show 0 + _ = 64; rw [hl])]
    have e2 : lay B 0 ((msg.drop (64 * k)).take 64) = (msg.drop (64 * k)).take 64 := by
      unfold lay
      rw [hl, List.take_zero, List.nil_append, show B.drop (0 + 64) = [] from List.drop_of_length_le (by omega), List.append_nil]
    show (⟨mix (run msg k) (lay B 0 ((msg.drop (64 * k)).take 64)), lay B 0 ((msg.drop (64 * k)).take 64), 0, 0⟩ : Dg) = _
    rw [e2]
    rfl
def padded (bs : List UInt8) : List UInt8 := bs ++ padding bs.length (UInt64.ofNat bs.length * 8)
theorem be8_length (L : UInt64) : (be8 L).length = 8 := by simp [be8]
theorem padded_length (bs : List UInt8) : (padded bs).length = bs.length + 1 + zeros bs.length + 8 := by
  unfold padded padding
  simp only [List.length_append, List.length_cons, List.length_replicate, be8_length]
  omega
theorem padded_blocks (bs : List UInt8) : (padded bs).length = 64 * ((padded bs).length / 64) := by
  rw [padded_length]
  unfold zeros
  omega
theorem sum_run (bs : List UInt8) : sum bs = out (run (padded bs) ((padded bs).length / 64)) := by
  obtain ⟨B, _, h⟩ := run_pushAll (padded bs) ((padded bs).length / 64) (by have := padded_blocks bs; omega)
  rw [← padded_blocks, List.take_of_length_le (Nat.le_refl _)] at h
  unfold sum
  show out (dg0.pushAll (padded bs)).s = _
  rw [h]
end Sha
end Go.Proofs.YtolkpjbbfopmnaaDoor.Sh
namespace Go.Proofs.YtolkpjbbfopmnaaDoor.Sh
open Go.RowKit
theorem info34 : (Tryd.prog.info? 140).map (fun i => (i.zero, i.size, i.bytes)) = some (some (.int .u32 0), 1, 4) := by kernel_rfl
def z64 : List UInt32 := List.replicate 64 0
theorem run_make64 (w : World) : (Instr.makeSlice 153 (.int .i64 64) (.int .i64 64)).run Tryd.prog w = .ok (.slice (some ⟨w.heap.size, 0, none⟩) 64 64) (w.alloc (.cells (wcells z64) 140)) := by
  obtain ⟨i, hi, hz, hs, hb⟩ := info_of info34
  have hr := run_make (P := Tryd.prog) w 153 140 i (.int .u32 0) Tryd.underlying153 hi hz .i64 .i64 64 64 (by omega) (by omega) (by rw [hb]; decide) (by omega)
  rw [hs] at hr
  rw [show wcells z64 = madeCells (Value.cells (.int .u32 0)) ((64 : Int).toNat * 1) from by kernel_rfl]
  exact hr
namespace Sha
theorem mkWord_toNat (b0 b1 b2 b3 : UInt8) : (mkWord b0 b1 b2 b3).toNat = b0.toNat * 16777216 + b1.toNat * 65536 + b2.toNat * 256 + b3.toNat := by
  have h0 := b0.toNat_lt
  have h1 := b1.toNat_lt
  have h2 := b2.toNat_lt
  have h3 := b3.toNat_lt
  have e0 : (b0.toUInt32 <<< 24).toNat = b0.toNat * 2 ^ 24 := by
    rw [UInt32.toNat_shiftLeft, UInt8.toNat_toUInt32]
    show b0.toNat <<< 24 % 4294967296 = _
    rw [Nat.shiftLeft_eq]
    exact Nat.mod_eq_of_lt (by omega)
  have e1 : (b1.toUInt32 <<< 16).toNat = b1.toNat * 2 ^ 16 := by
    rw [UInt32.toNat_shiftLeft, UInt8.toNat_toUInt32]
    show b1.toNat <<< 16 % 4294967296 = _
    rw [Nat.shiftLeft_eq]
    exact Nat.mod_eq_of_lt (by omega)
  have e2 : (b2.toUInt32 <<< 8).toNat = b2.toNat * 2 ^ 8 := by
    rw [UInt32.toNat_shiftLeft, UInt8.toNat_toUInt32]
    show b2.toNat <<< 8 % 4294967296 = _
    rw [Nat.shiftLeft_eq]
    exact Nat.mod_eq_of_lt (by omega)
  unfold mkWord
  rw [UInt32.toNat_or, UInt32.toNat_or, UInt32.toNat_or, e0, e1, e2, UInt8.toNat_toUInt32]
  have s1 : b0.toNat * 2 ^ 24 ||| b1.toNat * 2 ^ 16 = b0.toNat * 2 ^ 24 + b1.toNat * 2 ^ 16 := by
    rw [Nat.mul_comm b0.toNat]
    exact (Nat.two_pow_add_eq_or_of_lt (i := 24) (b := b1.toNat * 2 ^ 16) (by omega) b0.toNat).symm
  rw [s1]
  have s2 : (b0.toNat * 2 ^ 24 + b1.toNat * 2 ^ 16) ||| b2.toNat * 2 ^ 8 = (b0.toNat * 2 ^ 24 + b1.toNat * 2 ^ 16) + b2.toNat * 2 ^ 8 := by
    rw [show b0.toNat * 2 ^ 24 + b1.toNat * 2 ^ 16 = 2 ^ 16 * (b0.toNat * 256 + b1.toNat) by omega]
    exact (Nat.two_pow_add_eq_or_of_lt (i := 16) (b := b2.toNat * 2 ^ 8) (by omega) _).symm
  rw [s2]
  have s3 : (b0.toNat * 2 ^ 24 + b1.toNat * 2 ^ 16 + b2.toNat * 2 ^ 8) ||| b3.toNat = (b0.toNat * 2 ^ 24 + b1.toNat * 2 ^ 16 + b2.toNat * 2 ^ 8) + b3.toNat := by
    rw [show b0.toNat * 2 ^ 24 + b1.toNat * 2 ^ 16 + b2.toNat * 2 ^ 8 = 2 ^ 8 * (b0.toNat * 65536 + b1.toNat * 256 + b2.toNat) by omega]
    exact (Nat.two_pow_add_eq_or_of_lt (i := 8) (b := b3.toNat) (by omega) _).symm
  rw [s3]
theorem word_plus (b0 b1 b2 b3 : UInt8) : IntKind.u32.wrap (IntKind.u32.wrap (IntKind.u32.wrap (IntKind.u32.wrap (IntKind.u32.wrap (b0.toNat : Int) * 16777216) + IntKind.u32.wrap (IntKind.u32.wrap (b1.toNat : Int) * 65536)) + IntKind.u32.wrap (IntKind.u32.wrap (b2.toNat : Int) * 256)) + IntKind.u32.wrap (b3.toNat : Int)) = ((mkWord b0 b1 b2 b3).toNat : Int) := by
  have h0 := b0.toNat_lt
  have h1 := b1.toNat_lt
  have h2 := b2.toNat_lt
  have h3 := b3.toNat_lt
  rw [mkWord_toNat]
  simp only [IntKind.wrap_u32']
  omega
theorem sum5 (a b c d e : UInt32) : (((a.toNat : Int) + (b.toNat : Int) + (c.toNat : Int) + (d.toNat : Int)) % (4294967296 : Int) + (e.toNat : Int)) % (4294967296 : Int) = ((a + b + c + d + e).toNat : Int) := by
  simp only [UInt32.toNat_add]
  omega
theorem shr3 (x : UInt32) : (x.toNat : Int) / (8 : Int) = ((x >>> 3).toNat : Int) := shr_u32 x 3 (by omega)
theorem shr10 (x : UInt32) : (x.toNat : Int) / (1024 : Int) = ((x >>> 10).toNat : Int) := shr_u32 x 10 (by omega)
end Sha

/-- How it stands while the text is padded: the text so far, in a row of the call's own. -/
structure RPad (w : World) (v : Value) (l : List UInt8) (wx : World) : Prop where
  own : wx.ownsRow w.heap.size 5 1 v l.length (l.map V8)
  res : Whole wx w.heap.size 29 (bcells (List.replicate 32 0))
  bel : Below w.heap.size w wx
  apart : ∀ k, v.ownBlock = some k → w.heap.size < k

theorem rpad_step {w wx w' : World} {v v' : Value} {l : List UInt8} {b : UInt8} (h : RPad w v l wx) (t : TypeId)
    (h1 : w'.ownsRow w.heap.size 5 1 v' (l.length + 1) (l.map V8 ++ [b].map V8)) (h2 : (wx.alloc (.cells #[.int .u8 (b.toNat : Int)] t)).grownBy w' v.ownBlock) (h3 : v'.ownBlock = v.ownBlock ∨ v'.ownBlock = some (wx.alloc (.cells #[.int .u8 (b.toNat : Int)] t)).heap.size) :
    RPad w v' (l ++ [b]) w' := by
  have hs := h.bel.size
  refine ⟨by rw [List.length_append, List.map_append]; exact h1, ?_, (h.bel.alloc hs _).grown h2 (by simp; omega) (fun k hk => (h.own.lt k hk).1), ?_⟩
  · have h4 : Whole (wx.alloc (.cells #[.int .u8 (b.toNat : Int)] t)) w.heap.size 29 (bcells (List.replicate 32 0)) := h.res.alloc _
    exact (h2.block _ h4.lt (fun e => by have := h.apart _ e.symm; omega)).trans h4
  · intro k hk
    rcases h3 with h3 | h3
    · exact h.apart k (by rw [← h3, hk])
    · rw [hk] at h3
      injection h3 with h3
      have := h.res.lt
      rw [h3]; simp; omega

theorem own_empty (w : World) (Z : Array Value) : ((w.alloc (.cells Z 29)).alloc (.cells #[] 5)).ownsRow w.heap.size 5 1 (.slice (some ⟨w.heap.size + 1, 0, none⟩) 0 0) 0 [] := by
  have := World.ownsRow_lit (base := w.heap.size) (size := 1) (e := 5) (w.alloc (.cells Z 29)) #[] 0 (by simp) (by unfold maxLen; omega) rfl
  rw [show (w.alloc (.cells Z 29)).heap.size = w.heap.size + 1 by simp] at this
  exact this
theorem rpad_first {w w' : World} {v' : Value} {l : List UInt8} (Z : Array Value) (hZ : Z = bcells (List.replicate 32 0)) (n : Nat) (hn : l.length = n)
    (h1 : w'.ownsRow w.heap.size 5 1 v' (0 + n) ([] ++ l.map V8)) (h2 : ((w.alloc (.cells Z 29)).alloc (.cells #[] 5)).grownBy w' (Value.ownBlock (.slice (some ⟨w.heap.size + 1, 0, none⟩) 0 0)))
    (h3 : v'.ownBlock = Value.ownBlock (.slice (some ⟨w.heap.size + 1, 0, none⟩) 0 0) ∨ v'.ownBlock = some ((w.alloc (.cells Z 29)).alloc (.cells #[] 5)).heap.size) : RPad w v' l w' := by
  subst hZ hn
  have hb : Below w.heap.size w ((w.alloc (.cells (bcells (List.replicate 32 0)) 29)).alloc (.cells #[] 5)) := ((Below.refl _ _).alloc (Nat.le_refl _) _).alloc (by simp) _
  have hr : Whole ((w.alloc (.cells (bcells (List.replicate 32 0)) 29)).alloc (.cells #[] 5)) w.heap.size 29 (bcells (List.replicate 32 0)) := (Whole.made _ _ _).alloc _
  refine ⟨by rw [Nat.zero_add, List.nil_append] at h1; exact h1, (h2.block _ hr.lt (fun e => by simp only [Value.ownBlock, Option.some.injEq] at e; omega)).trans hr, hb.grown h2 (by simp; omega) (fun k hk => by simp only [Value.ownBlock, Option.some.injEq] at hk; omega), ?_⟩
  intro k hk
  rcases h3 with h3 | h3
  · rw [hk] at h3; simp only [Value.ownBlock, Option.some.injEq] at h3; omega
  · rw [hk] at h3; injection h3 with h3; rw [h3]; simp; omega

/-- How it stands behind k blocks: the eight words in block gh, the padded text in block gm. -/
structure BRel (w : World) (msg : List UInt8) (gm gh : Nat) (s : Sha.St) (wx : World) : Prop where
  words : Whole wx gh 140 (wcells s.list)
  text : Row wx gm msg
  res : Whole wx w.heap.size 29 (bcells (List.replicate 32 0))
  bel : Below w.heap.size w wx
  tab : Tab wx 0
  hgm : w.heap.size < gm
  hgh : w.heap.size < gh
  ne : gm ≠ gh
theorem BRel.below {w : World} {msg : List UInt8} {gm gh : Nat} {s : Sha.St} {wx w' : World} (h : BRel w msg gm gh s wx) (hb : Below wx.heap.size wx w') (hw : 1 < w.heap.size) : BRel w msg gm gh s w' :=
  ⟨h.words.below hb h.words.lt, h.text.below hb, h.res.below hb h.res.lt, h.bel.trans (hb.mono h.bel.size), fun j hj => by rw [hb.cell (p := ⟨0, j, none⟩) (by have := h.bel.size; show 0 < _; omega)]; exact h.tab j hj, h.hgm, h.hgh, h.ne⟩
theorem BRel.drew {w : World} {msg : List UInt8} {gm gh : Nat} {s : Sha.St} {wx : World} (h : BRel w msg gm gh s wx) : BRel w msg gm gh s wx.drew :=
  ⟨h.words, h.text, h.res, h.bel.drew, h.tab, h.hgm, h.hgh, h.ne⟩
theorem brel_start {w wr : World} {msg : List UInt8} {gm : Nat} (Z : Array Value) (hZ : Z = wcells Sha.init.list) (hrow : Row wr gm msg) (hres : Whole wr w.heap.size 29 (bcells (List.replicate 32 0))) (hbel : Below w.heap.size w wr) (ht : Tab w 0) (hgm : w.heap.size < gm) (hw : 1 < w.heap.size) :
    BRel w msg gm wr.heap.size Sha.init (wr.alloc (.cells Z 140)) := by
  subst hZ
  have hb : Below w.heap.size w (wr.alloc (.cells (wcells Sha.init.list) 140)) := hbel.alloc hbel.size _
  exact ⟨Whole.made _ _ _, hrow.below ((Below.refl _ _).alloc (Nat.le_refl _) _), hres.alloc _, hb, fun j hj => by rw [hb.cell (p := ⟨0, j, none⟩) (by show 0 < _; omega)]; exact ht j hj, hgm, hres.lt, fun e => by have := hrow.1; omega⟩


/-- The words of a block, being filled in block gw. -/
structure WRel (w : World) (msg : List UInt8) (gm gh : Nat) (s : Sha.St) (gw : Nat) (l : List UInt32) (wx : World) : Prop where
  base : BRel w msg gm gh s wx
  sch : Whole wx gw 140 (wcells l)
  hgw : w.heap.size < gw
  nem : gm ≠ gw
  neh : gh ≠ gw
theorem WRel.drew {w : World} {msg : List UInt8} {gm gh : Nat} {s : Sha.St} {gw : Nat} {l : List UInt32} {wx : World} (h : WRel w msg gm gh s gw l wx) : WRel w msg gm gh s gw l wx.drew :=
  ⟨h.base.drew, h.sch, h.hgw, h.nem, h.neh⟩
theorem WRel.drewN {w : World} {msg : List UInt8} {gm gh : Nat} {s : Sha.St} {gw : Nat} {l : List UInt32} {wx : World} (h : WRel w msg gm gh s gw l wx) (n : Nat) : WRel w msg gm gh s gw l (wx.drewN n) :=
  ⟨⟨h.base.words, h.base.text, h.base.res, ⟨h.base.bel.os, h.base.bel.tape, h.base.bel.output, h.base.bel.size, h.base.bel.block⟩, h.base.tab, h.base.hgm, h.base.hgh, h.base.ne⟩, h.sch, h.hgw, h.nem, h.neh⟩
theorem Row.other {w : World} {g : Nat} {bs : List UInt8} (h : Row w g bs) {p : Addr} (hp : g ≠ p.block) (u : Value) : Row (w.setCell p u) g bs :=
  ⟨by simpa using h.1, fun j v hv => by
    rw [World.cell?_setCell_other _ _ _ _ (fun e => hp (by rw [e]))]
    exact h.2 j v hv⟩
theorem tab_other {w : World} (h : Tab w 0) {p : Addr} (hp : 0 ≠ p.block) (u : Value) : Tab (w.setCell p u) 0 := fun j hj => by
  rw [World.cell?_setCell_other _ _ _ _ (fun e => hp (by rw [e]))]
  exact h j hj
theorem BRel.other {w : World} {msg : List UInt8} {gm gh : Nat} {s : Sha.St} {wx : World} (h : BRel w msg gm gh s wx) {p : Addr} (h1 : gm ≠ p.block) (h2 : gh ≠ p.block) (h3 : w.heap.size < p.block) (u : Value) : BRel w msg gm gh s (wx.setCell p u) :=
  ⟨h.words.other h2 u, h.text.other h1 u, h.res.other (by omega) u, h.bel.setCell (by omega) u, tab_other h.tab (by omega) u, h.hgm, h.hgh, h.ne⟩
theorem wrel_start {w : World} {msg : List UInt8} {gm gh : Nat} {s : Sha.St} {wx : World} (h : BRel w msg gm gh s wx) (l : List UInt32) (hw : 1 < w.heap.size) :
    WRel w msg gm gh s wx.heap.size l (wx.alloc (.cells (wcells l) 140)) :=
  ⟨h.below ((Below.refl _ _).alloc (Nat.le_refl _) _) hw, Whole.made _ _ _, h.res.lt, fun e => by have := h.text.1; omega, fun e => by have := h.words.lt; omega⟩
theorem wrel_step {w : World} {msg : List UInt8} {gm gh : Nat} {s : Sha.St} {gw : Nat} {l : List UInt32} {wx : World} (h : WRel w msg gm gh s gw l wx) (i : Nat) (x : UInt32) :
    WRel w msg gm gh s gw (l.set i x) (wx.setCell ⟨gw, i, none⟩ (.int .u32 x.toNat)) :=
  ⟨h.base.other h.nem h.neh h.hgw _, by have := h.sch.set i (.int .u32 x.toNat); rwa [wcells_set] at this, h.hgw, h.nem, h.neh⟩
theorem fill_step (b : List UInt8) (k : Nat) (x : UInt32) (hx : x = if k < 16 then Sha.word b k else Sha.nextW (Sha.fill b k) k) : (Sha.fill b k).set k x = Sha.fill b (k + 1) := by rw [hx]; rfl
/-- While what was mixed is added: the words so far in block gh, what is added in block gl. -/
structure SRel7 (w : World) (msg : List UInt8) (gm gh gl : Nat) (l r : List UInt32) (wx : World) : Prop where
  words : Whole wx gh 140 (wcells l)
  add : Whole wx gl 140 (wcells r)
  text : Row wx gm msg
  res : Whole wx w.heap.size 29 (bcells (List.replicate 32 0))
  bel : Below w.heap.size w wx
  tab : Tab wx 0
  hgm : w.heap.size < gm
  hgh : w.heap.size < gh
  ne : gm ≠ gh
  nel : gl ≠ gh
theorem SRel7.drew {w : World} {msg : List UInt8} {gm gh gl : Nat} {l r : List UInt32} {wx : World} (h : SRel7 w msg gm gh gl l r wx) : SRel7 w msg gm gh gl l r wx.drew :=
  ⟨h.words, h.add, h.text, h.res, h.bel.drew, h.tab, h.hgm, h.hgh, h.ne, h.nel⟩
theorem srel_start7 {w : World} {msg : List UInt8} {gm gh : Nat} {s : Sha.St} {gw : Nat} {l : List UInt32} {wx : World} (h : WRel w msg gm gh s gw l wx) (r : List UInt32) (hw : 1 < w.heap.size) :
    SRel7 w msg gm gh wx.heap.size s.list r (wx.alloc (.cells (wcells r) 140)) := by
  have h1 := h.base.below ((Below.refl _ wx).alloc (Nat.le_refl _) (.cells (wcells r) 140)) hw
  exact ⟨h1.words, Whole.made _ _ _, h1.text, h1.res, h1.bel, h1.tab, h1.hgm, h1.hgh, h1.ne, fun e => by have := h.base.words.lt; omega⟩
theorem srel_step7 {w : World} {msg : List UInt8} {gm gh gl : Nat} {l r : List UInt32} {wx : World} (i : Nat) (h : SRel7 w msg gm gh gl (Sha.acc l r i) r wx) :
    SRel7 w msg gm gh gl (Sha.acc l r (i + 1)) r (wx.setCell ⟨gh, i, none⟩ (.int .u32 ((Sha.acc l r i).getD i 0 + r.getD i 0).toNat)) := by
  have hgh := h.hgh
  refine ⟨?_, h.add.other h.nel _, h.text.other h.ne _, h.res.other (by show _ ≠ gh; omega) _, h.bel.setCell (by show _ ≤ gh; omega) _, tab_other h.tab (by show 0 ≠ gh; omega) _, h.hgm, h.hgh, h.ne, h.nel⟩
  have := h.words.set i (.int .u32 ((Sha.acc l r i).getD i 0 + r.getD i 0).toNat)
  rwa [wcells_set] at this
theorem srel_end7 {w : World} {msg : List UInt8} {gm gh gl : Nat} {s r : Sha.St} {wx : World} (h : SRel7 w msg gm gh gl (Sha.acc s.list r.list 8) r.list wx) : BRel w msg gm gh (Sha.addSt s r) wx :=
  ⟨h.words, h.text, h.res, h.bel, h.tab, h.hgm, h.hgh, h.ne⟩
namespace Sha
def byteAt (x : UInt32) (m : Nat) : UInt8 := (x >>> UInt32.ofNat (24 - 8 * m)).toUInt8
def outR (l : List UInt32) : Nat → List UInt8
  | 0 => List.replicate 32 0
  | j + 1 => (outR l j).set j (byteAt (l.getD (j / 4) 0) (j % 4))
theorem outR_length (l : List UInt32) (j : Nat) : (outR l j).length = 32 := by
  induction j with
  | zero => rfl
  | succ j ih => simp [outR, ih]
theorem byteAt_spell (x : UInt32) (m : Nat) (h : m < 4) : IntKind.u8.wrap ((x.toNat : Int) / 2 ^ (24 - 8 * m)) = ((byteAt x m).toNat : Int) := byte_shr x _ (by omega)
theorem shr0 (x : UInt32) : x >>> UInt32.ofNat 0 = x := by
  apply UInt32.eq_of_toBitVec_eq
  show x.toBitVec >>> (0#32 % 32#32) = x.toBitVec
  simp
theorem outR_eq (s : St) : outR s.list 32 = out s := by
  have h0 : ∀ x : UInt32, byteAt x 0 = b24 x := fun _ => rfl
  have h1 : ∀ x : UInt32, byteAt x 1 = b16 x := fun _ => rfl
  have h2 : ∀ x : UInt32, byteAt x 2 = b8 x := fun _ => rfl
  have h3 : ∀ x : UInt32, byteAt x 3 = b0 x := fun x => by
    show (x >>> UInt32.ofNat 0).toUInt8 = _
    rw [shr0]
    rfl
  have step : ∀ k, outR s.list (4 * k) = outTo s.list k → outR s.list (4 * (k + 1)) = outTo s.list (k + 1) := fun k hk => by
    have d0 : (4 * k) / 4 = k := by omega
    have d1 : (4 * k + 1) / 4 = k := by omega
    have d2 : (4 * k + 2) / 4 = k := by omega
    have d3 : (4 * k + 3) / 4 = k := by omega
    have m0 : (4 * k) % 4 = 0 := by omega
    have m1 : (4 * k + 1) % 4 = 1 := by omega
    have m2 : (4 * k + 2) % 4 = 2 := by omega
    have m3 : (4 * k + 3) % 4 = 3 := by omega
    show outR s.list (4 * k + 1 + 1 + 1 + 1) = _
    simp only [outR, outTo, d0, d1, d2, d3, m0, m1, m2, m3, h0, h1, h2, h3, hk]
  have all : ∀ k, outR s.list (4 * k) = outTo s.list k := fun k => by
    induction k with
    | zero => rfl
    | succ k ih => exact step k ih
  exact all 8
end Sha
/-- While the words are laid out as bytes. -/
structure ORel (w : World) (gh go : Nat) (l : List UInt32) (j : Nat) (wx : World) : Prop where
  words : Whole wx gh 140 (wcells l)
  out : Whole wx go 29 (bcells (Sha.outR l j))
  res : Whole wx w.heap.size 29 (bcells (List.replicate 32 0))
  bel : Below w.heap.size w wx
  neh : gh ≠ go
  hgo : w.heap.size < go
theorem orel_start {w : World} {msg : List UInt8} {gm gh : Nat} {s : Sha.St} {wx : World} (h : BRel w msg gm gh s wx) (hw : 1 < w.heap.size) : ORel w gh wx.heap.size s.list 0 (wx.alloc (.cells (bcells (List.replicate 32 0)) 29)) := by
  have h1 := h.below ((Below.refl _ wx).alloc (Nat.le_refl _) (.cells (bcells (List.replicate 32 0)) 29)) hw
  exact ⟨h1.words, Whole.made _ _ _, h1.res, h1.bel, fun e => by have := h.words.lt; omega, h.res.lt⟩
theorem orel_step {w : World} {gh go : Nat} {l : List UInt32} {wx : World} (j : Nat) (h : ORel w gh go l j wx) : ORel w gh go l (j + 1) (wx.setCell ⟨go, j, none⟩ (.int .u8 (Sha.byteAt (l.getD (j / 4) 0) (j % 4)).toNat)) := by
  have hgo := h.hgo
  refine ⟨h.words.other h.neh _, ?_, h.res.other (by show _ ≠ go; omega) _, h.bel.setCell (by show _ ≤ go; omega) _, h.neh, h.hgo⟩
  have := h.out.set j (.int .u8 (Sha.byteAt (l.getD (j / 4) 0) (j % 4)).toNat)
  rwa [bcells_set] at this
theorem whole8g {w : World} {g : Nat} {s : Sha.St} {t : TypeId} (h : Whole w g t (wcells s.list)) :
    w.cell? ⟨g, 0, none⟩ = some (.int .u32 s.a.toNat) ∧ w.cell? ⟨g, 1, none⟩ = some (.int .u32 s.b.toNat) ∧ w.cell? ⟨g, 2, none⟩ = some (.int .u32 s.c.toNat) ∧ w.cell? ⟨g, 3, none⟩ = some (.int .u32 s.d.toNat) ∧
    w.cell? ⟨g, 4, none⟩ = some (.int .u32 s.e.toNat) ∧ w.cell? ⟨g, 5, none⟩ = some (.int .u32 s.f.toNat) ∧ w.cell? ⟨g, 6, none⟩ = some (.int .u32 s.g.toNat) ∧ w.cell? ⟨g, 7, none⟩ = some (.int .u32 s.h.toNat) :=
  ⟨h.at_ rfl, h.at_ rfl, h.at_ rfl, h.at_ rfl, h.at_ rfl, h.at_ rfl, h.at_ rfl, h.at_ rfl⟩
theorem row_byte {w : World} {g : Nat} {msg : List UInt8} (h : Row w g msg) (k i : Nat) (hk : 64 * k + 64 ≤ msg.length) (hi : i < 64) : w.cell? ⟨g, 64 * k + i, none⟩ = some (.int .u8 (((msg.drop (64 * k)).take 64).getD i 0).toNat) := by
  refine h.2 (64 * k + i) _ ?_
  have hl : 64 * k + i < msg.length := by omega
  rw [List.getD_eq_getElem?_getD, List.getElem?_take, if_pos hi, List.getElem?_drop, List.getElem?_eq_getElem hl]
  rfl
end Go.Proofs.YtolkpjbbfopmnaaDoor.Sh
namespace Go.Proofs.YtolkpjbbfopmnaaDoor.Sh
open Go.RowKit

theorem tab0_below {w w' : World} (h : Tab w 0) (hb : Below w.heap.size w w') (hw : 1 < w.heap.size) : Tab w' 0 := fun j hj => by
  rw [hb.cell (p := ⟨0, j, none⟩) (by show 0 < _; omega)]; exact h j hj

/-- Three slices handed over as parts. -/
theorem parts_three (w : World) (t : TypeId) (A1 A2 A3 : Option Addr) (n1 n2 n3 c1 c2 c3 : Nat) (b1 b2 b3 : List UInt8) (h1 : Reads w A1 n1 b1) (h2 : Reads w A2 n2 b2) (h3 : Reads w A3 n3 b3)
    (k1 : n1 ≤ c1) (k2 : n2 ≤ c2) (k3 : n3 ≤ c3) (m1 : n1 ≤ 140737488355328) (m2 : n2 ≤ 140737488355328) (m3 : n3 ≤ 140737488355328) :
    Parts (w.alloc (.cells #[.slice A1 n1 c1, .slice A2 n2 c2, .slice A3 n3 c3] t)) (some ⟨w.heap.size, 0, none⟩) 3 [b1, b2, b3] := by
  have hb : Below w.heap.size w (w.alloc (.cells #[.slice A1 n1 c1, .slice A2 n2 c2, .slice A3 n3 c3] t)) := (Below.refl _ _).alloc (Nat.le_refl _) _
  refine ⟨rfl, fun _ => ⟨w.heap.size, 0, rfl, by simp, fun j l hl => ?_⟩⟩
  have hj : j < 3 := (List.getElem?_eq_some_iff.1 hl).1
  match j, hj with
  | 0, _ => simp at hl; subst hl; exact ⟨A1, n1, c1, (Whole.made w t _).at_ rfl, k1, m1, h1.below hb⟩
  | 1, _ => simp at hl; subst hl; exact ⟨A2, n2, c2, (Whole.made w t _).at_ rfl, k2, m2, h2.below hb⟩
  | 2, _ => simp at hl; subst hl; exact ⟨A3, n3, c3, (Whole.made w t _).at_ rfl, k3, m3, h3.below hb⟩

/-- A row of the call's own, read as bytes. -/
theorem reads_own {w : World} {base n : Nat} {v : Value} {bs : List UInt8} (h : w.ownsRow base 5 1 v n (bs.map V8)) : ∃ A c, v = .slice A n c ∧ Reads w A n bs := by
  have hl : bs.length = n := by simpa using h.1
  rcases h.2 with ⟨rfl, rfl⟩ | ⟨g, cap, cur, rfl, hb, hg, hnc, hm, hcur, ht⟩
  · exact ⟨none, 0, rfl, hl, fun h => absurd h (by omega)⟩
  · refine ⟨_, cap, rfl, ?_⟩
    have hrow := row_of_take hg ht
    have := hrow.reads 0 n (by omega)
    rwa [List.drop_zero, List.take_of_length_le (by omega)] at this

theorem reads_nil (w : World) : Reads w none 0 [] := ⟨rfl, fun h => absurd h (by omega)⟩
end Go.Proofs.YtolkpjbbfopmnaaDoor.Sh
