/-
  What the statement's function ShaCuts returns: true, whatever bytes and cuts come in; conditions: both slices are read, and the table holds its words. It only makes memory of its own.
-/
import Derived.Test.YtceillnmcccckaaDoorShaAwake
import Derived.Stop.BytesEq
import Derived.Maps.AppendAt
import Derived.Deep.AppendLies
namespace Go.Proofs.YtceillnmcccckaaDoor.Sh
open Go.RowKit

theorem info5 : (Tryd.prog.info? 5).map (fun i => (i.zero, i.size, i.bytes)) = some (some (.int .u8 0), 1, 1) := by kernel_rfl
theorem info22 : (Tryd.prog.info? 27).map (fun i => (i.zero, i.size, i.bytes)) = some (some (.slice none 0 0), 1, 24) := by kernel_rfl

theorem info_of {t : TypeId} {z : Value} {s b : Nat} (h : (Tryd.prog.info? t).map (fun i => (i.zero, i.size, i.bytes)) = some (some z, s, b)) :
    ∃ i, Tryd.prog.info? t = some i ∧ i.zero = some z ∧ i.size = s ∧ i.bytes = b := by
  cases hq : Tryd.prog.info? t with
  | none => simp [hq] at h
  | some i =>
    simp [hq] at h
    exact ⟨i, rfl, h.1, h.2.1, h.2.2⟩

/-- Bytes that are read, appended to a row of the call's own. -/
theorem wpList_append_reads {ops : Array Oper} {rest : List Oper} {o : Oper} {a : Act} {w : World} {Q : Exit → Act → World → Prop} (hgd : o.guard = none) (s x : Operand)
    (ho : o.op = .call { callee := .builtin .append, args := #[s, x], argTypes := #[27, 27] })
    (base : Nat) (v : Value) (n : Nat) (xs : List Value) (hs : a.eval s = v) (hown : w.ownsRow base 5 1 v n xs)
    (A : Option Addr) (m c : Nat) (bs : List UInt8) (hx : a.eval x = .slice A m c) (hr : Reads w A m bs)
    (hb : n + m ≤ 140737488355328) (hbase : base ≤ w.heap.size)
    (h : ∀ v' w', w'.ownsRow base 5 1 v' (n + m) (xs ++ bs.map V8) → w.grownBy w' v.ownBlock → (v'.ownBlock = v.ownBlock ∨ v'.ownBlock = some w.heap.size) → wpList Tryd.prog ops Q rest (a.put o.dst v') w') :
    wpList Tryd.prog ops Q (o :: rest) a w := by
  obtain ⟨i, hi, hz, hsz, hby⟩ := info_of info5
  cases A with
  | none =>
    have hm : m = 0 := by
      rcases Nat.eq_zero_or_pos m with h0 | h0
      · exact h0
      · obtain ⟨b, o, h1, _⟩ := hr.2 h0; cases h1
    subst hm
    have hbs : bs = [] := List.eq_nil_of_length_eq_zero hr.1
    subst hbs
    have hrun : (Builtin.append_ #[27, 27] o.type #[v, .slice none 0 c]).run Tryd.prog w = .ok v w := by
      rcases hown.2 with ⟨rfl, rfl⟩ | ⟨g, cap, cur, rfl, _, _, hnc, _⟩
      · simp [Builtin.append_, run_underlying Tryd.underlying27, sizeOf, typeInfo, hi, Builtin.lenOf, Builtin.firstCells]
      · simp [Builtin.append_, run_underlying Tryd.underlying27, sizeOf, typeInfo, hi, Builtin.lenOf, Builtin.firstCells, hnc, storeCells]
    refine wpList_plain hgd fun K hK => ?_
    unfold Oper.wp
    simp [execOp, ho, resolve, invoke, builtin, hs, hx, hrun, Result.andThen]
    refine hK _ _ (h v w ?_ (World.grownBy.refl w _) (.inl rfl))
    simpa using hown
  | some ad =>
    refine wpList_append_own_at w hgd s x 27 ho base 5 i (.int .u8 0) 1 1 Tryd.underlying27 hi hz hsz hby rfl (by omega) v n xs hs hown ad m c (bs.map V8) hx (by rw [List.length_map, hr.1, Nat.mul_one]) ?_ ?_ (by unfold maxLen; omega) (by omega) hbase
      (fun v' w' h1 h2 _ h4 => h v' w' h1 h2 h4)
    · intro j u hu
      rw [List.getElem?_map, Option.map_eq_some_iff] at hu
      obtain ⟨y, hy, rfl⟩ := hu
      have hm : 0 < m := by have := (List.getElem?_eq_some_iff.1 hy).1; rw [hr.1] at this; omega
      obtain ⟨b, o, h1, _, h3⟩ := hr.2 hm
      obtain rfl := Option.some.inj h1
      rw [Addr.add_mid]
      exact h3 j y hy
    · intro u hu
      simp only [List.mem_map] at hu
      obtain ⟨y, _, rfl⟩ := hu
      rfl

theorem reads_new (w : World) (t : TypeId) (bs : List UInt8) (m : Nat) (hm : bs.length = m) : Reads (w.alloc (.cells (bs.map V8).toArray t)) (some ⟨w.heap.size, 0, none⟩) m bs :=
  ⟨hm, fun _ => ⟨w.heap.size, 0, rfl, by simp, fun j v hv => (Whole.made w t _).at_ (by rw [Nat.zero_add, List.getElem?_toArray, List.getElem?_map, hv]; rfl)⟩⟩

/-- A stretch of a row of bytes, read as a slice. -/
def Row (w : World) (g : Nat) (bs : List UInt8) : Prop := g < w.heap.size ∧ ∀ j v, bs[j]? = some v → w.cell? ⟨g, j, none⟩ = some (V8 v)
theorem Row.below {w w' : World} {g : Nat} {bs : List UInt8} (h : Row w g bs) (hb : Below w.heap.size w w') : Row w' g bs :=
  ⟨Nat.lt_of_lt_of_le h.1 hb.size, fun j v hv => by rw [hb.cell (p := ⟨g, j, none⟩) h.1]; exact h.2 j v hv⟩
theorem Row.reads {w : World} {g : Nat} {bs : List UInt8} (h : Row w g bs) (o m : Nat) (hm : o + m ≤ bs.length) : Reads w (some ⟨g, o, none⟩) m ((bs.drop o).take m) :=
  ⟨by rw [List.length_take, List.length_drop]; omega, fun _ => ⟨g, o, rfl, h.1, fun j v hv => by
    refine h.2 (o + j) v ?_
    rw [List.getElem?_take] at hv
    split at hv
    · rwa [List.getElem?_drop] at hv
    · cases hv⟩⟩
theorem row_of_take {w : World} {g : Nat} {cur : Array Value} {t : TypeId} {l : List UInt8} {k : Nat} (h : w.heap[g]? = some (.cells cur t (0, 0))) (ht : cur.toList.take k = l.map V8) : Row w g l :=
  ⟨(Array.getElem?_eq_some_iff.1 h).1, fun j v hv => by
    rw [cell_of_row w g j cur t (0, 0) h]
    have h1 : (cur.toList.take k)[j]? = some (V8 v) := by rw [ht, List.getElem?_map, hv]; rfl
    rw [List.getElem?_take] at h1
    split at h1
    · simpa using h1
    · cases h1⟩

/-- The value x is a slice that reads as the bytes l. -/
def SP (w : World) (x : Value) (l : List UInt8) : Prop := ∃ A n c, x = .slice A n c ∧ n ≤ c ∧ n ≤ 140737488355328 ∧ Reads w A n l

/-- How it stands behind k cuts: o bytes are cut off; the parts ls, as the values xs, lie in a row of the call's own. -/
structure CRel (w4 : World) (bs : List UInt8) (k o : Nat) (vp : Value) (xs : List Value) (ls : List (List UInt8)) (wx : World) : Prop where
  own : wx.ownsRow w4.heap.size 27 1 vp k xs
  len : ls.length = k
  all : ls.flatten = bs.take o
  each : ∀ (j : Nat) x l, xs[j]? = some x → ls[j]? = some l → SP w4 x l
  bel : Below w4.heap.size w4 wx
  out : o ≤ bs.length

def CutsRel (w4 : World) (bs : List UInt8) (g n cap n2 : Nat) (parts rest idx : Value) (wx : World) : Prop :=
  ∃ k o xs ls, k ≤ n2 ∧ idx = .int .i64 k ∧ rest = .slice (some ⟨g, o, none⟩) (n - o) (cap - o) ∧ CRel w4 bs k o parts xs ls wx

theorem crel_step {w4 wr w5 : World} {bs : List UInt8} {k o g m cap : Nat} {vp v5 : Value} {xs : List Value} {ls : List (List UInt8)} (h : CRel w4 bs k o vp xs ls wr) (tl : List UInt8) (hrow : Row w4 g (bs ++ tl))
    (hm : o + m ≤ bs.length) (hb : bs.length ≤ 1000) (hcap : bs.length ≤ cap) (t : TypeId)
    (h5 : w5.ownsRow w4.heap.size 27 1 v5 (k + 1) (xs ++ [.slice (some ⟨g, o, none⟩) m (cap - o)])) (hg : (wr.alloc (.cells #[.slice (some ⟨g, o, none⟩) m (cap - o)] t)).grownBy w5 vp.ownBlock) :
    CRel w4 bs (k + 1) (o + m) v5 (xs ++ [.slice (some ⟨g, o, none⟩) m (cap - o)]) (ls ++ [(bs.drop o).take m]) w5 := by
  have hxl : xs.length = k := by simpa using h.own.1
  refine ⟨h5, by rw [List.length_append, h.len]; rfl, ?_, ?_, ?_, hm⟩
  · rw [List.flatten_append, h.all]
    simp only [List.flatten_cons, List.flatten_nil, List.append_nil]
    rw [List.take_add]
  · intro j x l hx hl
    by_cases hj : j < k
    · rw [List.getElem?_append_left (by omega)] at hx
      rw [List.getElem?_append_left (by rw [h.len]; exact hj)] at hl
      exact h.each j x l hx hl
    · rw [List.getElem?_append_right (by omega), hxl] at hx
      rw [List.getElem?_append_right (by rw [h.len]; omega), h.len] at hl
      have h0 : j - k < 1 := (List.getElem?_eq_some_iff.1 hx).1
      have h0' : j - k = 0 := by omega
      rw [h0'] at hx hl
      simp at hx hl
      subst hx hl
      refine ⟨_, _, _, rfl, by omega, by omega, ?_⟩
      have := hrow.reads o m (by rw [List.length_append]; omega)
      rwa [List.drop_append_of_le_length (by omega), List.take_append_of_le_length (by rw [List.length_drop]; omega)] at this
  · exact (h.bel.alloc h.bel.size _).grown hg (by have := h.bel.size; simp; omega) (fun i hi => (h.own.lt i hi).1)

theorem crel_parts {w4 wx : World} {bs : List UInt8} {k o : Nat} {A : Option Addr} {c : Nat} {xs : List Value} {ls : List (List UInt8)} (h : CRel w4 bs k o (.slice A k c) xs ls wx) : Parts wx A k ls := by
  have hxl : xs.length = k := by simpa using h.own.1
  refine ⟨h.len, fun hk => ?_⟩
  obtain ⟨g, cap, hv, _, hlt⟩ := h.own.form hk
  have hA : A = some ⟨g, 0, none⟩ := by injection hv
  subst hA
  refine ⟨g, 0, rfl, hlt, fun j l hl => ?_⟩
  have hj : j < xs.length := by rw [hxl, ← h.len]; exact (List.getElem?_eq_some_iff.1 hl).1
  obtain ⟨A', n', c', hx, h1, h2, h3⟩ := h.each j xs[j] l (List.getElem?_eq_getElem hj) hl
  refine ⟨A', n', c', ?_, h1, h2, h3.below h.bel⟩
  have := h.own.cells (g := g) rfl j xs[j] (List.getElem?_eq_getElem hj)
  rw [Addr.add_mid] at this
  rw [this, hx]
theorem parts_one (w : World) (t : TypeId) (A : Option Addr) (n c : Nat) (bs : List UInt8) (hr : Reads w A n bs) (hnc : n ≤ c) (hn : n ≤ 140737488355328) :
    Parts (w.alloc (.cells #[.slice A n c] t)) (some ⟨w.heap.size, 0, none⟩) 1 [bs] := by
  refine ⟨rfl, fun _ => ⟨w.heap.size, 0, rfl, by simp, fun j l hl => ?_⟩⟩
  have hj : j < 1 := (List.getElem?_eq_some_iff.1 hl).1
  obtain rfl : j = 0 := by omega
  simp at hl
  subst hl
  exact ⟨A, n, c, (Whole.made w t _).at_ rfl, hnc, hn, hr.below ((Below.refl _ _).alloc (Nat.le_refl _) _)⟩

theorem run_eq25 (a b : List UInt8) (w : World) : (Op.equalIn 10000 49 (.agg (bcells (Sha.sum a))) (.agg (bcells (Sha.sum b)))).run Tryd.prog w = .ok (Sha.sum a == Sha.sum b) w :=
  run_equalIn_bytes w 9998 49 5 32 Tryd.underlying49 Tryd.underlying5 (fun w => by
    obtain ⟨i, hi, _, hs, _⟩ := info_of info5
    simp [sizeOf, typeInfo, hi, hs]) _ _ (sum_length a) (sum_length b)
/-- string(b) of bytes that are read. -/
theorem run_string (w : World) (A : Option Addr) (n c : Nat) (bs : List UInt8) (hr : Reads w A n bs) : (convert 27 9 (.slice A n c)).run Tryd.prog w = .ok (.string ⟨bs.toArray⟩) w := by
  obtain ⟨hn, hall⟩ := hr
  subst hn
  cases A with
  | none =>
    have hbs : bs = [] := by
      rcases Nat.eq_zero_or_pos bs.length with h0 | h0
      · exact List.eq_nil_of_length_eq_zero h0
      · obtain ⟨b, o, h1, _⟩ := hall h0; cases h1
    subst hbs
    rw [run_convert_bytes_string w 27 9 5 none _ _ Tryd.underlying27 Tryd.underlying5 Tryd.underlying9]
    rfl
  | some ad =>
    refine run_convert_bytes_back w 27 9 5 ad c bs Tryd.underlying27 Tryd.underlying5 Tryd.underlying9 fun j hj => ?_
    obtain ⟨b, o, h1, _, h3⟩ := hall (by omega)
    obtain rfl := Option.some.inj h1
    rw [Addr.add_mid]
    exact h3 j _ (List.getElem?_eq_getElem hj)

end Go.Proofs.YtceillnmcccckaaDoor.Sh
