/-
  What the statement's function ShaCuts returns: true, whatever bytes and cuts come in; conditions: both slices are read, and the table holds its words. It only makes memory of its own.
-/
import Derived.Test.YtpaciildaanfbaaDoorAwake
import Derived.Stop.BytesEq
import Derived.Maps.AppendAt
import Derived.Deep.AppendLies
namespace Go.Proofs.YtpaciildaanfbaaDoor
open Go.RowKit

theorem info5 : (Tryd.prog.info? 5).map (fun i => (i.zero, i.size, i.bytes)) = some (some (.int .u8 0), 1, 1) := by kernel_rfl
theorem info22 : (Tryd.prog.info? 22).map (fun i => (i.zero, i.size, i.bytes)) = some (some (.slice none 0 0), 1, 24) := by kernel_rfl

theorem info_of {t : TypeId} {z : Value} {s b : Nat} (h : (Tryd.prog.info? t).map (fun i => (i.zero, i.size, i.bytes)) = some (some z, s, b)) :
    ∃ i, Tryd.prog.info? t = some i ∧ i.zero = some z ∧ i.size = s ∧ i.bytes = b := by
  cases hq : Tryd.prog.info? t with
  | none => simp [hq] at h
  | some i =>
    simp [hq] at h
    exact ⟨i, rfl, h.1, h.2.1, h.2.2⟩

/-- Bytes that are read, appended to a row of the call's own. -/
theorem wpList_append_reads {ops : Array Oper} {rest : List Oper} {o : Oper} {a : Act} {w : World} {Q : Exit → Act → World → Prop} (hgd : o.guard = none) (s x : Operand)
    (ho : o.op = .call { callee := .builtin .append, args := #[s, x], argTypes := #[22, 22] })
    (base : Nat) (v : Value) (n : Nat) (xs : List Value) (hs : a.eval s = v) (hown : w.ownsRow base 5 1 v n xs)
    (A : Option Addr) (m c : Nat) (bs : List UInt8) (hx : a.eval x = .slice A m c) (hr : Reads w A m bs)
    (hb : n + m ≤ 140737488355328) (hbase : base ≤ w.heap.size)
    (h : ∀ v' w', w'.ownsRow base 5 1 v' (n + m) (xs ++ bs.map V8) → w.grownBy w' v.ownBlock → (v'.ownBlock = v.ownBlock ∨ v'.ownBlock = some w.heap.size) → wpList Tryd.prog ops Q rest (a.put o.dst v') w') :
    wpList Tryd.prog ops Q (o :: rest) a w := by
  obtain ⟨i, hi, hz, hsz, hby⟩ := info_of info5
  cases A with
  | none =>
    have hm : m = 0 := by
      rcases Nat.eq_zero_or_pos m with h0 | h0
      · exact h0
      · obtain ⟨b, o, h1, _⟩ := hr.2 h0; cases h1
    subst hm
    have hbs : bs = [] := List.eq_nil_of_length_eq_zero hr.1
    subst hbs
    have hrun : (Builtin.append_ #[22, 22] o.type #[v, .slice none 0 c]).run Tryd.prog w = .ok v w := by
      rcases hown.2 with ⟨rfl, rfl⟩ | ⟨g, cap, cur, rfl, _, _, hnc, _⟩
      · simp [Builtin.append_, run_underlying Tryd.underlying22, sizeOf, typeInfo, hi, Builtin.lenOf, Builtin.firstCells]
      · simp [Builtin.append_, run_underlying Tryd.underlying22, sizeOf, typeInfo, hi, Builtin.lenOf, Builtin.firstCells, hnc, storeCells]
    refine wpList_plain hgd fun K hK => ?_
    unfold Oper.wp
    simp [execOp, ho, resolve, invoke, builtin, hs, hx, hrun, Result.andThen]
    refine hK _ _ (h v w ?_ (World.grownBy.refl w _) (.inl rfl))
    simpa using hown
  | some ad =>
    refine wpList_append_own_at w hgd s x 22 ho base 5 i (.int .u8 0) 1 1 Tryd.underlying22 hi hz hsz hby rfl (by omega) v n xs hs hown ad m c (bs.map V8) hx (by rw [List.length_map, hr.1, Nat.mul_one]) ?_ ?_ (by unfold maxLen; omega) (by omega) hbase
      (fun v' w' h1 h2 _ h4 => h v' w' h1 h2 h4)
    · intro j u hu
      rw [List.getElem?_map, Option.map_eq_some_iff] at hu
      obtain ⟨y, hy, rfl⟩ := hu
      have hm : 0 < m := by have := (List.getElem?_eq_some_iff.1 hy).1; rw [hr.1] at this; omega
      obtain ⟨b, o, h1, _, h3⟩ := hr.2 hm
      injection h1 with h1
      subst h1
      rw [Addr.add_mid]
      exact h3 j y hy
    · intro u hu
      simp only [List.mem_map] at hu
      obtain ⟨y, _, rfl⟩ := hu
      rfl

theorem reads_new (w : World) (t : TypeId) (bs : List UInt8) (m : Nat) (hm : bs.length = m) : Reads (w.alloc (.cells (bs.map V8).toArray t)) (some ⟨w.heap.size, 0, none⟩) m bs :=
  ⟨hm, fun _ => ⟨w.heap.size, 0, rfl, by simp, fun j v hv => (Whole.made w t _).at_ (by rw [Nat.zero_add, List.getElem?_toArray, List.getElem?_map, hv]; rfl)⟩⟩

/-- A stretch of a row of bytes, read as a slice. -/
def Row (w : World) (g : Nat) (bs : List UInt8) : Prop := g < w.heap.size ∧ ∀ j v, bs[j]? = some v → w.cell? ⟨g, j, none⟩ = some (V8 v)
theorem Row.below {w w' : World} {g : Nat} {bs : List UInt8} (h : Row w g bs) (hb : Below w.heap.size w w') : Row w' g bs :=
  ⟨Nat.lt_of_lt_of_le h.1 hb.size, fun j v hv => by rw [hb.cell (p := ⟨g, j, none⟩) h.1]; exact h.2 j v hv⟩
theorem Row.reads {w : World} {g : Nat} {bs : List UInt8} (h : Row w g bs) (o m : Nat) (hm : o + m ≤ bs.length) : Reads w (some ⟨g, o, none⟩) m ((bs.drop o).take m) :=
  ⟨by rw [List.length_take, List.length_drop]; omega, fun _ => ⟨g, o, rfl, h.1, fun j v hv => by
    refine h.2 (o + j) v ?_
    rw [List.getElem?_take] at hv
    split at hv
    · rwa [List.getElem?_drop] at hv
    · cases hv⟩⟩
theorem row_of_take {w : World} {g : Nat} {cur : Array Value} {t : TypeId} {l : List UInt8} {k : Nat} (h : w.heap[g]? = some (.cells cur t (0, 0))) (ht : cur.toList.take k = l.map V8) : Row w g l :=
  ⟨(Array.getElem?_eq_some_iff.1 h).1, fun j v hv => by
    rw [cell_of_row w g j cur t (0, 0) h]
    have h1 : (cur.toList.take k)[j]? = some (V8 v) := by rw [ht, List.getElem?_map, hv]; rfl
    rw [List.getElem?_take] at h1
    split at h1
    · simpa using h1
    · cases h1⟩

/-- The value x is a slice that reads as the bytes l. -/
def SP (w : World) (x : Value) (l : List UInt8) : Prop := ∃ A n c, x = .slice A n c ∧ n ≤ c ∧ n ≤ 140737488355328 ∧ Reads w A n l

/-- How it stands behind k cuts: o bytes are cut off; the parts ls, as the values xs, lie in a row of the call's own. -/
structure CRel (w4 : World) (bs : List UInt8) (k o : Nat) (vp : Value) (xs : List Value) (ls : List (List UInt8)) (wx : World) : Prop where
  own : wx.ownsRow w4.heap.size 22 1 vp k xs
  len : ls.length = k
  all : ls.flatten = bs.take o
  each : ∀ (j : Nat) x l, xs[j]? = some x → ls[j]? = some l → SP w4 x l
  bel : Below w4.heap.size w4 wx
  out : o ≤ bs.length

def CutsRel (w4 : World) (bs : List UInt8) (g n cap n2 : Nat) (parts rest idx : Value) (wx : World) : Prop :=
  ∃ k o xs ls, k ≤ n2 ∧ idx = .int .i64 k ∧ rest = .slice (some ⟨g, o, none⟩) (n - o) (cap - o) ∧ CRel w4 bs k o parts xs ls wx

theorem crel_step {w4 wr w5 : World} {bs : List UInt8} {k o g m cap : Nat} {vp v5 : Value} {xs : List Value} {ls : List (List UInt8)} (h : CRel w4 bs k o vp xs ls wr) (tl : List UInt8) (hrow : Row w4 g (bs ++ tl))
    (hm : o + m ≤ bs.length) (hb : bs.length ≤ 1000) (hcap : bs.length ≤ cap) (t : TypeId)
    (h5 : w5.ownsRow w4.heap.size 22 1 v5 (k + 1) (xs ++ [.slice (some ⟨g, o, none⟩) m (cap - o)])) (hg : (wr.alloc (.cells #[.slice (some ⟨g, o, none⟩) m (cap - o)] t)).grownBy w5 vp.ownBlock) :
    CRel w4 bs (k + 1) (o + m) v5 (xs ++ [.slice (some ⟨g, o, none⟩) m (cap - o)]) (ls ++ [(bs.drop o).take m]) w5 := by
  have hxl : xs.length = k := by simpa using h.own.1
  refine ⟨h5, by rw [List.length_append, h.len]; rfl, ?_, ?_, ?_, hm⟩
  · rw [List.flatten_append, h.all]
    simp only [List.flatten_cons, List.flatten_nil, List.append_nil]
    rw [List.take_add]
  · intro j x l hx hl
    by_cases hj : j < k
    · rw [List.getElem?_append_left (by omega)] at hx
      rw [List.getElem?_append_left (by rw [h.len]; exact hj)] at hl
      exact h.each j x l hx hl
    · rw [List.getElem?_append_right (by omega), hxl] at hx
      rw [List.getElem?_append_right (by rw [h.len]; omega), h.len] at hl
      have h0 : j - k < 1 := (List.getElem?_eq_some_iff.1 hx).1
      have h0' : j - k = 0 := by omega
      rw [h0'] at hx hl
      simp at hx hl
      subst hx hl
      refine ⟨_, _, _, rfl, by omega, by omega, ?_⟩
      have := hrow.reads o m (by rw [List.length_append]; omega)
      rwa [List.drop_append_of_le_length (by omega), List.take_append_of_le_length (by rw [List.length_drop]; omega)] at this
  · exact (h.bel.alloc h.bel.size _).grown hg (by have := h.bel.size; simp; omega) (fun i hi => (h.own.lt i hi).1)

theorem crel_parts {w4 wx : World} {bs : List UInt8} {k o : Nat} {A : Option Addr} {c : Nat} {xs : List Value} {ls : List (List UInt8)} (h : CRel w4 bs k o (.slice A k c) xs ls wx) : Parts wx A k ls := by
  have hxl : xs.length = k := by simpa using h.own.1
  refine ⟨h.len, fun hk => ?_⟩
  obtain ⟨g, cap, hv, _, hlt⟩ := h.own.form hk
  have hA : A = some ⟨g, 0, none⟩ := by injection hv
  subst hA
  refine ⟨g, 0, rfl, hlt, fun j l hl => ?_⟩
  have hj : j < xs.length := by rw [hxl, ← h.len]; exact (List.getElem?_eq_some_iff.1 hl).1
  obtain ⟨A', n', c', hx, h1, h2, h3⟩ := h.each j xs[j] l (List.getElem?_eq_getElem hj) hl
  refine ⟨A', n', c', ?_, h1, h2, h3.below h.bel⟩
  have := h.own.cells (g := g) rfl j xs[j] (List.getElem?_eq_getElem hj)
  rw [Addr.add_mid] at this
  rw [this, hx]
theorem parts_one (w : World) (t : TypeId) (A : Option Addr) (n c : Nat) (bs : List UInt8) (hr : Reads w A n bs) (hnc : n ≤ c) (hn : n ≤ 140737488355328) :
    Parts (w.alloc (.cells #[.slice A n c] t)) (some ⟨w.heap.size, 0, none⟩) 1 [bs] := by
  refine ⟨rfl, fun _ => ⟨w.heap.size, 0, rfl, by simp, fun j l hl => ?_⟩⟩
  have hj : j < 1 := (List.getElem?_eq_some_iff.1 hl).1
  obtain rfl : j = 0 := by omega
  simp at hl
  subst hl
  exact ⟨A, n, c, (Whole.made w t _).at_ rfl, hnc, hn, hr.below ((Below.refl _ _).alloc (Nat.le_refl _) _)⟩

theorem run_eq25 (a b : List UInt8) (w : World) : (Op.equalIn 10000 25 (.agg (bcells (Sha.sum a))) (.agg (bcells (Sha.sum b)))).run Tryd.prog w = .ok (Sha.sum a == Sha.sum b) w :=
  run_equalIn_bytes w 9998 25 5 32 Tryd.underlying25 Tryd.underlying5 (fun w => by
    obtain ⟨i, hi, _, hs, _⟩ := info_of info5
    simp [sizeOf, typeInfo, hi, hs]) _ _ (sum_length a) (sum_length b)
/-- string(b) of bytes that are read. -/
theorem run_string (w : World) (A : Option Addr) (n c : Nat) (bs : List UInt8) (hr : Reads w A n bs) : (convert 22 9 (.slice A n c)).run Tryd.prog w = .ok (.string ⟨bs.toArray⟩) w := by
  obtain ⟨hn, hall⟩ := hr
  subst hn
  cases A with
  | none =>
    have hbs : bs = [] := by
      rcases Nat.eq_zero_or_pos bs.length with h0 | h0
      · exact List.eq_nil_of_length_eq_zero h0
      · obtain ⟨b, o, h1, _⟩ := hall h0; cases h1
    subst hbs
    rw [run_convert_bytes_string w 22 9 5 none _ _ Tryd.underlying22 Tryd.underlying5 Tryd.underlying9]
    rfl
  | some ad =>
    refine run_convert_bytes_back w 22 9 5 ad c bs Tryd.underlying22 Tryd.underlying5 Tryd.underlying9 fun j hj => ?_
    obtain ⟨b, o, h1, _, h3⟩ := hall (by omega)
    injection h1 with h1
    subst h1
    rw [Addr.add_mid]
    exact h3 j _ (List.getElem?_eq_getElem hj)

set_option maxRecDepth 100000 in
set_option maxHeartbeats 1000000 in
theorem cuts_any (A : Option Addr) (n c : Nat) (bs : List UInt8) (A2 : Option Addr) (n2 c2 : Nat) (cs : List UInt8) (w : World) (hr : Reads w A n bs) (hr2 : Reads w A2 n2 cs) (hnc : n ≤ c) (hc : n ≤ 9223372036854775807) (hn2 : n2 ≤ 9223372036854775807)
    (ht : Tab w 1) (hw : 1 < w.heap.size) :
    Calls Tryd.prog 5 #[.slice A n c, .slice A2 n2 c2] w fun e w' => e = .returned (.bool true) ∧ Below w.heap.size w w' := by
  have HR := Lib.hid hr
  have HR2 := Lib.hid hr2
  have HT := Lib.hid ht
  clear hr hr2 ht
  go_enter Tryd.func5, Tryd.ntmps5
  go_wp2_with fail
  refine (awake_any w HT.out hw).mono ?_
  rintro e w1 ⟨rfl, hb1⟩
  by_cases h1000 : 1000 < n
  · go_wp2_with fail
    go_ret
    exact ⟨rfl, hb1⟩
  by_cases h50 : 50 < n2
  · go_wp2_with fail
    go_ret
    exact ⟨rfl, hb1⟩
  have q1 : decide (1000 < (n : Int)) = false := by simp; omega
  have q2 : decide (50 < (n2 : Int)) = false := by simp; omega
  go_upto_region 5 with (fail)
  refine wp_region_lit ?_
  iterate 6 go_step
  have hrr := HR.out.below hb1
  have hbE : Below w.heap.size w (w1.alloc (.cells #[] 5)) := hb1.alloc hb1.size _
  refine wpList_append_reads rfl (.tmp 21) (.tmp 22) rfl w1.heap.size _ 0 [] rfl (World.ownsRow_lit w1 #[] 0 (Nat.le_refl _) (by unfold maxLen; omega) rfl) A n c bs rfl (HR.out.below hbE) (by omega) (by simp) ?_
  intro v2 w2 hown2 hg2 hat2
  have hb2 : Below w.heap.size w w2 := hbE.grown hg2 (by simp; have := hb1.size; omega) (fun k hk => by injection hk with hk; subst hk; exact hb1.size)
  have hs2 : w1.heap.size < w2.heap.size := by have := hg2.size; simp at this; omega
  simp only [List.nil_append, Nat.zero_add] at hown2
  clear hg2 hat2 hrr hbE
  go_simp
  iterate 3 go_step
  have hb3 : Below w.heap.size w (w2.alloc (.cells #[.int .u8 7, .int .u8 7] 5)) := hb2.alloc hb2.size _
  refine wpList_append_reads rfl (.tmp 23) (.tmp 24) rfl w1.heap.size v2 n _ rfl (hown2.alloc _) (some ⟨w2.heap.size, 0, none⟩) 2 2 [7, 7] rfl (reads_new w2 5 [7, 7] 2 rfl) (by omega) (by simp; omega) ?_
  intro v4 w4 hown4 hg4 hat4
  have hlt2 := hown2.lt
  have hb4 : Below w.heap.size w w4 := hb3.grown hg4 (by simp; have := hb2.size; omega) (fun k hk => Nat.le_trans hb1.size (hlt2 k hk).1)
  obtain ⟨g, cap, cur, rfl, hg0, hg1, hcap, _, hcur, htake⟩ : ∃ g cap cur, v4 = .slice (some ⟨g, 0, none⟩) (n + 2) cap ∧ w1.heap.size ≤ g ∧ w4.heap[g]? = some (.cells cur 5 (0, 0)) ∧ n + 2 ≤ cap ∧ cap ≤ maxLen ∧ cur.size = cap * 1 ∧ cur.toList.take ((n + 2) * 1) = bs.map V8 ++ [7, 7].map V8 := by
    rcases hown4.2 with ⟨_, h0⟩ | h
    · omega
    · exact h
  rw [Nat.mul_one, ← List.map_append] at htake
  have hrow := row_of_take hg1 htake
  have hgw : w.heap.size ≤ g := Nat.le_trans hb1.size hg0
  have HROW := Lib.hid hrow
  have hn1 : bs.length = n := HR.out.1
  have HN1 := Lib.hid hn1
  clear hown2 hown4 hg4 hat4 hlt2 hb3 hb2 hs2 hcur htake hg1 hrow hb1 hg0 hn1
  have ncap : (n : Int) ≤ (cap : Int) := by omega
  go_simp
  go_wp2_with fail
  go_loopw [6, 7, 32] (fun p r i wx => CutsRel w4 bs g n cap n2 p r i wx) (fun _ _ i _ => n2 - (intOf i).toNat)
  case atStart =>
    exact ⟨0, 0, [], [], by omega, rfl, rfl, ⟨World.ownsRow_nil _ _ _ _, rfl, rfl, (fun j x l h => by simp at h), Below.refl _ _, Nat.zero_le _⟩⟩
  case round =>
    obtain ⟨k, o, xs, ls, hk, rfl, rfl, hrel⟩ := hrel
    have hbx : Below w.heap.size w wr := hb4.trans (hrel.bel.mono hb4.size)
    by_cases hlt : k < n2
    · obtain ⟨b2, o2, rfl, hlt2, hall2⟩ := HR2.out.2 (by omega)
      obtain ⟨cv, hcv⟩ : ∃ cv, cs[k]? = some cv := ⟨cs[k]'(by rw [HR2.out.1]; exact hlt), List.getElem?_eq_getElem _⟩
      have ck : wr.cell? ⟨b2, o2 + k, none⟩ = some (.int .u8 cv.toNat) := (hbx.cell (p := ⟨b2, o2 + k, none⟩) hlt2).trans (hall2 k cv hcv)
      have hcv256 : (cv.toNat : Int) < 256 := by have := cv.toNat_lt; omega
      have ho := hrel.out
      rw [HN1.out] at ho
      have hno : (n - o : Nat) ≤ 1000 := by omega
      have HREL := Lib.hid hrel
      have HBX := Lib.hid hbx
      clear hrel hbx hall2 hcv
      go_upto_region 12 with (fail)
      obtain ⟨m, hm, hmo⟩ : ∃ m : Nat, (if n - o < cv.toNat then ((n - o : Nat) : Int) else (cv.toNat : Int)) = (m : Int) ∧ m ≤ n - o := by
        by_cases h : n - o < cv.toNat
        · exact ⟨n - o, by rw [if_pos h], Nat.le_refl _⟩
        · exact ⟨cv.toNat, by rw [if_neg h], by omega⟩
      rw [hm]
      clear hm
      have hmc : (m : Int) ≤ ((cap - o : Nat) : Int) := by omega
      have hmn : (m : Int) ≤ ((n - o : Nat) : Int) := by omega
      refine wp_region_lit ?_
      iterate 15 go_step
      obtain ⟨i22, hi22, hz22, hs22, hby22⟩ := info_of info22
      have hxl : xs.length = k := by simpa using HREL.out.own.1
      refine wpList_append_own_at _ rfl (.tmp 41) (.tmp 45) 30 rfl w4.heap.size 22 i22 (.slice none 0 0) 1 24 Tryd.underlying30 hi22 hz22 hs22 hby22 rfl (by omega) u6 k xs rfl (HREL.out.own.alloc _) ⟨wr.heap.size, 0, none⟩ 1 1 [.slice (some ⟨g, o, none⟩) m (cap - o)] rfl rfl (cell_one_new _ _ _) (by simp [Value.oneCell']) (by unfold maxLen; omega) (by omega) (by have := HREL.out.bel.size; simp; omega) ?_
      intro v5 w5 hown5 hg5 _ hat5
      have hne : ¬ cap - o = m := by omega
      have H5 := Lib.hid (crel_step HREL.out _ HROW.out (by rw [HN1.out]; omega) (by rw [HN1.out]; omega) (by rw [HN1.out]; omega) 22 hown5 hg5)
      clear hown5 hg5 hat5 hxl hi22 hz22 hs22 hby22
      go_simp
      go_wp2_with fail
      go_roundw
      case rel => exact ⟨k + 1, o + m, _, _, by omega, by go_num, by rw [Nat.sub_sub, Nat.sub_sub], H5.out⟩
      case measure => simp [intOf]; omega
    · obtain rfl : k = n2 := by omega
      have HREL := Lib.hid hrel
      have HBX := Lib.hid hbx
      clear hrel hbx
      go_upto_region 15 with (fail)
      refine wp_region_lit ?_
      iterate 9 go_step
      obtain ⟨i22, hi22, hz22, hs22, hby22⟩ := info_of info22
      have ho := HREL.out.out
      rw [HN1.out] at ho
      refine wpList_append_own_at _ rfl (.tmp 51) (.tmp 53) 30 rfl w4.heap.size 22 i22 (.slice none 0 0) 1 24 Tryd.underlying30 hi22 hz22 hs22 hby22 rfl (by omega) u6 k xs rfl (HREL.out.own.alloc _) ⟨wr.heap.size, 0, none⟩ 1 1 [.slice (some ⟨g, o, none⟩) (n - o) (cap - o)] rfl rfl (cell_one_new _ _ _) (by simp [Value.oneCell']) (by unfold maxLen; omega) (by omega) (by have := HREL.out.bel.size; simp; omega) ?_
      intro v5 w5 hown5 hg5 _ hat5
      have h5 := crel_step HREL.out _ HROW.out (by rw [HN1.out]; omega) (by rw [HN1.out]; omega) (by rw [HN1.out]; omega) 22 hown5 hg5
      have hfl : bs.take (o + (n - o)) = bs := List.take_of_length_le (by rw [HN1.out]; omega)
      obtain ⟨gp, cp, rfl, _, _⟩ := hown5.form (by omega)
      have hb5 : Below w.heap.size w w5 := hb4.trans (h5.bel.mono hb4.size)
      have HFL : Hid ((ls ++ [(bs.drop o).take (n - o)]).flatten = bs) := h5.all.trans hfl
      have HP5 := Lib.hid (crel_parts h5)
      have HB5 := Lib.hid hb5
      have HB45 := Lib.hid h5.bel
      clear h5 hfl hown5 hg5 hat5 hi22 hz22 hs22 hby22
      go_simp
      go_wp2_with fail
      refine (sum_as _ (k + 1) _ _ bs HFL.out w5 HP5.out (by omega) (tab_below HT.out HB5.out hw) (by have := HB5.out.size; omega)).mono ?_
      rintro e w6 ⟨rfl, hb6⟩
      have HB6 := Lib.hid (HB5.out.trans (hb6.mono HB5.out.size))
      have HB46 := Lib.hid (HB45.out.trans (hb6.mono HB45.out.size))
      clear hb6
      go_wp2_with fail
      have hbp : Below w.heap.size w (w6.alloc (.cells #[.slice A n c] 22)) := HB6.out.alloc HB6.out.size _
      refine (sum_as _ 1 1 [bs] bs (List.append_nil bs) _ (parts_one w6 22 A n c bs (HR.out.below HB6.out) hnc (by omega)) (by omega) (tab_below HT.out hbp hw) (by have := HB6.out.size; simp; omega)).mono ?_
      rintro e w7 ⟨rfl, hb7⟩
      have HB7 := Lib.hid (hbp.trans (hb7.mono hbp.size))
      have hb47 : Below w4.heap.size w4 w7 := (HB46.out.alloc HB46.out.size _).trans (hb7.mono (by have := HB46.out.size; simp; omega))
      have hrow7 := HROW.out.below hb47
      have heq := fun w => run_eq25 bs bs w
      rw [beq_self_eq_true] at heq
      have hs1 := run_string w7 (some ⟨g, 0, none⟩) n cap bs (by
        have := hrow7.reads 0 n (by rw [List.length_append, HN1.out]; omega)
        rwa [List.drop_zero, List.take_append_of_le_length (by rw [HN1.out]; exact Nat.le_refl _), List.take_of_length_le (by rw [HN1.out]; exact Nat.le_refl _)] at this)
      have hs2 := run_string w7 A n c bs (HR.out.below HB7.out)
      have c7 : w7.cell? ⟨g, n, none⟩ = some (.int .u8 7) := hrow7.2 n 7 (by rw [List.getElem?_append_right (by rw [HN1.out]; exact Nat.le_refl _), HN1.out, Nat.sub_self]; rfl)
      generalize bcells (Sha.sum bs) = X at *
      generalize (⟨bs.toArray⟩ : ByteArray) = S at *
      have n1cap : (n : Int) + 1 ≤ (cap : Int) := by omega
      clear hbp hb7 hb47 hrow7
      go_wp2_with fail
      go_ret
      exact ⟨rfl, HB7.out⟩
end Go.Proofs.YtpaciildaanfbaaDoor
