/-
  What the digest's method add does: the running sum takes in the bytes of a slice one by one, and nothing else of what was there has turned; conditions: the digest is in order, the bytes lie in another block than it, the table holds its words.
  What the digest's method pad does: the running sum takes in 0x80, noughts up to place 56, and eight times the length in eight bytes; conditions as for add.
  What the digest's method hash returns: the eight words as 32 bytes, the greater byte first; condition: the digest lies whole in its block. It only makes memory of its own.
  What sha.start returns: the running sum of nothing: no condition; it only makes memory of its own.
  What sha.Sum returns: the sum of the bytes of all parts, one behind the other; conditions: the parts are read, and the table holds its words. It only makes memory of its own.
-/
import Derived.Test.YtolkpjbbfopmnaaDoorShaA
namespace Go.Proofs.YtolkpjbbfopmnaaDoor.Sh
open Go.RowKit
theorem wcells_V (l : List UInt32) : wcells l = (l.map V32).toArray := rfl
theorem bcells_V (l : List UInt8) : bcells l = (l.map V8).toArray := rfl

/-- The slice with address A and n elements reads as the bytes bs, and none of them lies in block g. -/
def Bytes (w : World) (g : Nat) (A : Option Addr) (n : Nat) (bs : List UInt8) : Prop :=
  bs.length = n ∧ (0 < n → ∃ b o, A = some ⟨b, o, none⟩ ∧ b ≠ g ∧ b < w.heap.size ∧ ∀ j v, bs[j]? = some v → w.cell? ⟨b, o + j, none⟩ = some (V8 v))

def slen : Value → Nat
  | .slice _ n _ => n
  | _ => 0

structure ARel (g : Nat) (w : World) (D : Sha.Dg) (wx : World) : Prop where
  dig : Whole wx g 144 (dcells D)
  ok : D.ok
  grown : w.grownBy wx (some g)
  tab : Tab wx 1

def ALoop (g : Nat) (w : World) (E : Sha.Dg) (p : Value) (wx : World) : Prop :=
  ∃ A n c rest D, p = .slice A n c ∧ n ≤ c ∧ n ≤ 140737488355328 ∧ Bytes wx g A n rest ∧ ARel g w D wx ∧ D.pushAll rest = E

theorem wadd_u64n (x : UInt64) (n : Nat) : IntKind.u64.wrap ((x.toNat : Int) + (n : Int)) = ((x + UInt64.ofNat n).toNat : Int) := by
  rw [IntKind.wrap_u64, UInt64.toNat_add, UInt64.toNat_ofNat']
  omega

theorem grown_setCell {w : World} {g i : Nat} (u : Value) : w.grownBy (w.setCell ⟨g, i, none⟩ u) (some g) :=
  ⟨rfl, rfl, rfl, by simp, fun k _ hne => Below.heap_setCell w ⟨g, i, none⟩ u k (fun e => hne (by rw [e]))⟩
theorem tab_setCell {w : World} {g i : Nat} (u : Value) (hg : 1 ≠ g) (h : Tab w 1) : Tab (w.setCell ⟨g, i, none⟩ u) 1 := fun j hj => by
  rw [World.cell?_setCell_other _ _ _ _ (fun e => by injection e with e; omega)]
  exact h j hj
theorem bytes_setCell {w : World} {g i : Nat} {A : Option Addr} {n : Nat} {bs : List UInt8} (u : Value) (h : Bytes w g A n bs) : Bytes (w.setCell ⟨g, i, none⟩ u) g A n bs :=
  ⟨h.1, fun hn => by
    obtain ⟨b, o, h1, h2, h3, h4⟩ := h.2 hn
    exact ⟨b, o, h1, h2, by simpa using h3, fun j v hv => by
      rw [World.cell?_setCell_other _ _ _ _ (fun e => by injection e with e; exact h2 e.symm)]
      exact h4 j v hv⟩⟩

theorem aloop_start (g : Nat) (D : Sha.Dg) (hok : D.ok) (A : Option Addr) (n c : Nat) (bs : List UInt8) (w : World) (hD : Whole w g 144 (dcells D)) (hB : Bytes w g A n bs)
    (hnc : n ≤ c) (hc : n ≤ 140737488355328) (ht : Tab w 1) (hg : 1 ≠ g) :
    ALoop g w (D.add bs) (.slice A n c) (w.setCell ⟨g, 73, none⟩ (.int .u64 (IntKind.u64.wrap ((D.len.toNat : Int) + (n : Int))))) := by
  refine ⟨A, n, c, bs, ⟨D.s, D.blk, D.n, D.len + UInt64.ofNat bs.length⟩, rfl, hnc, hc, bytes_setCell _ hB, ⟨?_, ⟨hok.1, hok.2⟩, grown_setCell _, tab_setCell _ hg ht⟩, rfl⟩
  rw [wadd_u64n, ← hB.1]
  have h := hD.set 73 (.int .u64 ((D.len + UInt64.ofNat bs.length).toNat : Int))
  rw [dcells, List.setIfInBounds_toArray, dvals_set73 _ _ _ _ _ hok.1] at h
  exact h

theorem grown_drew {w : World} {row : Option Nat} : w.grownBy w.drew row := ⟨rfl, rfl, rfl, Nat.le_refl _, fun _ _ _ => rfl⟩
theorem grown_setCells {g : Nat} : ∀ (vs : List Value) (o : Nat) (w : World), w.grownBy (w.setCells g o vs) (some g)
  | [], _, w => World.grownBy.refl w _
  | v :: r, o, _ => (grown_setCell v).trans (grown_setCells r (o + 1) _)
theorem tab_grown {w w' : World} {g : Nat} (h : Tab w 1) (hb : w.grownBy w' (some g)) (hw : 1 < w.heap.size) (hg : 1 ≠ g) : Tab w' 1 := fun j hj => by
  rw [World.cell?_of_block (w := w) (hb.block 1 hw (fun e => hg (by injection e)))]
  exact h j hj
theorem bytes_grown {w w' : World} {g : Nat} {A : Option Addr} {n : Nat} {bs : List UInt8} (h : Bytes w g A n bs) (hb : w.grownBy w' (some g)) : Bytes w' g A n bs :=
  ⟨h.1, fun hn => by
    obtain ⟨b, o, h1, h2, h3, h4⟩ := h.2 hn
    exact ⟨b, o, h1, h2, Nat.lt_of_lt_of_le h3 hb.size, fun j v hv => by
      rw [World.cell?_of_block (w := w) (hb.block b h3 (fun e => h2 (by injection e)))]
      exact h4 j v hv⟩⟩
theorem bytes_cut {w : World} {g b o n c m : Nat} {bs : List UInt8} (h : Bytes w g (some ⟨b, o, none⟩) n bs) (hm : m ≤ n) (hc : n ≤ c) :
    Bytes w g (if c = m then some ⟨b, o, none⟩ else some ⟨b, o + m, none⟩) (n - m) (bs.drop m) :=
  ⟨by rw [List.length_drop, h.1], fun hn => by
    obtain ⟨b', o', h1, h2, h3, h4⟩ := h.2 (by omega)
    injection h1 with h1
    injection h1 with e1 e2
    subst e1 e2
    rw [if_neg (by omega)]
    exact ⟨b, o + m, rfl, h2, h3, fun j v hv => by
      rw [Nat.add_assoc]
      exact h4 (m + j) v (by rw [← hv, List.getElem?_drop])⟩⟩

theorem whole_count {w : World} {g : Nat} (s : Sha.St) (blk : List UInt8) (n m : Nat) (len : UInt64) (hl : blk.length = 64) (h : Whole w g 144 (dvals s blk n len).toArray) :
    Whole (w.setCell ⟨g, 72, none⟩ (.int .i64 m)) g 144 (dvals s blk m len).toArray := by
  have := h.set 72 (.int .i64 m)
  rw [List.setIfInBounds_toArray, dvals_set72 _ _ _ _ _ hl] at this
  exact this
/-- A whole array read out of the middle of a block, in a region whose operations only read. -/
theorem wpStill_load_mid {P : Program} {ops : Array Oper} {w : World} {Q : Act → Prop} {rest : List Oper} {op : Oper} {a : Act} (hw : Region.wanted op (yielded ops a.tmps) = true)
    (ty : TypeId) (x : Operand) (ho : op.op = .load ty x) (b o : Nat) (hx : a.eval x = .pointer (some ⟨b, o, none⟩)) (cs : List Value) (d : TypeDesc) (hc : w.rangeAt b o cs)
    (hu : P.underlying ty = some d) (hd : d.isRow = true) (hi : (P.info? ty).map (·.size) = some cs.length)
    (h : wpStill P ops w Q rest (a.put op.dst (.agg cs.toArray))) : wpStill P ops w Q (op :: rest) a := by
  unfold wpStill
  rw [if_pos hw]
  unfold Oper.still execOp
  simp only [ho, hx, Instr.loadAt, Instr.sureAddr, Sem.run_bind, Sem.run_pure, Result.andThen_ok, run_loadVar_mid w b o ty cs d hc hu hd hi]
  exact ⟨rfl, h⟩

theorem wpOp_of_wp {P : Program} {ops : Array Oper} {Q : Exit → Act → World → Prop} {i : Nat} {o : Oper} {K : Act → World → Prop} {a : Act} {w : World} (hi : ops[i]? = some o) (hw : Region.wanted o (yielded ops a.tmps) = true)
    (h : o.wp P a w K Q) : wpOp P ops Q i K a w := by
  unfold wpOp
  simp only [hi, hw, if_true]
  exact .inl h

theorem run_copy_into {w : World} {g b o n c m : Nat} {D : Sha.Dg} {bs : List UInt8} (hD : Whole w g 144 (dcells D)) (hok : D.ok) (hm : m = Nat.min n (64 - D.n)) (hn : bs.length = n)
    (hbc : ∀ j v, bs[j]? = some v → w.cell? ⟨b, o + j, none⟩ = some (V8 v)) :
    (Builtin.copy_ #[31, 31] 3 #[.slice (some ⟨g, 8 + D.n, none⟩) (64 - D.n) (64 - D.n), .slice (some ⟨b, o, none⟩) n c]).run Tryd.prog w = .ok (.int .i64 m) (w.setCells g (8 + D.n) ((bs.take m).map V8)) := by
  have hm1 : m ≤ n ∧ m ≤ 64 - D.n := by rw [hm]; simp only [Nat.min_def]; split <;> omega
  have hl : ((bs.take m).map V8).length = m := by simp; omega
  have := run_copy_cells (P := Tryd.prog) w 31 31 3 5 g (8 + D.n) (64 - D.n) (64 - D.n) ⟨b, o, none⟩ n c ((bs.take m).map V8) Tryd.underlying31 (by kernel_rfl) (by rw [hl, hm])
    (fun j v hv => by
      rw [Addr.add_mid]
      rw [List.getElem?_map, Option.map_eq_some_iff] at hv
      obtain ⟨x, hx, rfl⟩ := hv
      have hx' : bs[j]? = some x := by
        rw [List.getElem?_take] at hx
        split at hx
        · exact hx
        · cases hx
      exact hbc j x hx')
    (fun j hj => by
      rw [hl] at hj
      rw [hD.at_ (v := (dvals D.s D.blk D.n D.len)[8 + D.n + j]'(by rw [dvals_length _ _ _ _ hok.1]; have := hok.2; omega)) (by rw [dcells, List.getElem?_toArray, List.getElem?_eq_getElem])]
      rfl)
    (fun j _ => hD.free _)
    (fun v hv => by
      simp only [List.mem_map] at hv
      obtain ⟨x, _, rfl⟩ := hv
      rfl)
  rw [hl] at this
  exact this

set_option maxRecDepth 100000 in
set_option maxHeartbeats 4000000 in
theorem add_any (g : Nat) (D : Sha.Dg) (hok : D.ok) (A : Option Addr) (n c : Nat) (bs : List UInt8) (w : World) (hD : Whole w g 144 (dcells D)) (hB : Bytes w g A n bs)
    (hnc : n ≤ c) (hc : n ≤ 140737488355328) (ht : Tab w 1) (hw : 1 < w.heap.size) (hg : 1 ≠ g) :
    Calls Tryd.prog 77 #[.pointer (some ⟨g, 0, none⟩), .slice A n c] w fun e w' => e = .returned (.tuple #[]) ∧ Whole w' g 144 (dcells (D.add bs)) ∧ w.grownBy w' (some g) := by
  have c73 := hD.at_ (by rw [dcells, List.getElem?_toArray]; exact dvals_73 _ _ _ _ hok.1)
  have f73 := hD.free 73
  have HS := Lib.hid (aloop_start g D hok A n c bs w hD hB hnc hc ht hg)
  clear hD hB hok ht
  go_enter Tryd.func77, Tryd.ntmps77
  go_wp2_with fail
  go_loopw [1] (fun p wx => ALoop g w (D.add bs) p wx) (fun p _ => slen p)
  case atStart => exact HS.out
  case round =>
    clear HS c73 f73
    obtain ⟨A', n', c', rest, D', rfl, hnc', hc', hB, hrel, hall⟩ := hrel
    by_cases hpos : 0 < n'
    · obtain ⟨b, o, rfl, hbg, hbs, hbc⟩ := hB.2 hpos
      have hf := hrel.ok.2
      obtain ⟨m, hm⟩ : ∃ m, m = Nat.min n' (64 - D'.n) := ⟨_, rfl⟩
      have hm1 : 1 ≤ m ∧ m ≤ n' ∧ m ≤ 64 - D'.n := by rw [hm]; simp only [Nat.min_def]; split <;> omega
      have c72 := hrel.dig.at_ (by rw [dcells, List.getElem?_toArray]; exact dvals_72 _ _ _ _ hrel.ok.1)
      have f0 : (D'.n : Int) ≤ 64 := by omega
      have f1 : ¬ 64 = D'.n := by omega
      have f2 : (0 : Int) < (n' : Int) := by omega
      have HREL := Lib.hid hrel
      have HB := Lib.hid hB
      have HBC := Lib.hid hbc
      have HALL := Lib.hid hall
      have HM := Lib.hid hm
      clear hrel hB hbc hall hm
      go_upto_region 2 with (fail)
      go_still_tail 9, (by kernel_rfl)
      change wpList _ _ _ _ _ wr.drew
      have hcopy := run_copy_into (c := c') (HREL.out.dig.drew) HREL.out.ok HM.out HB.out.1 (b := b) (o := o) HBC.out
      obtain ⟨w2, hw2⟩ : ∃ w2, w2 = wr.drew.setCells g (8 + D'.n) ((rest.take m).map V8) := ⟨_, rfl⟩
      rw [← hw2] at hcopy
      have hg2 : wr.grownBy w2 (some g) := by rw [hw2]; exact grown_drew.trans (grown_setCells _ _ _)
      have hd2 : Whole w2 g 144 (dvals D'.s (Sha.lay D'.blk D'.n (rest.take m)) D'.n D'.len).toArray := by
        rw [hw2]
        exact whole_lay _ _ _ _ _ HREL.out.ok.1 (by rw [List.length_take]; omega) _ HREL.out.dig.drew
      have HW2 := Lib.hid hw2
      have HG2 := Lib.hid hg2
      have HD2 := Lib.hid hd2
      clear hw2 hg2 hd2
      go_upto_region 3 with (fail)
      clear hcopy c72
      have m1 : (m : Int) ≤ (n' : Int) := by omega
      go_upto_region 4 with (fail)
      have hB2 := bytes_cut (bytes_grown HB.out HG2.out) hm1.2.1 hnc' (c := c')
      generalize (if c' = m then (some ⟨b, o, none⟩ : Option Addr) else some ⟨b, o + m, none⟩) = A2 at *
      have HB2 := Lib.hid hB2
      clear hB2
      have hbl : (Sha.lay D'.blk D'.n (rest.take m)).length = 64 := by
        rw [Sha.lay_length _ _ _ (by rw [HREL.out.ok.1, List.length_take]; omega), HREL.out.ok.1]
      have hl : (rest.take m).length = m := by rw [List.length_take, HB.out.1]; omega
      have c72 := HD2.out.at_ (by rw [List.getElem?_toArray]; exact dvals_72 _ _ _ _ hbl)
      have f72 := HD2.out.free 72
      have HBL := Lib.hid hbl
      have HL := Lib.hid hl
      clear hbl hl
      have hcast : ((D'.n : Int) + (m : Int)) = ((D'.n + m : Nat) : Int) := by omega
      have HCAST := Lib.hid hcast
      clear hcast
      have HG := Lib.hid (HREL.out.grown.trans HG2.out)
      have HTB := Lib.hid (tab_grown HREL.out.tab HG2.out (by have := HREL.out.grown.size; omega) hg)
      by_cases hfull : D'.n + m = 64
      · have q64 : (((D'.n : Int) + (m : Int)) == 64) = true := by rw [beq_iff_eq]; omega
        have hw3 : ARel g w ⟨D'.s, Sha.lay D'.blk D'.n (rest.take m), D'.n + m, D'.len⟩ (w2.setCell ⟨g, 72, none⟩ (.int .i64 ((D'.n : Int) + (m : Int)))) ∨ True := .inr trivial
        have hd3 : Whole (w2.setCell ⟨g, 72, none⟩ (.int .i64 ((D'.n : Int) + (m : Int)))) g 144 (dvals D'.s (Sha.lay D'.blk D'.n (rest.take m)) (D'.n + m) D'.len).toArray := by
          rw [HCAST.out]; exact whole_count _ _ _ _ _ HBL.out HD2.out
        have ht3 : Tab (w2.setCell ⟨g, 72, none⟩ (.int .i64 ((D'.n : Int) + (m : Int)))) 1 := tab_setCell _ hg HTB.out
        have hg3 : w.grownBy (w2.setCell ⟨g, 72, none⟩ (.int .i64 ((D'.n : Int) + (m : Int)))) (some g) := HG.out.trans (grown_setCell _)
        have hb3 := bytes_setCell (i := 72) (.int .i64 ((D'.n : Int) + (m : Int))) HB2.out
        have HD3 := Lib.hid hd3
        have HT3 := Lib.hid ht3
        have HG3 := Lib.hid hg3
        have HB3 := Lib.hid hb3
        clear hd3 ht3 hg3 hb3 hw3
        go_upto_region 6 with (fail)
        clear c72 f72 HB2 HD2 HG2 HW2 HTB HG q64
        generalize w2.setCell ⟨g, 72, none⟩ (.int .i64 ((D'.n : Int) + (m : Int))) = w3 at *
        obtain ⟨bl, hbl2⟩ : ∃ bl, Sha.lay D'.blk D'.n (rest.take m) = bl := ⟨_, rfl⟩
        have HBL2 := Lib.hid hbl2
        rw [hbl2] at HD3 HBL
        clear hbl2
        refine wp_region_any (by kernel_rfl) ?_
        change wpAny _ _ _ _ _ _ _ w3.drew
        refine wpAny_take (i := 0) (v := .pointer (some ⟨g, 0, none⟩)) rfl (by kernel_rfl) (by kernel_rfl) (by kernel_rfl) (fun _ _ _ h => h) (Or.inl ⟨by rfl, fun _ => by go_simp⟩) ?_
        go_simp
        refine wpAny_take (i := 1) (v := .pointer (some ⟨g, 0, none⟩)) rfl (by kernel_rfl) (by kernel_rfl) (by kernel_rfl) (fun _ _ _ h => h) (Or.inl ⟨by rfl, fun _ => by go_simp⟩) ?_
        go_simp
        refine wpAny_take (i := 2) (v := .pointer (some ⟨g, 0, none⟩)) rfl (by kernel_rfl) (by kernel_rfl) (by kernel_rfl) (fun _ _ _ h => h) (Or.inl ⟨by rfl, fun _ => by go_simp⟩) ?_
        go_simp
        refine wpAny_take (i := 3) (v := .pointer (some ⟨g, 0, none⟩)) rfl (by kernel_rfl) (by kernel_rfl) (by kernel_rfl) (fun _ _ _ h => h) (Or.inl ⟨by rfl, fun _ => by go_simp⟩) ?_
        go_simp
        refine wpAny_take (i := 5) (v := .pointer (some ⟨g, 0, none⟩)) rfl (by kernel_rfl) (by kernel_rfl) (by kernel_rfl) (fun _ _ _ h => h) (Or.inl ⟨by rfl, fun _ => by go_simp⟩) ?_
        go_simp
        refine wpAny_take (i := 6) (v := .pointer (some ⟨g, 0, none⟩)) rfl (by kernel_rfl) (by kernel_rfl) (by kernel_rfl) (fun _ _ _ h => h) (Or.inl ⟨by rfl, fun _ => by go_simp⟩) ?_
        go_simp
        refine wpAny_take (i := 7) (v := .pointer (some ⟨g, 8, none⟩)) rfl (by kernel_rfl) (by kernel_rfl) (by kernel_rfl) (fun _ _ _ h => h) (Or.inl ⟨by rfl, fun _ => by go_simp⟩) ?_
        go_simp
        have r35 := range_words _ _ _ _ HD3.out.drew
        have r36 := range_blk _ _ _ _ HD3.out.drew
        have i35 : (Tryd.prog.info? 141).map (·.size) = some (D'.s.list.map V32).length := info35
        have i36 : (Tryd.prog.info? 142).map (·.size) = some (bl.map V8).length := by rw [List.length_map, HBL.out]; exact info36
        have R35 := Lib.hid r35
        have R36 := Lib.hid r36
        have I35 := Lib.hid i35
        have I36 := Lib.hid i36
        clear r35 r36 i35 i36
        refine wpAny_all (rs := [4, 8]) (by kernel_rfl) (by simp) ?_
        intro i hi
        simp only [List.mem_cons, List.not_mem_nil, or_false] at hi
        rcases hi with rfl | rfl
        · refine wpOp_of_wp rfl (by rfl) ?_
          refine wp_load_mid 141 (.tmp 47) rfl g 0 (by rfl) (D'.s.list.map V32) (.array 8 140) R35.out Tryd.underlying141 rfl I35.out ?_
          go_simp
          refine wpAny_all (rs := [8]) (by kernel_rfl) (by simp) ?_
          intro i hi
          simp only [List.mem_cons, List.not_mem_nil, or_false] at hi
          subst hi
          refine wpOp_of_wp rfl (by rfl) ?_
          refine wp_load_mid 142 (.tmp 51) rfl g 8 (by rfl) (bl.map V8) (.array 64 5) R36.out Tryd.underlying142 rfl I36.out ?_
          go_simp
          refine wpAny_all (rs := [9]) (by kernel_rfl) (by simp) ?_
          intro i hi
          simp only [List.mem_cons, List.not_mem_nil, or_false] at hi
          subst hi
          refine wpOp_of_wp rfl (by rfl) ?_
          go_simp
          rw [← wcells_V, ← bcells_V]
          refine (mix_any D'.s bl HBL.out w3.drew HT3.out (by have := HG3.out.size; show 1 < w3.heap.size; omega)).mono ?_
          rintro e w4 ⟨rfl, hb4⟩
          simp only []
          have hd4 := HD3.out.drew.below hb4 HD3.out.lt
          have hd5 := whole_words _ (Sha.mix D'.s bl) _ _ _ hd4
          have ht4 : w4.there g 0 (wcells (Sha.mix D'.s bl).list).size := fun j hj => by
            rw [wcells_size] at hj
            have hj8 : j < 8 := hj
            have hlen := dvals_length D'.s bl (D'.n + m) D'.len HBL.out
            rw [Nat.zero_add]
            exact ⟨by rw [hd4.at_ (v := (dvals D'.s bl (D'.n + m) D'.len)[j]'(by omega)) (by rw [List.getElem?_toArray, List.getElem?_eq_getElem])]; rfl, hd4.free j⟩
          have hg4 : w3.grownBy w4 (some g) := ⟨hb4.os, hb4.tape, hb4.output, hb4.size, fun k hk _ => hb4.block k hk⟩
          have hg5 := HG3.out.trans (hg4.trans (grown_setCells ((Sha.mix D'.s bl).list.map V32) 0 w4))
          have hb5 := bytes_grown HB3.out (hg4.trans (grown_setCells ((Sha.mix D'.s bl).list.map V32) 0 w4))
          have ht5 := tab_grown HT3.out (hg4.trans (grown_setCells ((Sha.mix D'.s bl).list.map V32) 0 w4)) (by have := HG3.out.size; omega) hg
          have HT4 := Lib.hid ht4
          have HD5 := Lib.hid hd5
          have HG5 := Lib.hid hg5
          have HB5 := Lib.hid hb5
          have HT5 := Lib.hid ht5
          clear hd4 hd5 ht4 hg4 hg5 hb5 ht5 hb4 HT3 HG3 HB3 HD3 R35 R36 I35 I36
          refine wpAny_take (i := 10) (v := .pointer (some ⟨g, 0, none⟩)) rfl (by kernel_rfl) (by kernel_rfl) (by kernel_rfl) (fun _ _ _ h => h) (Or.inl ⟨by rfl, fun _ => by go_simp⟩) ?_
          go_simp
          refine wpAny_take (i := 11) (v := .pointer (some ⟨g, 0, none⟩)) rfl (by kernel_rfl) (by kernel_rfl) (by kernel_rfl) (fun _ _ _ h => h) (Or.inl ⟨by rfl, fun _ => by go_simp⟩) ?_
          go_simp
          refine wpAny_all (rs := [12]) (by kernel_rfl) (by simp) ?_
          intro i hi
          simp only [List.mem_cons, List.not_mem_nil, or_false] at hi
          subst hi
          refine wpOp_of_wp rfl (by rfl) ?_
          refine wp_store_mid 141 (.tmp 55) (.tmp 53) rfl g 0 (wcells (Sha.mix D'.s bl).list) (by rfl) (by rfl) HT4.out (by rw [wcells_size]; exact info35) (wcells_one _) ?_
          refine wpAny_done (by kernel_rfl) ?_ _
          rw [show (wcells (Sha.mix D'.s bl).list).toList = (Sha.mix D'.s bl).list.map V32 from rfl]
          clear HT4
          generalize w4.setCells g 0 ((Sha.mix D'.s bl).list.map V32) = w5 at *
          have c72 := HD5.out.at_ (by rw [List.getElem?_toArray]; exact dvals_72 _ _ _ _ HBL.out)
          have f72 := HD5.out.free 72
          go_wp2_with fail
          go_roundw
          case rel =>
            refine ⟨A2, n' - m, c' - m, rest.drop m, ⟨Sha.mix D'.s bl, bl, 0, D'.len⟩, rfl, by omega, by omega, bytes_setCell _ HB5.out, ⟨?_, ⟨HBL.out, by show 0 < 64; omega⟩, HG5.out.trans (grown_setCell _), tab_setCell _ hg HT5.out⟩, ?_⟩
            · exact whole_count _ _ _ 0 _ HBL.out HD5.out
            · have h1 := Sha.pushAll_full D' (rest.take m) HREL.out.ok.1 (by intro h0; have := HL.out; rw [h0] at this; simp at this; omega) (by rw [HL.out]; omega)
              rw [HBL2.out] at h1
              rw [← h1, ← Sha.Dg.pushAll_append, List.take_append_drop]
              exact HALL.out
          case measure =>
            simp [slen]
            omega
        · refine wpOp_of_wp rfl (by rfl) ?_
          refine wp_load_mid 142 (.tmp 51) rfl g 8 (by rfl) (bl.map V8) (.array 64 5) R36.out Tryd.underlying142 rfl I36.out ?_
          go_simp
          refine wpAny_all (rs := [4]) (by kernel_rfl) (by simp) ?_
          intro i hi
          simp only [List.mem_cons, List.not_mem_nil, or_false] at hi
          subst hi
          refine wpOp_of_wp rfl (by rfl) ?_
          refine wp_load_mid 141 (.tmp 47) rfl g 0 (by rfl) (D'.s.list.map V32) (.array 8 140) R35.out Tryd.underlying141 rfl I35.out ?_
          go_simp
          refine wpAny_all (rs := [9]) (by kernel_rfl) (by simp) ?_
          intro i hi
          simp only [List.mem_cons, List.not_mem_nil, or_false] at hi
          subst hi
          refine wpOp_of_wp rfl (by rfl) ?_
          go_simp
          rw [← wcells_V, ← bcells_V]
          refine (mix_any D'.s bl HBL.out w3.drew HT3.out (by have := HG3.out.size; show 1 < w3.heap.size; omega)).mono ?_
          rintro e w4 ⟨rfl, hb4⟩
          simp only []
          have hd4 := HD3.out.drew.below hb4 HD3.out.lt
          have hd5 := whole_words _ (Sha.mix D'.s bl) _ _ _ hd4
          have ht4 : w4.there g 0 (wcells (Sha.mix D'.s bl).list).size := fun j hj => by
            rw [wcells_size] at hj
            have hj8 : j < 8 := hj
            have hlen := dvals_length D'.s bl (D'.n + m) D'.len HBL.out
            rw [Nat.zero_add]
            exact ⟨by rw [hd4.at_ (v := (dvals D'.s bl (D'.n + m) D'.len)[j]'(by omega)) (by rw [List.getElem?_toArray, List.getElem?_eq_getElem])]; rfl, hd4.free j⟩
          have hg4 : w3.grownBy w4 (some g) := ⟨hb4.os, hb4.tape, hb4.output, hb4.size, fun k hk _ => hb4.block k hk⟩
          have hg5 := HG3.out.trans (hg4.trans (grown_setCells ((Sha.mix D'.s bl).list.map V32) 0 w4))
          have hb5 := bytes_grown HB3.out (hg4.trans (grown_setCells ((Sha.mix D'.s bl).list.map V32) 0 w4))
          have ht5 := tab_grown HT3.out (hg4.trans (grown_setCells ((Sha.mix D'.s bl).list.map V32) 0 w4)) (by have := HG3.out.size; omega) hg
          have HT4 := Lib.hid ht4
          have HD5 := Lib.hid hd5
          have HG5 := Lib.hid hg5
          have HB5 := Lib.hid hb5
          have HT5 := Lib.hid ht5
          clear hd4 hd5 ht4 hg4 hg5 hb5 ht5 hb4 HT3 HG3 HB3 HD3 R35 R36 I35 I36
          refine wpAny_take (i := 10) (v := .pointer (some ⟨g, 0, none⟩)) rfl (by kernel_rfl) (by kernel_rfl) (by kernel_rfl) (fun _ _ _ h => h) (Or.inl ⟨by rfl, fun _ => by go_simp⟩) ?_
          go_simp
          refine wpAny_take (i := 11) (v := .pointer (some ⟨g, 0, none⟩)) rfl (by kernel_rfl) (by kernel_rfl) (by kernel_rfl) (fun _ _ _ h => h) (Or.inl ⟨by rfl, fun _ => by go_simp⟩) ?_
          go_simp
          refine wpAny_all (rs := [12]) (by kernel_rfl) (by simp) ?_
          intro i hi
          simp only [List.mem_cons, List.not_mem_nil, or_false] at hi
          subst hi
          refine wpOp_of_wp rfl (by rfl) ?_
          refine wp_store_mid 141 (.tmp 55) (.tmp 53) rfl g 0 (wcells (Sha.mix D'.s bl).list) (by rfl) (by rfl) HT4.out (by rw [wcells_size]; exact info35) (wcells_one _) ?_
          refine wpAny_done (by kernel_rfl) ?_ _
          rw [show (wcells (Sha.mix D'.s bl).list).toList = (Sha.mix D'.s bl).list.map V32 from rfl]
          clear HT4
          generalize w4.setCells g 0 ((Sha.mix D'.s bl).list.map V32) = w5 at *
          have c72 := HD5.out.at_ (by rw [List.getElem?_toArray]; exact dvals_72 _ _ _ _ HBL.out)
          have f72 := HD5.out.free 72
          go_wp2_with fail
          go_roundw
          case rel =>
            refine ⟨A2, n' - m, c' - m, rest.drop m, ⟨Sha.mix D'.s bl, bl, 0, D'.len⟩, rfl, by omega, by omega, bytes_setCell _ HB5.out, ⟨?_, ⟨HBL.out, by show 0 < 64; omega⟩, HG5.out.trans (grown_setCell _), tab_setCell _ hg HT5.out⟩, ?_⟩
            · exact whole_count _ _ _ 0 _ HBL.out HD5.out
            · have h1 := Sha.pushAll_full D' (rest.take m) HREL.out.ok.1 (by intro h0; have := HL.out; rw [h0] at this; simp at this; omega) (by rw [HL.out]; omega)
              rw [HBL2.out] at h1
              rw [← h1, ← Sha.Dg.pushAll_append, List.take_append_drop]
              exact HALL.out
          case measure =>
            simp [slen]
            omega
      · have q64 : (((D'.n : Int) + (m : Int)) == 64) = false := by rw [beq_eq_false_iff_ne]; omega
        go_wp2_with fail
        go_roundw
        case rel =>
          refine ⟨A2, n' - m, c' - m, rest.drop m, ⟨D'.s, Sha.lay D'.blk D'.n (rest.take m), D'.n + m, D'.len⟩, rfl, by omega, by omega, bytes_setCell _ HB2.out, ⟨?_, ⟨HBL.out, by show D'.n + m < 64; omega⟩, HG.out.trans (grown_setCell _), tab_setCell _ hg HTB.out⟩, ?_⟩
          · rw [HCAST.out]; exact whole_count _ _ _ _ _ HBL.out HD2.out
          · have h1 := Sha.pushAll_some D' (rest.take m) HREL.out.ok.1 (by rw [HL.out]; omega)
            rw [HL.out] at h1
            rw [← h1, ← Sha.Dg.pushAll_append, List.take_append_drop]
            exact HALL.out
        case measure =>
          simp [slen]
          omega
    · obtain rfl : n' = 0 := by omega
      have hr0 : rest = [] := List.eq_nil_of_length_eq_zero hB.1
      subst hr0
      have HE : Hid (D' = D.add bs) := hall
      have HREL := Lib.hid hrel
      clear hrel hall hB
      go_wp2_with fail
      go_end0
      exact ⟨rfl, HE.out ▸ HREL.out.dig, HREL.out.grown⟩
end Go.Proofs.YtolkpjbbfopmnaaDoor.Sh
namespace Go.Proofs.YtolkpjbbfopmnaaDoor.Sh
open Go.RowKit

namespace Sha
def Dg.relen (D : Dg) (x : UInt64) : Dg := ⟨D.s, D.blk, D.n, x⟩
theorem Dg.push_relen (D : Dg) (b : UInt8) (x : UInt64) : (D.relen x).push b = (D.push b).relen x := by
  unfold Dg.push Dg.relen
  simp only []
  split <;> rfl
theorem Dg.pushAll_relen (D : Dg) (l : List UInt8) (x : UInt64) : (D.relen x).pushAll l = (D.pushAll l).relen x := by
  induction l generalizing D with
  | nil => rfl
  | cons b r ih =>
    show ((D.relen x).push b).pushAll r = _
    rw [Dg.push_relen, ih]
    rfl
theorem Dg.add_eq (D : Dg) (l : List UInt8) : D.add l = (D.pushAll l).relen (D.len + UInt64.ofNat l.length) := Dg.pushAll_relen D l _
theorem Dg.ok_relen {D : Dg} (h : D.ok) (x : UInt64) : (D.relen x).ok := ⟨h.1, h.2⟩
theorem Dg.relen_relen (D : Dg) (x y : UInt64) : (D.relen x).relen y = D.relen y := rfl
theorem Dg.push_n (D : Dg) (b : UInt8) (h : D.n < 64) : (D.push b).n = (D.n + 1) % 64 := by
  unfold Dg.push
  split
  · rename_i h1; rw [h1]
  · rename_i h1; show D.n + 1 = _; rw [Nat.mod_eq_of_lt (by omega)]
theorem Dg.pushAll_n (D : Dg) (l : List UInt8) (h : D.ok) : (D.pushAll l).n = (D.n + l.length) % 64 := by
  induction l generalizing D with
  | nil => exact (Nat.mod_eq_of_lt h.2).symm
  | cons b r ih =>
    show ((D.push b).pushAll r).n = _
    rw [ih _ (Dg.ok_push h b), Dg.push_n D b h.2, List.length_cons]
    omega
theorem Dg.pushAll_snoc (D : Dg) (l : List UInt8) (b : UInt8) : D.pushAll (l ++ [b]) = (D.pushAll l).push b := by rw [Dg.pushAll_append]; rfl

def be8 (L : UInt64) : List UInt8 := (List.range 8).map fun i => (L >>> UInt64.ofNat (56 - 8 * i)).toUInt8
def zeros (n : Nat) : Nat := (119 - n % 64) % 64
def padding (n : Nat) (L : UInt64) : List UInt8 := (128 :: List.replicate (zeros n) 0) ++ be8 L
theorem be8_take (L : UInt64) (i : Nat) (h : i < 8) : (be8 L).take (i + 1) = (be8 L).take i ++ [(L >>> UInt64.ofNat (56 - 8 * i)).toUInt8] := by
  have hl : (be8 L).length = 8 := by simp [be8]
  rw [List.take_succ_eq_append_getElem (by omega)]
  simp [be8]
theorem be8_byte (L : UInt64) (i : Nat) (h : i < 8) : IntKind.u8.wrap ((L.toNat : Int) / 2 ^ (56 - 8 * i)) = ((L >>> UInt64.ofNat (56 - 8 * i)).toUInt8.toNat : Int) := by
  rw [IntKind.wrap_u8', UInt64.toNat_toUInt8, UInt64.toNat_shiftRight, UInt64.toNat_ofNat_of_lt' (show 56 - 8 * i < UInt64.size from Nat.lt_of_le_of_lt (Nat.sub_le _ _) (by decide)),
    Nat.mod_eq_of_lt (show 56 - 8 * i < 64 by omega), Nat.shiftRight_eq_div_pow, Int.natCast_emod, Int.natCast_ediv, Int.natCast_pow]
  rfl
end Sha

theorem add_one (g : Nat) (D : Sha.Dg) (hok : D.ok) (v : UInt8) (c : Int) (hc : c = (v.toNat : Int)) (w : World) (t : TypeId) (hD : Whole w g 144 (dcells D)) (ht : Tab w 1) (hw : 1 < w.heap.size) (hg : 1 ≠ g) :
    Calls Tryd.prog 77 #[.pointer (some ⟨g, 0, none⟩), .slice (some ⟨w.heap.size, 0, none⟩) 1 1] (w.alloc (.cells #[.int .u8 c] t)) fun e w' =>
      e = .returned (.tuple #[]) ∧ Whole w' g 144 (dcells ((D.push v).relen (D.len + 1))) ∧ w.grownBy w' (some g) := by
  subst hc
  have hga : w.grownBy (w.alloc (.cells #[.int .u8 (v.toNat : Int)] t)) (some g) := ⟨rfl, rfl, rfl, by simp, fun k hk _ => Below.heap_alloc w _ k hk⟩
  have hB : Bytes (w.alloc (.cells #[.int .u8 (v.toNat : Int)] t)) g (some ⟨w.heap.size, 0, none⟩) 1 [v] :=
    ⟨rfl, fun _ => ⟨w.heap.size, 0, rfl, fun e => by have := hD.lt; omega, by simp, fun j u hu => by
      have hj : j < 1 := (List.getElem?_eq_some_iff.1 hu).1
      obtain rfl : j = 0 := by omega
      simp at hu
      subst hu
      exact (Whole.made w t _).at_ rfl⟩⟩
  refine (add_any g D hok _ 1 1 [v] _ (hD.alloc _) hB (Nat.le_refl _) (by omega) (tab_grown ht hga hw hg) (by simp; omega) hg).mono ?_
  rintro e w' ⟨rfl, h1, h2⟩
  refine ⟨rfl, ?_, hga.trans h2⟩
  rw [Sha.Dg.add_eq] at h1
  exact h1

def PadPost (g : Nat) (D : Sha.Dg) (w w' : World) : Prop := ∃ x, Whole w' g 144 (dcells ((D.pushAll (Sha.padding D.n (D.len * 8))).relen x)) ∧ w.grownBy w' (some g)

/-- How it stands while the padding goes on: the bytes l have been taken in. -/
def PRel (g : Nat) (D : Sha.Dg) (w : World) (l : List UInt8) (wx : World) : Prop := ∃ x, Whole wx g 144 (dcells ((D.pushAll l).relen x)) ∧ w.grownBy wx (some g)

theorem wmul8_u64 (x : UInt64) : IntKind.u64.wrap ((x.toNat : Int) * 8) = ((x * 8).toNat : Int) := by
  rw [IntKind.wrap_u64, UInt64.toNat_mul]
  show _ = (((x.toNat * 8) % 18446744073709551616 : Nat) : Int)
  omega
theorem prel_step {g : Nat} {D : Sha.Dg} {w wx w' : World} {l : List UInt8} {x : UInt64} (v : UInt8) (hg : w.grownBy wx (some g))
    (h : Whole w' g 144 (dcells ((((D.pushAll l).relen x).push v).relen (x + 1))) ∧ wx.grownBy w' (some g)) : PRel g D w (l ++ [v]) w' := by
  refine ⟨x + 1, ?_, hg.trans h.2⟩
  rw [Sha.Dg.pushAll_snoc]
  rw [Sha.Dg.push_relen] at h
  exact h.1

set_option maxRecDepth 100000 in
set_option maxHeartbeats 1000000 in
theorem pad_any (g : Nat) (D : Sha.Dg) (hok : D.ok) (w : World) (hD : Whole w g 144 (dcells D)) (ht : Tab w 1) (hw : 1 < w.heap.size) (hg : 1 ≠ g) :
    Calls Tryd.prog 78 #[.pointer (some ⟨g, 0, none⟩)] w fun e w' => e = .returned (.tuple #[]) ∧ PadPost g D w w' := by
  have c73 := hD.at_ (by rw [dcells, List.getElem?_toArray]; exact dvals_73 _ _ _ _ hok.1)
  have HD := Lib.hid hD
  have Hok := Lib.hid hok
  have HT := Lib.hid ht
  clear hD hok ht
  have hL := wmul8_u64 D.len
  obtain ⟨L, hL2⟩ : ∃ L, D.len * 8 = L := ⟨_, rfl⟩
  rw [hL2] at hL
  have HL := Lib.hid hL2
  clear hL2
  go_enter Tryd.func78, Tryd.ntmps78
  go_wp2_with fail
  refine (add_one g D Hok.out 128 128 rfl w 5 HD.out HT.out hw hg).mono ?_
  rintro e w1 ⟨rfl, h1⟩
  have hs : PRel g D w (128 :: List.replicate 0 0) w1 := ⟨D.len + 1, h1.1, h1.2⟩
  have HS := Lib.hid hs
  clear hs h1 c73
  go_wp2_with fail
  go_loopg [12] (Sha.zeros D.n) (fun gk _ wx => ∃ j, j + gk = Sha.zeros D.n ∧ PRel g D w (128 :: List.replicate j 0) wx)
  case atStart => exact ⟨0, by omega, HS.out⟩
  case round =>
    clear HS
    obtain ⟨j, hj, x, hW, hG⟩ := hrel
    have hokp : ((D.pushAll (128 :: List.replicate j 0)).relen x).ok := Sha.Dg.ok_relen (Sha.Dg.ok_pushAll Hok.out _) _
    have hn : ((D.pushAll (128 :: List.replicate j 0)).relen x).n = (D.n + (j + 1)) % 64 := by
      show (D.pushAll (128 :: List.replicate j 0)).n = _
      rw [Sha.Dg.pushAll_n _ _ Hok.out]
      simp
    have c72 := hW.at_ (by rw [dcells, List.getElem?_toArray]; exact dvals_72 _ _ _ _ hokp.1)
    rw [hn] at c72
    have hz : Sha.zeros D.n = (119 - D.n % 64) % 64 := rfl
    have hD64 := Hok.out.2
    cases gk with
    | zero =>
      have q56 : ((((D.n + (j + 1)) % 64 : Nat) : Int) != 56) = false := by
        rw [bne_eq_false_iff_eq]; omega
      obtain rfl : j = Sha.zeros D.n := by omega
      have hs : PRel g D w ((128 :: List.replicate (Sha.zeros D.n) 0) ++ (Sha.be8 L).take 0) wr := by
        rw [List.take_zero, List.append_nil]; exact ⟨x, hW, hG⟩
      have HS := Lib.hid hs
      clear hs hW hG hokp hn hz hj
      generalize (D.n + (Sha.zeros D.n + 1)) % 64 = N at *
      go_wp2_with fail
      clear c72 q56
      go_loopg [3] 8 (fun gk s3 wx => ∃ i, i + gk = 8 ∧ s3 = .int .i64 (56 - 8 * (i : Int)) ∧ PRel g D w ((128 :: List.replicate (Sha.zeros D.n) 0) ++ (Sha.be8 L).take i) wx)
      case atStart => exact ⟨0, by omega, rfl, HS.out⟩
      case round =>
        clear HS
        obtain ⟨i, hi, rfl, x, hW, hG⟩ := hrel
        cases gk with
        | zero =>
          obtain rfl : i = 8 := by omega
          have hfin : PadPost g D w wr := ⟨x, by rw [HL.out]; exact hW, hG⟩
          have HF := Lib.hid hfin
          clear hfin hW hG
          go_wp2_with fail
          go_end0
          exact ⟨rfl, HF.out⟩
        | succ gn =>
          have hi8 : i < 8 := by omega
          have hok2 := Sha.Dg.ok_relen (Sha.Dg.ok_pushAll Hok.out ((128 :: List.replicate (Sha.zeros D.n) 0) ++ (Sha.be8 L).take i)) x
          obtain ⟨v, hv⟩ : ∃ v, (L >>> UInt64.ofNat (56 - 8 * i)).toUInt8 = v := ⟨_, rfl⟩
          have hbyte := Sha.be8_byte L i hi8
          rw [hv] at hbyte
          have HV := Lib.hid hv
          clear hv
          have hsh : (56 - 8 * (i : Int)).toNat = 56 - 8 * i := by omega
          have z0 : 0 ≤ 56 - 8 * (i : Int) := by omega
          have z1 : 56 - 8 * (i : Int) ≤ 64 := by omega
          have HW := Lib.hid hW
          have HG := Lib.hid hG
          have HOK := Lib.hid hok2
          have HT2 := Lib.hid (tab_grown HT.out hG hw hg)
          have hw2 : 1 < wr.heap.size := by have := hG.size; omega
          clear hW hG hok2
          go_wp2_with fail
          refine (add_one g _ HOK.out v _ rfl _ 5 HW.out HT2.out hw2 hg).mono ?_
          rintro e w2 ⟨rfl, h2⟩
          clear hbyte
          go_wp2_with fail
          go_roundg gn
          case measure => omega
          case rel =>
            refine ⟨i + 1, by omega, congrArg (Value.int .i64) (by omega), ?_⟩
            rw [Sha.be8_take L i hi8, HV.out, ← List.append_assoc]
            exact prel_step v HG.out h2
    | succ gn =>
      have q56 : ((((D.n + (j + 1)) % 64 : Nat) : Int) != 56) = true := by
        rw [bne_iff_ne]; omega
      have HW := Lib.hid hW
      have HG := Lib.hid hG
      have HOK := Lib.hid hokp
      have HZ := Lib.hid hz
      have HJ := Lib.hid hj
      have HT2 := Lib.hid (tab_grown HT.out hG hw hg)
      have hw2 : 1 < wr.heap.size := by have := hG.size; omega
      clear hW hG hokp hn hz hj
      generalize (D.n + (j + 1)) % 64 = N at *
      go_wp2_with fail
      refine (add_one g _ HOK.out 0 0 rfl _ 5 HW.out HT2.out hw2 hg).mono ?_
      rintro e w2 ⟨rfl, h2⟩
      go_wp2_with fail
      go_roundg gn
      case measure => omega
      case rel =>
        refine ⟨j + 1, by have := HJ.out; omega, ?_⟩
        rw [List.replicate_succ', ← List.cons_append]
        exact prel_step 0 HG.out h2
end Go.Proofs.YtolkpjbbfopmnaaDoor.Sh
namespace Go.Proofs.YtolkpjbbfopmnaaDoor.Sh
open Go.RowKit
namespace Sha
def b24 (x : UInt32) : UInt8 := (x >>> 24).toUInt8
def b16 (x : UInt32) : UInt8 := (x >>> 16).toUInt8
def b8 (x : UInt32) : UInt8 := (x >>> 8).toUInt8
def b0 (x : UInt32) : UInt8 := x.toUInt8
def outTo (l : List UInt32) : Nat → List UInt8
  | 0 => List.replicate 32 0
  | k + 1 => ((((outTo l k).set (4 * k) (b24 (l.getD k 0))).set (4 * k + 1) (b16 (l.getD k 0))).set (4 * k + 2) (b8 (l.getD k 0))).set (4 * k + 3) (b0 (l.getD k 0))
theorem outTo_length (l : List UInt32) (k : Nat) : (outTo l k).length = 32 := by
  induction k with
  | zero => rfl
  | succ k ih => simp [outTo, ih]
def out (s : St) : List UInt8 := outTo s.list 8
theorem byte_shr (x : UInt32) (n : Nat) (h : n < 32) : IntKind.u8.wrap ((x.toNat : Int) / 2 ^ n) = ((x >>> UInt32.ofNat n).toUInt8.toNat : Int) := by
  rw [IntKind.wrap_u8', shr_u32 x n h, UInt32.toNat_toUInt8]
  omega
theorem byte24 (x : UInt32) : IntKind.u8.wrap ((x.toNat : Int) / 16777216) = ((b24 x).toNat : Int) := byte_shr x 24 (by omega)
theorem byte16 (x : UInt32) : IntKind.u8.wrap ((x.toNat : Int) / 65536) = ((b16 x).toNat : Int) := byte_shr x 16 (by omega)
theorem byte8 (x : UInt32) : IntKind.u8.wrap ((x.toNat : Int) / 256) = ((b8 x).toNat : Int) := byte_shr x 8 (by omega)
theorem byte0 (x : UInt32) : IntKind.u8.wrap (x.toNat : Int) = ((b0 x).toNat : Int) := by
  rw [IntKind.wrap_u8', b0, UInt32.toNat_toUInt8]; omega
end Sha
theorem info25 : (Tryd.prog.info? 29).map (·.size) = some 32 := by kernel_rfl

structure HRel (w : World) (l : List UInt32) (k : Nat) (wx : World) : Prop where
  res : Whole wx w.heap.size 29 (bcells (List.replicate 32 0))
  out : Whole wx (w.heap.size + 1) 29 (bcells (Sha.outTo l k))
  bel : Below w.heap.size w wx

theorem hrel_start (w : World) (l : List UInt32) (Z : Array Value) (hZ : Z = bcells (List.replicate 32 0)) : HRel w l 0 ((w.alloc (.cells Z 29)).alloc (.cells Z 29)) := by
  subst hZ
  refine ⟨(Whole.made _ _ _).alloc _, ?_, ((Below.refl _ _).alloc (by simp) _).alloc (by simp) _⟩
  have := Whole.made (w.alloc (.cells (bcells (List.replicate 32 0)) 29)) 29 (bcells (List.replicate 32 0))
  rw [show (w.alloc (.cells (bcells (List.replicate 32 0)) 29)).heap.size = w.heap.size + 1 by simp] at this
  exact this
theorem hrel_step (w wx : World) (l : List UInt32) (k : Nat) (h : HRel w l k wx) :
    HRel w l (k + 1) ((((wx.setCell ⟨w.heap.size + 1, 4 * k, none⟩ (.int .u8 (Sha.b24 (l.getD k 0)).toNat)).setCell ⟨w.heap.size + 1, 4 * k + 1, none⟩ (.int .u8 (Sha.b16 (l.getD k 0)).toNat)).setCell
      ⟨w.heap.size + 1, 4 * k + 2, none⟩ (.int .u8 (Sha.b8 (l.getD k 0)).toNat)).setCell ⟨w.heap.size + 1, 4 * k + 3, none⟩ (.int .u8 (Sha.b0 (l.getD k 0)).toNat)) := by
  have hne : w.heap.size ≠ w.heap.size + 1 := by omega
  refine ⟨(((h.res.other hne _).other hne _).other hne _).other hne _, ?_, (((h.bel.setCell (by show _ ≤ w.heap.size + 1; omega) _).setCell (by show _ ≤ w.heap.size + 1; omega) _).setCell (by show _ ≤ w.heap.size + 1; omega) _).setCell (by show _ ≤ w.heap.size + 1; omega) _⟩
  have := (((h.out.set (4 * k) (.int .u8 (Sha.b24 (l.getD k 0)).toNat)).set (4 * k + 1) (.int .u8 (Sha.b16 (l.getD k 0)).toNat)).set (4 * k + 2) (.int .u8 (Sha.b8 (l.getD k 0)).toNat)).set (4 * k + 3) (.int .u8 (Sha.b0 (l.getD k 0)).toNat)
  rw [bcells_set, bcells_set, bcells_set, bcells_set] at this
  exact this

set_option maxRecDepth 100000 in
set_option maxHeartbeats 1000000 in
theorem hash_any (g : Nat) (D : Sha.Dg) (w : World) (hD : Whole w g 144 (dcells D)) :
    Calls Tryd.prog 79 #[.pointer (some ⟨g, 0, none⟩)] w fun e w' => e = .returned (.agg (bcells (Sha.out D.s))) ∧ Below w.heap.size w w' := by
  have HD := Lib.hid hD
  clear hD
  go_enter Tryd.func79, Tryd.ntmps79
  go_upto_region 2 with (fail)
  have hs := hrel_start w D.s.list _ rfl
  have hd2 : Whole ((w.alloc (.cells (bcells (List.replicate 32 0)) 29)).alloc (.cells (bcells (List.replicate 32 0)) 29)) g 144 (dcells D) := (HD.out.alloc _).alloc _
  rw [show bcells (List.replicate 32 0) = #[Value.int .u8 0, .int .u8 0, .int .u8 0, .int .u8 0, .int .u8 0, .int .u8 0, .int .u8 0, .int .u8 0, .int .u8 0, .int .u8 0, .int .u8 0, .int .u8 0, .int .u8 0, .int .u8 0, .int .u8 0, .int .u8 0, .int .u8 0, .int .u8 0, .int .u8 0, .int .u8 0, .int .u8 0, .int .u8 0, .int .u8 0, .int .u8 0, .int .u8 0, .int .u8 0, .int .u8 0, .int .u8 0, .int .u8 0, .int .u8 0, .int .u8 0, .int .u8 0] from rfl] at hd2 hs
  generalize (w.alloc (.cells _ 29)).alloc (.cells _ 29) = w2 at hs hd2 ⊢
  have HS := Lib.hid hs
  have HR := Lib.hid (range_words _ _ _ _ hd2)
  clear hs hd2
  refine wp_region_lit ?_
  iterate 9 go_step
  refine wpList_load_mid rfl 141 (.tmp 8) rfl g 0 ?_ (D.s.list.map V32) (.array 8 140) HR.out Tryd.underlying141 rfl info35 ?_
  · rfl
  rw [← wcells_V]
  go_wp2_with fail
  go_loopw [10] (fun i wx => ∃ k : Nat, k ≤ 8 ∧ i = .int .i64 k ∧ HRel w D.s.list k wx) (fun i _ => 8 - (intOf i).toNat)
  case atStart => exact ⟨0, by omega, rfl, HS.out⟩
  case round =>
    clear HS HR
    obtain ⟨k, hk, rfl, hrel⟩ := hrel
    by_cases hlt : k < 8
    · have c0 := hrel.out.at_ (bcells_at _ (4 * k) (by rw [Sha.outTo_length]; omega))
      have c1 := hrel.out.at_ (bcells_at _ (4 * k + 1) (by rw [Sha.outTo_length]; omega))
      have c2 := hrel.out.at_ (bcells_at _ (4 * k + 2) (by rw [Sha.outTo_length]; omega))
      have c3 := hrel.out.at_ (bcells_at _ (4 * k + 3) (by rw [Sha.outTo_length]; omega))
      have f0 := hrel.out.free (4 * k)
      have f1 := hrel.out.free (4 * k + 1)
      have f2 := hrel.out.free (4 * k + 2)
      have f3 := hrel.out.free (4 * k + 3)
      have hix : (wcells D.s.list)[k]? = some (.int .u32 (D.s.list.getD k 0).toNat) := wcells_at _ k hlt
      have H := Lib.hid (hrel_step w wr D.s.list k hrel)
      clear hrel
      generalize D.s.list.getD k 0 = y at *
      generalize wcells D.s.list = R at *
      have hrun := run_index35 R k y.toNat hlt hix
      clear hix
      have e24 := Sha.byte24 y
      have e16 := Sha.byte16 y
      have e8 := Sha.byte8 y
      have e0 := Sha.byte0 y
      generalize Sha.b24 y = v24 at *
      generalize Sha.b16 y = v16 at *
      generalize Sha.b8 y = v8 at *
      generalize Sha.b0 y = v0 at *
      have k8 : (k : Int) < 8 := by omega
      go_wp2_with fail
      go_roundw
      case rel => exact ⟨k + 1, by omega, by go_num, H.out⟩
      case measure => simp [intOf]; omega
    · obtain rfl : k = 8 := by omega
      have hlen : (bcells (Sha.outTo D.s.list 8)).size = 32 := by rw [bcells_size, Sha.outTo_length]
      have hi : (Tryd.prog.info? 29).map (·.size) = some (bcells (Sha.outTo D.s.list 8)).toList.length := by rw [Array.length_toList, hlen]; exact info25
      have hth : wr.there w.heap.size 0 (bcells (Sha.outTo D.s.list 8)).size := by
        have := hrel.res.there_
        rwa [bcells_size, List.length_replicate, ← hlen] at this
      have hone := bcells_one (Sha.outTo D.s.list 8)
      have hlo := hrel.out.range
      have hbel := hrel.bel
      have hS : bcells (Sha.out D.s) = bcells (Sha.outTo D.s.list 8) := rfl
      have HS := Lib.hid hS
      clear hrel hS
      generalize bcells (Sha.outTo D.s.list 8) = W at *
      have HI := Lib.hid hi
      have HLO := Lib.hid hlo
      have HTH := Lib.hid hth
      have HONE := Lib.hid hone
      clear hi hlen hth hlo hone
      go_upto_region 10 with (fail)
      refine wp_region_lit ?_
      refine wpList_load_mid rfl 29 (.tmp 3) rfl (w.heap.size + 1) 0 ?_ W.toList (.array 32 5) HLO.out Tryd.underlying29 rfl HI.out ?_
      · rfl
      rw [Array.toArray_toList]
      refine wpList_store_mid rfl 29 (.tmp 2) (.tmp 41) rfl w.heap.size 0 W ?_ ?_ HTH.out ?_ HONE.out ?_
      · rfl
      · rfl
      · rw [HI.out, Array.length_toList]
      go_wp2_with fail
      refine bodyPost_ret (v := .agg W) ?_ rfl ⟨by rw [HS.out], below_setCells _ _ _ _ hbel (Nat.le_refl _)⟩
      rw [results_cell1 (p := 2) (ty := 29) Tryd.results79]
      have hr : (loadVar 29 ⟨w.heap.size, 0, none⟩).run Tryd.prog (wr.setCells w.heap.size 0 W.toList) = .ok (.agg W.toList.toArray) _ :=
        run_loadVar_mid _ w.heap.size 0 29 W.toList (.array 32 5) (World.rangeAt_setCells_same _ _ _ _ (by rw [Array.length_toList]; exact HTH.out)) Tryd.underlying29 rfl HI.out
      rw [Array.toArray_toList] at hr
      exact hr
end Go.Proofs.YtolkpjbbfopmnaaDoor.Sh
namespace Go.Proofs.YtolkpjbbfopmnaaDoor.Sh
open Go.RowKit
def Sha.dg0 : Sha.Dg := ⟨Sha.init, List.replicate 64 0, 0, 0⟩
theorem info39 : (Tryd.prog.info? 144).map (·.size) = some 74 := by kernel_rfl

def zd : Array Value := dcells ⟨⟨0, 0, 0, 0, 0, 0, 0, 0⟩, List.replicate 64 0, 0, 0⟩
theorem zero39 : ∀ w, (zeroValue 144).run Tryd.prog w = .ok (.agg zd) w := (zero_of_info (P := Tryd.prog) (t := 144) (v := .agg zd) (n := 74) (by kernel_rfl)).1

set_option maxRecDepth 100000 in
set_option maxHeartbeats 1000000 in
theorem start_any (w : World) : Calls Tryd.prog 76 #[] w fun e w' => e = .returned (.agg (dcells Sha.dg0)) ∧ Below w.heap.size w w' := by
  have hz := zero39
  have hq : ¬ zd.size < 8 := by
    rw [show zd.size = 74 from by kernel_rfl]; omega
  have hset : (((((((zd.setIfInBounds 0 (Value.int IntKind.u32 1779033703)).setIfInBounds 1 (Value.int IntKind.u32 3144134277)).setIfInBounds 2 (Value.int IntKind.u32 1013904242)).setIfInBounds 3 (Value.int IntKind.u32 2773480762)).setIfInBounds
      4 (Value.int IntKind.u32 1359893119)).setIfInBounds 5 (Value.int IntKind.u32 2600822924)).setIfInBounds 6 (Value.int IntKind.u32 528734635)).setIfInBounds 7 (Value.int IntKind.u32 1541459225) = dcells Sha.dg0 := by kernel_rfl
  go_enter Tryd.func76, Tryd.ntmps76
  go_upto_region 1 with (fail)
  refine wp_region_lit ?_
  iterate 6 go_step
  have hone : (dcells Sha.dg0).all (·.oneCell') = true := by kernel_rfl
  have hsz : (dcells Sha.dg0).size = 74 := by kernel_rfl
  have hzz : zd.size = 74 := by kernel_rfl
  refine wpList_store_made rfl 144 (.tmp 0) (.tmp 2) rfl zd (dcells Sha.dg0) ?_ ?_ ?_ ?_ hone ?_
  · rfl
  · rfl
  · rw [hsz]; exact info39
  · rw [hsz, hzz]
  clear hz hq hset hone hzz
  go_wp2_with fail
  refine bodyPost_ret (v := .agg (dcells Sha.dg0)) ?_ rfl ⟨rfl, (Below.refl _ _).alloc (Nat.le_refl _) _⟩
  rw [results_cell1 (p := 0) (ty := 144) Tryd.results76]
  have hr : (loadVar 144 ⟨w.heap.size, 0, none⟩).run Tryd.prog (w.alloc (.cells (dcells Sha.dg0) 144)) = .ok (.agg (dcells Sha.dg0).toList.toArray) _ :=
    run_loadVar_mid _ w.heap.size 0 144 (dcells Sha.dg0).toList _ (Whole.made _ _ _).range Tryd.underlying144 rfl (by rw [Array.length_toList, hsz]; exact info39)
  rw [Array.toArray_toList] at hr
  exact hr
end Go.Proofs.YtolkpjbbfopmnaaDoor.Sh
namespace Go.Proofs.YtolkpjbbfopmnaaDoor.Sh
open Go.RowKit

/-- The sum of bytes. -/
def Sha.sum (bs : List UInt8) : List UInt8 := Sha.out (Sha.dg0.pushAll (bs ++ Sha.padding bs.length (UInt64.ofNat bs.length * 8))).s

/-- The slice with address A and n elements reads as the bytes bs. -/
def Reads (w : World) (A : Option Addr) (n : Nat) (bs : List UInt8) : Prop :=
  bs.length = n ∧ (0 < n → ∃ b o, A = some ⟨b, o, none⟩ ∧ b < w.heap.size ∧ ∀ j v, bs[j]? = some v → w.cell? ⟨b, o + j, none⟩ = some (V8 v))
/-- The slice with address A and n elements holds slices that read as the lists ls. -/
def Parts (w : World) (A : Option Addr) (n : Nat) (ls : List (List UInt8)) : Prop :=
  ls.length = n ∧ (0 < n → ∃ b o, A = some ⟨b, o, none⟩ ∧ b < w.heap.size ∧
    ∀ j l, ls[j]? = some l → ∃ A' n' c', w.cell? ⟨b, o + j, none⟩ = some (.slice A' n' c') ∧ n' ≤ c' ∧ n' ≤ 140737488355328 ∧ Reads w A' n' l)

theorem Reads.below {w w' : World} {A : Option Addr} {n : Nat} {bs : List UInt8} (h : Reads w A n bs) (hb : Below w.heap.size w w') : Reads w' A n bs :=
  ⟨h.1, fun hn => by
    obtain ⟨b, o, h1, h2, h3⟩ := h.2 hn
    exact ⟨b, o, h1, Nat.lt_of_lt_of_le h2 hb.size, fun j v hv => by rw [hb.cell (p := ⟨b, o + j, none⟩) h2]; exact h3 j v hv⟩⟩
theorem Reads.bytes {w w' : World} {A : Option Addr} {n g : Nat} {bs : List UInt8} (h : Reads w A n bs) (hb : Below w.heap.size w w') (hg : w.heap.size ≤ g) : Bytes w' g A n bs :=
  ⟨h.1, fun hn => by
    obtain ⟨b, o, h1, h2, h3⟩ := h.2 hn
    exact ⟨b, o, h1, by omega, Nat.lt_of_lt_of_le h2 hb.size, fun j v hv => by rw [hb.cell (p := ⟨b, o + j, none⟩) h2]; exact h3 j v hv⟩⟩
theorem Parts.below {w w' : World} {A : Option Addr} {n : Nat} {ls : List (List UInt8)} (h : Parts w A n ls) (hb : Below w.heap.size w w') : Parts w' A n ls :=
  ⟨h.1, fun hn => by
    obtain ⟨b, o, h1, h2, h3⟩ := h.2 hn
    exact ⟨b, o, h1, Nat.lt_of_lt_of_le h2 hb.size, fun j l hl => by
      obtain ⟨A', n', c', k1, k2, k3, k4⟩ := h3 j l hl
      exact ⟨A', n', c', by rw [hb.cell (p := ⟨b, o + j, none⟩) h2]; exact k1, k2, k3, k4.below hb⟩⟩⟩
theorem tab_below {w w' : World} (h : Tab w 1) (hb : Below w.heap.size w w') (hw : 1 < w.heap.size) : Tab w' 1 := fun j hj => by
  rw [hb.cell (p := ⟨1, j, none⟩) hw]; exact h j hj

theorem dg0_ok : Sha.dg0.ok := ⟨rfl, by show 0 < 64; omega⟩
theorem ofNat_add64 (a b : Nat) : UInt64.ofNat a + UInt64.ofNat b = UInt64.ofNat (a + b) := by
  rw [UInt64.ofNat_add]

/-- How it stands behind k parts. -/
structure SumRel (w : World) (M : Nat) (ls : List (List UInt8)) (k : Nat) (wx : World) : Prop where
  dig : Whole wx M 144 (dcells ((Sha.dg0.pushAll (ls.take k).flatten).relen (UInt64.ofNat (ls.take k).flatten.length)))
  res : Whole wx w.heap.size 29 (bcells (List.replicate 32 0))
  low : w.heap.size < M
  bel : Below w.heap.size w wx

theorem sumrel_start (w w1 : World) (ls : List (List UInt8)) (Z : Array Value) (hZ : Z = bcells (List.replicate 32 0)) (hb : Below (w.alloc (.cells Z 29)).heap.size (w.alloc (.cells Z 29)) w1) :
    SumRel w w1.heap.size ls 0 (w1.alloc (.cells (dcells Sha.dg0) 144)) := by
  subst hZ
  have hs : (w.alloc (.cells (bcells (List.replicate 32 0)) 29)).heap.size = w.heap.size + 1 := by simp
  have hs1 := hb.size
  have hbel : Below w.heap.size w w1 := ((Below.refl _ _).alloc (Nat.le_refl _) _).trans (hb.mono (by omega))
  exact ⟨Whole.made _ _ _, ((Whole.made w 29 _).below hb (by omega)).alloc _, by omega, hbel.alloc (by omega) _⟩
theorem take_flatten (ls : List (List UInt8)) (k : Nat) (l : List UInt8) (h : ls[k]? = some l) : (ls.take (k + 1)).flatten = (ls.take k).flatten ++ l := by
  rw [List.take_add_one, h]
  simp
theorem sumrel_step {w wx w' : World} {M k : Nat} {ls : List (List UInt8)} {l : List UInt8} (h : SumRel w M ls k wx) (hl : ls[k]? = some l)
    (h1 : Whole w' M 144 (dcells (((Sha.dg0.pushAll (ls.take k).flatten).relen (UInt64.ofNat (ls.take k).flatten.length)).add l))) (h2 : wx.grownBy w' (some M)) : SumRel w M ls (k + 1) w' := by
  have hlow := h.low
  refine ⟨?_, (h2.block _ h.res.lt (fun e => by injection e with e; omega)).trans h.res, h.low, ?_⟩
  · rw [take_flatten ls k l hl, List.length_append, ← ofNat_add64, Sha.Dg.pushAll_append]
    rw [Sha.Dg.add_eq, Sha.Dg.pushAll_relen] at h1
    exact h1
  · exact ⟨h2.os.trans h.bel.os, h2.tape.trans h.bel.tape, h2.output.trans h.bel.output, Nat.le_trans h.bel.size h2.size, fun i hi => (h2.block i (Nat.lt_of_lt_of_le hi h.bel.size) (fun e => by injection e with e; omega)).trans (h.bel.block i hi)⟩
theorem padding_mod (n : Nat) (L : UInt64) : Sha.padding (n % 64) L = Sha.padding n L := by
  unfold Sha.padding Sha.zeros
  rw [Nat.mod_mod]

theorem sum_final (bs : List UInt8) (x : UInt64) :
    Sha.out ((((Sha.dg0.pushAll bs).relen (UInt64.ofNat bs.length)).pushAll (Sha.padding ((Sha.dg0.pushAll bs).relen (UInt64.ofNat bs.length)).n (((Sha.dg0.pushAll bs).relen (UInt64.ofNat bs.length)).len * 8))).relen x).s = Sha.sum bs := by
  have hn : ((Sha.dg0.pushAll bs).relen (UInt64.ofNat bs.length)).n = bs.length % 64 := by
    show (Sha.dg0.pushAll bs).n = _
    rw [Sha.Dg.pushAll_n _ _ dg0_ok]
    show (0 + bs.length) % 64 = _
    rw [Nat.zero_add]
  have hlen : ((Sha.dg0.pushAll bs).relen (UInt64.ofNat bs.length)).len = UInt64.ofNat bs.length := rfl
  rw [hn, hlen, padding_mod, Sha.Dg.pushAll_relen, ← Sha.Dg.pushAll_append]
  rfl
set_option maxRecDepth 100000 in
set_option maxHeartbeats 1000000 in
theorem sum_any (A : Option Addr) (n c : Nat) (ls : List (List UInt8)) (w : World) (hP : Parts w A n ls) (hn : n ≤ 140737488355328) (ht : Tab w 1) (hw : 1 < w.heap.size) :
    Calls Tryd.prog 57 #[.slice A n c] w fun e w' => e = .returned (.agg (bcells (Sha.sum ls.flatten))) ∧ Below w.heap.size w w' := by
  have HP := Lib.hid hP
  have HT := Lib.hid ht
  clear hP ht
  have hz := zero39
  go_enter Tryd.func57, Tryd.ntmps57
  go_wp2_with fail
  refine (start_any _).mono ?_
  rintro e w1 ⟨rfl, hb1⟩
  simp only []
  iterate 4 go_step
  have hs := sumrel_start w w1 ls _ rfl hb1
  have hM := hs.low
  clear hb1
  refine wpList_store_made rfl 144 (.tmp 3) (.tmp 6) rfl zd (dcells Sha.dg0) ?_ ?_ ?_ ?_ (by kernel_rfl) ?_
  · rfl
  · rfl
  · rw [show (dcells Sha.dg0).size = 74 by kernel_rfl]; exact info39
  · kernel_rfl
  generalize w1.alloc (.cells (dcells Sha.dg0) 144) = w2 at *
  generalize w1.heap.size = M at *
  have HS := Lib.hid hs
  clear hs hz
  go_wp2_with fail
  go_loopw [9] (fun i wx => ∃ k : Nat, k ≤ n ∧ i = .int .i64 k ∧ SumRel w M ls k wx) (fun i _ => n - (intOf i).toNat)
  case atStart => exact ⟨0, by omega, rfl, HS.out⟩
  case round =>
    clear HS
    obtain ⟨k, hk, rfl, hrel⟩ := hrel
    have hok := Sha.Dg.ok_relen (Sha.Dg.ok_pushAll dg0_ok (ls.take k).flatten) (UInt64.ofNat (ls.take k).flatten.length)
    have hM1 : 1 ≠ M := by omega
    have ht2 := tab_below HT.out hrel.bel hw
    have hw2 : 1 < wr.heap.size := by have := hrel.bel.size; omega
    have HOK := Lib.hid hok
    have HT2 := Lib.hid ht2
    clear hok ht2
    by_cases hlt : k < n
    · obtain ⟨b, o, rfl, hb, hall⟩ := HP.out.2 (by omega)
      obtain ⟨l, hl⟩ : ∃ l, ls[k]? = some l := ⟨ls[k]'(by rw [HP.out.1]; exact hlt), List.getElem?_eq_getElem _⟩
      obtain ⟨A', n', c', hc, hnc, hcc, hr⟩ := hall k l hl
      have hc2 := (hrel.bel.cell (p := ⟨b, o + k, none⟩) hb).trans hc
      have HB := Lib.hid (hr.bytes hrel.bel (g := M) (by omega))
      have HREL := Lib.hid hrel
      have HLL := Lib.hid hl
      clear hrel hl hc hr hall
      go_wp2_with fail
      refine (add_any M _ HOK.out A' n' c' l _ HREL.out.dig HB.out hnc hcc HT2.out hw2 hM1).mono ?_
      rintro e w3 ⟨rfl, h3⟩
      go_wp2_with fail
      go_roundw
      case rel => exact ⟨k + 1, by omega, by go_num, sumrel_step HREL.out HLL.out h3.1 h3.2⟩
      case measure => simp [intOf]; omega
    · obtain rfl : k = n := by omega
      have htk : ls.take k = ls := List.take_of_length_le (by rw [HP.out.1]; exact Nat.le_refl _)
      have hdig := hrel.dig
      rw [htk] at hdig HOK
      clear htk
      have HDIG := Lib.hid hdig
      have HREL := Lib.hid hrel
      clear hrel hdig
      go_wp2_with fail
      refine (pad_any M _ HOK.out _ HDIG.out HT2.out hw2 hM1).mono ?_
      rintro e w3 ⟨rfl, x, h3, hg3⟩
      have HG3 := Lib.hid hg3
      clear hg3
      go_wp2_with fail
      refine (hash_any M _ _ h3).mono ?_
      rintro e w4 ⟨rfl, hb4⟩
      rw [sum_final] 
      have hres : Whole w4 w.heap.size 29 (bcells (List.replicate 32 0)) := by
        have h5 : Whole w3 w.heap.size 29 (bcells (List.replicate 32 0)) := (HG3.out.block _ HREL.out.res.lt (fun e => by injection e with e; omega)).trans HREL.out.res
        exact h5.below hb4 h5.lt
      have hbel : Below w.heap.size w w4 := by
        have h6 : Below w.heap.size w w3 := ⟨HG3.out.os.trans HREL.out.bel.os, HG3.out.tape.trans HREL.out.bel.tape, HG3.out.output.trans HREL.out.bel.output, Nat.le_trans HREL.out.bel.size HG3.out.size,
          fun i hi => (HG3.out.block i (Nat.lt_of_lt_of_le hi HREL.out.bel.size) (fun e => by injection e with e; omega)).trans (HREL.out.bel.block i hi)⟩
        exact h6.trans (hb4.mono h6.size)
      have hlen : (bcells (Sha.sum ls.flatten)).size = 32 := by rw [bcells_size]; exact Sha.outTo_length _ _
      have hone := bcells_one (Sha.sum ls.flatten)
      have hth : w4.there w.heap.size 0 (bcells (Sha.sum ls.flatten)).size := by
        have := hres.there_
        rwa [bcells_size, List.length_replicate, ← hlen] at this
      clear h3 hb4 HG3 HREL HDIG HT2 HOK hres
      generalize hW : bcells (Sha.sum ls.flatten) = W at *
      have HW := Lib.hid hW
      have HTH := Lib.hid hth
      have HONE := Lib.hid hone
      have HLEN := Lib.hid hlen
      clear hW hth hone hlen
      simp only []
      go_step
      refine wpList_store_mid rfl 29 (.tmp 2) (.tmp 17) rfl w.heap.size 0 W ?_ ?_ HTH.out ?_ HONE.out ?_
      · rfl
      · rfl
      · rw [HLEN.out]; exact info25
      go_wp2_with fail
      refine bodyPost_ret (v := .agg W) ?_ rfl ⟨by rw [HW.out], below_setCells _ _ _ _ hbel (Nat.le_refl _)⟩
      rw [results_cell1 (p := 2) (ty := 29) Tryd.results57]
      have hr : (loadVar 29 ⟨w.heap.size, 0, none⟩).run Tryd.prog (w4.setCells w.heap.size 0 W.toList) = .ok (.agg W.toList.toArray) _ :=
        run_loadVar_mid _ w.heap.size 0 29 W.toList (.array 32 5) (World.rangeAt_setCells_same _ _ _ _ (by rw [Array.length_toList]; exact HTH.out)) Tryd.underlying29 rfl (by rw [Array.length_toList, HLEN.out]; exact info25)
      rw [Array.toArray_toList] at hr
      exact hr
end Go.Proofs.YtolkpjbbfopmnaaDoor.Sh
