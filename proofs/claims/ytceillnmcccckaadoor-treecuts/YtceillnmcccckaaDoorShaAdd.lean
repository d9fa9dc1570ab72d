/-
  What the digest's method add does: the running sum takes in the bytes of a slice one by one, and nothing else of what was there has turned; conditions: the digest is in order, the bytes lie in another block than it, the table holds its words.
-/
import Derived.Test.YtceillnmcccckaaDoorShaDig
namespace Go.Proofs.YtceillnmcccckaaDoor.Sh
open Go.RowKit
theorem wcells_V (l : List UInt32) : wcells l = (l.map V32).toArray := rfl
theorem bcells_V (l : List UInt8) : bcells l = (l.map V8).toArray := rfl

/-- The slice with address A and n elements reads as the bytes bs, and none of them lies in block g. -/
def Bytes (w : World) (g : Nat) (A : Option Addr) (n : Nat) (bs : List UInt8) : Prop :=
  bs.length = n ∧ (0 < n → ∃ b o, A = some ⟨b, o, none⟩ ∧ b ≠ g ∧ b < w.heap.size ∧ ∀ j v, bs[j]? = some v → w.cell? ⟨b, o + j, none⟩ = some (V8 v))

def slen : Value → Nat
  | .slice _ n _ => n
  | _ => 0

structure ARel (g : Nat) (w : World) (D : Sha.Dg) (wx : World) : Prop where
  dig : Whole wx g 108 (dcells D)
  ok : D.ok
  grown : w.grownBy wx (some g)
  tab : Tab wx 1

def ALoop (g : Nat) (w : World) (E : Sha.Dg) (p : Value) (wx : World) : Prop :=
  ∃ A n c rest D, p = .slice A n c ∧ n ≤ c ∧ n ≤ 140737488355328 ∧ Bytes wx g A n rest ∧ ARel g w D wx ∧ D.pushAll rest = E

theorem wadd_u64n (x : UInt64) (n : Nat) : IntKind.u64.wrap ((x.toNat : Int) + (n : Int)) = ((x + UInt64.ofNat n).toNat : Int) := by
  rw [IntKind.wrap_u64, UInt64.toNat_add, UInt64.toNat_ofNat']
  omega

theorem grown_setCell {w : World} {g i : Nat} (u : Value) : w.grownBy (w.setCell ⟨g, i, none⟩ u) (some g) :=
  ⟨rfl, rfl, rfl, by simp, fun k _ hne => Below.heap_setCell w ⟨g, i, none⟩ u k (fun e => hne (by rw [e]))⟩
theorem tab_setCell {w : World} {g i : Nat} (u : Value) (hg : 1 ≠ g) (h : Tab w 1) : Tab (w.setCell ⟨g, i, none⟩ u) 1 := fun j hj => by
  rw [World.cell?_setCell_other _ _ _ _ (fun e => by injection e with e; omega)]
  exact h j hj
theorem bytes_setCell {w : World} {g i : Nat} {A : Option Addr} {n : Nat} {bs : List UInt8} (u : Value) (h : Bytes w g A n bs) : Bytes (w.setCell ⟨g, i, none⟩ u) g A n bs :=
  ⟨h.1, fun hn => by
    obtain ⟨b, o, h1, h2, h3, h4⟩ := h.2 hn
    exact ⟨b, o, h1, h2, by simpa using h3, fun j v hv => by
      rw [World.cell?_setCell_other _ _ _ _ (fun e => by injection e with e; exact h2 e.symm)]
      exact h4 j v hv⟩⟩

theorem aloop_start (g : Nat) (D : Sha.Dg) (hok : D.ok) (A : Option Addr) (n c : Nat) (bs : List UInt8) (w : World) (hD : Whole w g 108 (dcells D)) (hB : Bytes w g A n bs)
    (hnc : n ≤ c) (hc : n ≤ 140737488355328) (ht : Tab w 1) (hg : 1 ≠ g) :
    ALoop g w (D.add bs) (.slice A n c) (w.setCell ⟨g, 73, none⟩ (.int .u64 (IntKind.u64.wrap ((D.len.toNat : Int) + (n : Int))))) := by
  refine ⟨A, n, c, bs, ⟨D.s, D.blk, D.n, D.len + UInt64.ofNat bs.length⟩, rfl, hnc, hc, bytes_setCell _ hB, ⟨?_, ⟨hok.1, hok.2⟩, grown_setCell _, tab_setCell _ hg ht⟩, rfl⟩
  rw [wadd_u64n, ← hB.1]
  have h := hD.set 73 (.int .u64 ((D.len + UInt64.ofNat bs.length).toNat : Int))
  rw [dcells, List.setIfInBounds_toArray, dvals_set73 _ _ _ _ _ hok.1] at h
  exact h

theorem grown_drew {w : World} {row : Option Nat} : w.grownBy w.drew row := ⟨rfl, rfl, rfl, Nat.le_refl _, fun _ _ _ => rfl⟩
theorem grown_setCells {g : Nat} : ∀ (vs : List Value) (o : Nat) (w : World), w.grownBy (w.setCells g o vs) (some g)
  | [], _, w => World.grownBy.refl w _
  | v :: r, o, _ => (grown_setCell v).trans (grown_setCells r (o + 1) _)
theorem tab_grown {w w' : World} {g : Nat} (h : Tab w 1) (hb : w.grownBy w' (some g)) (hw : 1 < w.heap.size) (hg : 1 ≠ g) : Tab w' 1 := fun j hj => by
  rw [World.cell?_of_block (w := w) (hb.block 1 hw (fun e => hg (by injection e)))]
  exact h j hj
theorem bytes_grown {w w' : World} {g : Nat} {A : Option Addr} {n : Nat} {bs : List UInt8} (h : Bytes w g A n bs) (hb : w.grownBy w' (some g)) : Bytes w' g A n bs :=
  ⟨h.1, fun hn => by
    obtain ⟨b, o, h1, h2, h3, h4⟩ := h.2 hn
    exact ⟨b, o, h1, h2, Nat.lt_of_lt_of_le h3 hb.size, fun j v hv => by
      rw [World.cell?_of_block (w := w) (hb.block b h3 (fun e => h2 (by injection e)))]
      exact h4 j v hv⟩⟩
theorem bytes_cut {w : World} {g b o n c m : Nat} {bs : List UInt8} (h : Bytes w g (some ⟨b, o, none⟩) n bs) (hm : m ≤ n) (hc : n ≤ c) :
    Bytes w g (if c = m then some ⟨b, o, none⟩ else some ⟨b, o + m, none⟩) (n - m) (bs.drop m) :=
  ⟨by rw [List.length_drop, h.1], fun hn => by
    obtain ⟨b', o', h1, h2, h3, h4⟩ := h.2 (by omega)
    injection h1 with h1
    injection h1 with e1 e2
    subst e1 e2
    rw [if_neg (by omega)]
    exact ⟨b, o + m, rfl, h2, h3, fun j v hv => by
      rw [Nat.add_assoc]
      exact h4 (m + j) v (by rw [← hv, List.getElem?_drop])⟩⟩

theorem whole_count {w : World} {g : Nat} (s : Sha.St) (blk : List UInt8) (n m : Nat) (len : UInt64) (hl : blk.length = 64) (h : Whole w g 108 (dvals s blk n len).toArray) :
    Whole (w.setCell ⟨g, 72, none⟩ (.int .i64 m)) g 108 (dvals s blk m len).toArray := by
  have := h.set 72 (.int .i64 m)
  rw [List.setIfInBounds_toArray, dvals_set72 _ _ _ _ _ hl] at this
  exact this
/-- A whole array read out of the middle of a block, in a region whose operations only read. -/
theorem wpStill_load_mid {P : Program} {ops : Array Oper} {w : World} {Q : Act → Prop} {rest : List Oper} {op : Oper} {a : Act} (hw : Region.wanted op (yielded ops a.tmps) = true)
    (ty : TypeId) (x : Operand) (ho : op.op = .load ty x) (b o : Nat) (hx : a.eval x = .pointer (some ⟨b, o, none⟩)) (cs : List Value) (d : TypeDesc) (hc : w.rangeAt b o cs)
    (hu : P.underlying ty = some d) (hd : d.isRow = true) (hi : (P.info? ty).map (·.size) = some cs.length)
    (h : wpStill P ops w Q rest (a.put op.dst (.agg cs.toArray))) : wpStill P ops w Q (op :: rest) a := by
  unfold wpStill
  rw [if_pos hw]
  unfold Oper.still execOp
  simp only [ho, hx, Instr.loadAt, Instr.sureAddr, Sem.run_bind, Sem.run_pure, Result.andThen_ok, run_loadVar_mid w b o ty cs d hc hu hd hi]
  exact ⟨rfl, h⟩

theorem wpOp_of_wp {P : Program} {ops : Array Oper} {Q : Exit → Act → World → Prop} {i : Nat} {o : Oper} {K : Act → World → Prop} {a : Act} {w : World} (hi : ops[i]? = some o) (hw : Region.wanted o (yielded ops a.tmps) = true)
    (h : o.wp P a w K Q) : wpOp P ops Q i K a w := by
  unfold wpOp
  simp only [hi, hw, if_true]
  exact .inl h

theorem run_copy_into {w : World} {g b o n c m : Nat} {D : Sha.Dg} {bs : List UInt8} (hD : Whole w g 108 (dcells D)) (hok : D.ok) (hm : m = Nat.min n (64 - D.n)) (hn : bs.length = n)
    (hbc : ∀ j v, bs[j]? = some v → w.cell? ⟨b, o + j, none⟩ = some (V8 v)) :
    (Builtin.copy_ #[27, 27] 3 #[.slice (some ⟨g, 8 + D.n, none⟩) (64 - D.n) (64 - D.n), .slice (some ⟨b, o, none⟩) n c]).run Tryd.prog w = .ok (.int .i64 m) (w.setCells g (8 + D.n) ((bs.take m).map V8)) := by
  have hm1 : m ≤ n ∧ m ≤ 64 - D.n := by rw [hm]; simp only [Nat.min_def]; split <;> omega
  have hl : ((bs.take m).map V8).length = m := by simp; omega
  have := run_copy_cells (P := Tryd.prog) w 27 27 3 5 g (8 + D.n) (64 - D.n) (64 - D.n) ⟨b, o, none⟩ n c ((bs.take m).map V8) Tryd.underlying27 (by kernel_rfl) (by rw [hl, hm])
    (fun j v hv => by
      rw [Addr.add_mid]
      rw [List.getElem?_map, Option.map_eq_some_iff] at hv
      obtain ⟨x, hx, rfl⟩ := hv
      have hx' : bs[j]? = some x := by
        rw [List.getElem?_take] at hx
        split at hx
        · exact hx
        · cases hx
      exact hbc j x hx')
    (fun j hj => by
      rw [hl] at hj
      rw [hD.at_ (v := (dvals D.s D.blk D.n D.len)[8 + D.n + j]'(by rw [dvals_length _ _ _ _ hok.1]; have := hok.2; omega)) (by rw [dcells, List.getElem?_toArray, List.getElem?_eq_getElem])]
      rfl)
    (fun j _ => hD.free _)
    (fun v hv => by
      simp only [List.mem_map] at hv
      obtain ⟨x, _, rfl⟩ := hv
      rfl)
  rw [hl] at this
  exact this

set_option maxRecDepth 100000 in
set_option maxHeartbeats 4000000 in
theorem add_any (g : Nat) (D : Sha.Dg) (hok : D.ok) (A : Option Addr) (n c : Nat) (bs : List UInt8) (w : World) (hD : Whole w g 108 (dcells D)) (hB : Bytes w g A n bs)
    (hnc : n ≤ c) (hc : n ≤ 140737488355328) (ht : Tab w 1) (hw : 1 < w.heap.size) (hg : 1 ≠ g) :
    Calls Tryd.prog 64 #[.pointer (some ⟨g, 0, none⟩), .slice A n c] w fun e w' => e = .returned (.tuple #[]) ∧ Whole w' g 108 (dcells (D.add bs)) ∧ w.grownBy w' (some g) := by
  have c73 := hD.at_ (by rw [dcells, List.getElem?_toArray]; exact dvals_73 _ _ _ _ hok.1)
  have f73 := hD.free 73
  have HS := Lib.hid (aloop_start g D hok A n c bs w hD hB hnc hc ht hg)
  clear hD hB hok ht
  go_enter Tryd.func64, Tryd.ntmps64
  go_wp2_with fail
  go_loopw [1] (fun p wx => ALoop g w (D.add bs) p wx) (fun p _ => slen p)
  case atStart => exact HS.out
  case round =>
    clear HS c73 f73
    obtain ⟨A', n', c', rest, D', rfl, hnc', hc', hB, hrel, hall⟩ := hrel
    by_cases hpos : 0 < n'
    · obtain ⟨b, o, rfl, hbg, hbs, hbc⟩ := hB.2 hpos
      have hf := hrel.ok.2
      obtain ⟨m, hm⟩ : ∃ m, m = Nat.min n' (64 - D'.n) := ⟨_, rfl⟩
      have hm1 : 1 ≤ m ∧ m ≤ n' ∧ m ≤ 64 - D'.n := by rw [hm]; simp only [Nat.min_def]; split <;> omega
      have c72 := hrel.dig.at_ (by rw [dcells, List.getElem?_toArray]; exact dvals_72 _ _ _ _ hrel.ok.1)
      have f0 : (D'.n : Int) ≤ 64 := by omega
      have f1 : ¬ 64 = D'.n := by omega
      have f2 : (0 : Int) < (n' : Int) := by omega
      have HREL := Lib.hid hrel
      have HB := Lib.hid hB
      have HBC := Lib.hid hbc
      have HALL := Lib.hid hall
      have HM := Lib.hid hm
      clear hrel hB hbc hall hm
      go_upto_region 2 with (fail)
      go_still_tail 9, (by kernel_rfl)
      change wpList _ _ _ _ _ wr.drew
      have hcopy := run_copy_into (c := c') (HREL.out.dig.drew) HREL.out.ok HM.out HB.out.1 (b := b) (o := o) HBC.out
      obtain ⟨w2, hw2⟩ : ∃ w2, w2 = wr.drew.setCells g (8 + D'.n) ((rest.take m).map V8) := ⟨_, rfl⟩
      rw [← hw2] at hcopy
      have hg2 : wr.grownBy w2 (some g) := by rw [hw2]; exact grown_drew.trans (grown_setCells _ _ _)
      have hd2 : Whole w2 g 108 (dvals D'.s (Sha.lay D'.blk D'.n (rest.take m)) D'.n D'.len).toArray := by
        rw [hw2]
        exact whole_lay _ _ _ _ _ HREL.out.ok.1 (by rw [List.length_take]; omega) _ HREL.out.dig.drew
      have HW2 := Lib.hid hw2
      have HG2 := Lib.hid hg2
      have HD2 := Lib.hid hd2
      clear hw2 hg2 hd2
      go_upto_region 3 with (fail)
      clear hcopy c72
      have m1 : (m : Int) ≤ (n' : Int) := by omega
      go_upto_region 4 with (fail)
      have hB2 := bytes_cut (bytes_grown HB.out HG2.out) hm1.2.1 hnc' (c := c')
      generalize (if c' = m then (some ⟨b, o, none⟩ : Option Addr) else some ⟨b, o + m, none⟩) = A2 at *
      have HB2 := Lib.hid hB2
      clear hB2
      have hbl : (Sha.lay D'.blk D'.n (rest.take m)).length = 64 := by
        rw [Sha.lay_length _ _ _ (by rw [HREL.out.ok.1, List.length_take]; omega), HREL.out.ok.1]
      have hl : (rest.take m).length = m := by rw [List.length_take, HB.out.1]; omega
      have c72 := HD2.out.at_ (by rw [List.getElem?_toArray]; exact dvals_72 _ _ _ _ hbl)
      have f72 := HD2.out.free 72
      have HBL := Lib.hid hbl
      have HL := Lib.hid hl
      clear hbl hl
      have hcast : ((D'.n : Int) + (m : Int)) = ((D'.n + m : Nat) : Int) := by omega
      have HCAST := Lib.hid hcast
      clear hcast
      have HG := Lib.hid (HREL.out.grown.trans HG2.out)
      have HTB := Lib.hid (tab_grown HREL.out.tab HG2.out (by have := HREL.out.grown.size; omega) hg)
      by_cases hfull : D'.n + m = 64
      · have q64 : (((D'.n : Int) + (m : Int)) == 64) = true := by rw [beq_iff_eq]; omega
        have hw3 : ARel g w ⟨D'.s, Sha.lay D'.blk D'.n (rest.take m), D'.n + m, D'.len⟩ (w2.setCell ⟨g, 72, none⟩ (.int .i64 ((D'.n : Int) + (m : Int)))) ∨ True := .inr trivial
        have hd3 : Whole (w2.setCell ⟨g, 72, none⟩ (.int .i64 ((D'.n : Int) + (m : Int)))) g 108 (dvals D'.s (Sha.lay D'.blk D'.n (rest.take m)) (D'.n + m) D'.len).toArray := by
          rw [HCAST.out]; exact whole_count _ _ _ _ _ HBL.out HD2.out
        have ht3 : Tab (w2.setCell ⟨g, 72, none⟩ (.int .i64 ((D'.n : Int) + (m : Int)))) 1 := tab_setCell _ hg HTB.out
        have hg3 : w.grownBy (w2.setCell ⟨g, 72, none⟩ (.int .i64 ((D'.n : Int) + (m : Int)))) (some g) := HG.out.trans (grown_setCell _)
        have hb3 := bytes_setCell (i := 72) (.int .i64 ((D'.n : Int) + (m : Int))) HB2.out
        have HD3 := Lib.hid hd3
        have HT3 := Lib.hid ht3
        have HG3 := Lib.hid hg3
        have HB3 := Lib.hid hb3
        clear hd3 ht3 hg3 hb3 hw3
        go_upto_region 6 with (fail)
        clear c72 f72 HB2 HD2 HG2 HW2 HTB HG q64
        generalize w2.setCell ⟨g, 72, none⟩ (.int .i64 ((D'.n : Int) + (m : Int))) = w3 at *
        obtain ⟨bl, hbl2⟩ : ∃ bl, Sha.lay D'.blk D'.n (rest.take m) = bl := ⟨_, rfl⟩
        have HBL2 := Lib.hid hbl2
        rw [hbl2] at HD3 HBL
        clear hbl2
        refine wp_region_any (by kernel_rfl) ?_
        change wpAny _ _ _ _ _ _ _ w3.drew
        refine wpAny_take (i := 0) (v := .pointer (some ⟨g, 0, none⟩)) rfl (by kernel_rfl) (by kernel_rfl) (by kernel_rfl) (fun _ _ _ h => h) (Or.inl ⟨by rfl, fun _ => by go_simp⟩) ?_
        go_simp
        refine wpAny_take (i := 1) (v := .pointer (some ⟨g, 0, none⟩)) rfl (by kernel_rfl) (by kernel_rfl) (by kernel_rfl) (fun _ _ _ h => h) (Or.inl ⟨by rfl, fun _ => by go_simp⟩) ?_
        go_simp
        refine wpAny_take (i := 2) (v := .pointer (some ⟨g, 0, none⟩)) rfl (by kernel_rfl) (by kernel_rfl) (by kernel_rfl) (fun _ _ _ h => h) (Or.inl ⟨by rfl, fun _ => by go_simp⟩) ?_
        go_simp
        refine wpAny_take (i := 3) (v := .pointer (some ⟨g, 0, none⟩)) rfl (by kernel_rfl) (by kernel_rfl) (by kernel_rfl) (fun _ _ _ h => h) (Or.inl ⟨by rfl, fun _ => by go_simp⟩) ?_
        go_simp
        refine wpAny_take (i := 5) (v := .pointer (some ⟨g, 0, none⟩)) rfl (by kernel_rfl) (by kernel_rfl) (by kernel_rfl) (fun _ _ _ h => h) (Or.inl ⟨by rfl, fun _ => by go_simp⟩) ?_
        go_simp
        refine wpAny_take (i := 6) (v := .pointer (some ⟨g, 0, none⟩)) rfl (by kernel_rfl) (by kernel_rfl) (by kernel_rfl) (fun _ _ _ h => h) (Or.inl ⟨by rfl, fun _ => by go_simp⟩) ?_
        go_simp
        refine wpAny_take (i := 7) (v := .pointer (some ⟨g, 8, none⟩)) rfl (by kernel_rfl) (by kernel_rfl) (by kernel_rfl) (fun _ _ _ h => h) (Or.inl ⟨by rfl, fun _ => by go_simp⟩) ?_
        go_simp
        have r35 := range_words _ _ _ _ HD3.out.drew
        have r36 := range_blk _ _ _ _ HD3.out.drew
        have i35 : (Tryd.prog.info? 105).map (·.size) = some (D'.s.list.map V32).length := info35
        have i36 : (Tryd.prog.info? 106).map (·.size) = some (bl.map V8).length := by rw [List.length_map, HBL.out]; exact info36
        have R35 := Lib.hid r35
        have R36 := Lib.hid r36
        have I35 := Lib.hid i35
        have I36 := Lib.hid i36
        clear r35 r36 i35 i36
        refine wpAny_all (rs := [4, 8]) (by kernel_rfl) (by simp) ?_
        intro i hi
        simp only [List.mem_cons, List.not_mem_nil, or_false] at hi
        rcases hi with rfl | rfl
        · refine wpOp_of_wp rfl (by rfl) ?_
          refine wp_load_mid 105 (.tmp 47) rfl g 0 (by rfl) (D'.s.list.map V32) (.array 8 96) R35.out Tryd.underlying105 rfl I35.out ?_
          go_simp
          refine wpAny_all (rs := [8]) (by kernel_rfl) (by simp) ?_
          intro i hi
          simp only [List.mem_cons, List.not_mem_nil, or_false] at hi
          subst hi
          refine wpOp_of_wp rfl (by rfl) ?_
          refine wp_load_mid 106 (.tmp 51) rfl g 8 (by rfl) (bl.map V8) (.array 64 5) R36.out Tryd.underlying106 rfl I36.out ?_
          go_simp
          refine wpAny_all (rs := [9]) (by kernel_rfl) (by simp) ?_
          intro i hi
          simp only [List.mem_cons, List.not_mem_nil, or_false] at hi
          subst hi
          refine wpOp_of_wp rfl (by rfl) ?_
          go_simp
          rw [← wcells_V, ← bcells_V]
          refine (mix_any D'.s bl HBL.out w3.drew HT3.out (by have := HG3.out.size; show 1 < w3.heap.size; omega)).mono ?_
          rintro e w4 ⟨rfl, hb4⟩
          simp only []
          have hd4 := HD3.out.drew.below hb4 HD3.out.lt
          have hd5 := whole_words _ (Sha.mix D'.s bl) _ _ _ hd4
          have ht4 : w4.there g 0 (wcells (Sha.mix D'.s bl).list).size := fun j hj => by
            rw [wcells_size] at hj
            have hj8 : j < 8 := hj
            have hlen := dvals_length D'.s bl (D'.n + m) D'.len HBL.out
            rw [Nat.zero_add]
            exact ⟨by rw [hd4.at_ (v := (dvals D'.s bl (D'.n + m) D'.len)[j]'(by omega)) (by rw [List.getElem?_toArray, List.getElem?_eq_getElem])]; rfl, hd4.free j⟩
          have hg4 : w3.grownBy w4 (some g) := ⟨hb4.os, hb4.tape, hb4.output, hb4.size, fun k hk _ => hb4.block k hk⟩
          have hg5 := HG3.out.trans (hg4.trans (grown_setCells ((Sha.mix D'.s bl).list.map V32) 0 w4))
          have hb5 := bytes_grown HB3.out (hg4.trans (grown_setCells ((Sha.mix D'.s bl).list.map V32) 0 w4))
          have ht5 := tab_grown HT3.out (hg4.trans (grown_setCells ((Sha.mix D'.s bl).list.map V32) 0 w4)) (by have := HG3.out.size; omega) hg
          have HT4 := Lib.hid ht4
          have HD5 := Lib.hid hd5
          have HG5 := Lib.hid hg5
          have HB5 := Lib.hid hb5
          have HT5 := Lib.hid ht5
          clear hd4 hd5 ht4 hg4 hg5 hb5 ht5 hb4 HT3 HG3 HB3 HD3 R35 R36 I35 I36
          refine wpAny_take (i := 10) (v := .pointer (some ⟨g, 0, none⟩)) rfl (by kernel_rfl) (by kernel_rfl) (by kernel_rfl) (fun _ _ _ h => h) (Or.inl ⟨by rfl, fun _ => by go_simp⟩) ?_
          go_simp
          refine wpAny_take (i := 11) (v := .pointer (some ⟨g, 0, none⟩)) rfl (by kernel_rfl) (by kernel_rfl) (by kernel_rfl) (fun _ _ _ h => h) (Or.inl ⟨by rfl, fun _ => by go_simp⟩) ?_
          go_simp
          refine wpAny_all (rs := [12]) (by kernel_rfl) (by simp) ?_
          intro i hi
          simp only [List.mem_cons, List.not_mem_nil, or_false] at hi
          subst hi
          refine wpOp_of_wp rfl (by rfl) ?_
          refine wp_store_mid 105 (.tmp 55) (.tmp 53) rfl g 0 (wcells (Sha.mix D'.s bl).list) (by rfl) (by rfl) HT4.out (by rw [wcells_size]; exact info35) (wcells_one _) ?_
          refine wpAny_done (by kernel_rfl) ?_ _
          rw [show (wcells (Sha.mix D'.s bl).list).toList = (Sha.mix D'.s bl).list.map V32 from rfl]
          clear HT4
          generalize w4.setCells g 0 ((Sha.mix D'.s bl).list.map V32) = w5 at *
          have c72 := HD5.out.at_ (by rw [List.getElem?_toArray]; exact dvals_72 _ _ _ _ HBL.out)
          have f72 := HD5.out.free 72
          go_wp2_with fail
          go_roundw
          case rel =>
            refine ⟨A2, n' - m, c' - m, rest.drop m, ⟨Sha.mix D'.s bl, bl, 0, D'.len⟩, rfl, by omega, by omega, bytes_setCell _ HB5.out, ⟨?_, ⟨HBL.out, by show 0 < 64; omega⟩, HG5.out.trans (grown_setCell _), tab_setCell _ hg HT5.out⟩, ?_⟩
            · exact whole_count _ _ _ 0 _ HBL.out HD5.out
            · have h1 := Sha.pushAll_full D' (rest.take m) HREL.out.ok.1 (by intro h0; have := HL.out; rw [h0] at this; simp at this; omega) (by rw [HL.out]; omega)
              rw [HBL2.out] at h1
              rw [← h1, ← Sha.Dg.pushAll_append, List.take_append_drop]
              exact HALL.out
          case measure =>
            simp [slen]
            omega
        · refine wpOp_of_wp rfl (by rfl) ?_
          refine wp_load_mid 106 (.tmp 51) rfl g 8 (by rfl) (bl.map V8) (.array 64 5) R36.out Tryd.underlying106 rfl I36.out ?_
          go_simp
          refine wpAny_all (rs := [4]) (by kernel_rfl) (by simp) ?_
          intro i hi
          simp only [List.mem_cons, List.not_mem_nil, or_false] at hi
          subst hi
          refine wpOp_of_wp rfl (by rfl) ?_
          refine wp_load_mid 105 (.tmp 47) rfl g 0 (by rfl) (D'.s.list.map V32) (.array 8 96) R35.out Tryd.underlying105 rfl I35.out ?_
          go_simp
          refine wpAny_all (rs := [9]) (by kernel_rfl) (by simp) ?_
          intro i hi
          simp only [List.mem_cons, List.not_mem_nil, or_false] at hi
          subst hi
          refine wpOp_of_wp rfl (by rfl) ?_
          go_simp
          rw [← wcells_V, ← bcells_V]
          refine (mix_any D'.s bl HBL.out w3.drew HT3.out (by have := HG3.out.size; show 1 < w3.heap.size; omega)).mono ?_
          rintro e w4 ⟨rfl, hb4⟩
          simp only []
          have hd4 := HD3.out.drew.below hb4 HD3.out.lt
          have hd5 := whole_words _ (Sha.mix D'.s bl) _ _ _ hd4
          have ht4 : w4.there g 0 (wcells (Sha.mix D'.s bl).list).size := fun j hj => by
            rw [wcells_size] at hj
            have hj8 : j < 8 := hj
            have hlen := dvals_length D'.s bl (D'.n + m) D'.len HBL.out
            rw [Nat.zero_add]
            exact ⟨by rw [hd4.at_ (v := (dvals D'.s bl (D'.n + m) D'.len)[j]'(by omega)) (by rw [List.getElem?_toArray, List.getElem?_eq_getElem])]; rfl, hd4.free j⟩
          have hg4 : w3.grownBy w4 (some g) := ⟨hb4.os, hb4.tape, hb4.output, hb4.size, fun k hk _ => hb4.block k hk⟩
          have hg5 := HG3.out.trans (hg4.trans (grown_setCells ((Sha.mix D'.s bl).list.map V32) 0 w4))
          have hb5 := bytes_grown HB3.out (hg4.trans (grown_setCells ((Sha.mix D'.s bl).list.map V32) 0 w4))
          have ht5 := tab_grown HT3.out (hg4.trans (grown_setCells ((Sha.mix D'.s bl).list.map V32) 0 w4)) (by have := HG3.out.size; omega) hg
          have HT4 := Lib.hid ht4
          have HD5 := Lib.hid hd5
          have HG5 := Lib.hid hg5
          have HB5 := Lib.hid hb5
          have HT5 := Lib.hid ht5
          clear hd4 hd5 ht4 hg4 hg5 hb5 ht5 hb4 HT3 HG3 HB3 HD3 R35 R36 I35 I36
          refine wpAny_take (i := 10) (v := .pointer (some ⟨g, 0, none⟩)) rfl (by kernel_rfl) (by kernel_rfl) (by kernel_rfl) (fun _ _ _ h => h) (Or.inl ⟨by rfl, fun _ => by go_simp⟩) ?_
          go_simp
          refine wpAny_take (i := 11) (v := .pointer (some ⟨g, 0, none⟩)) rfl (by kernel_rfl) (by kernel_rfl) (by kernel_rfl) (fun _ _ _ h => h) (Or.inl ⟨by rfl, fun _ => by go_simp⟩) ?_
          go_simp
          refine wpAny_all (rs := [12]) (by kernel_rfl) (by simp) ?_
          intro i hi
          simp only [List.mem_cons, List.not_mem_nil, or_false] at hi
          subst hi
          refine wpOp_of_wp rfl (by rfl) ?_
          refine wp_store_mid 105 (.tmp 55) (.tmp 53) rfl g 0 (wcells (Sha.mix D'.s bl).list) (by rfl) (by rfl) HT4.out (by rw [wcells_size]; exact info35) (wcells_one _) ?_
          refine wpAny_done (by kernel_rfl) ?_ _
          rw [show (wcells (Sha.mix D'.s bl).list).toList = (Sha.mix D'.s bl).list.map V32 from rfl]
          clear HT4
          generalize w4.setCells g 0 ((Sha.mix D'.s bl).list.map V32) = w5 at *
          have c72 := HD5.out.at_ (by rw [List.getElem?_toArray]; exact dvals_72 _ _ _ _ HBL.out)
          have f72 := HD5.out.free 72
          go_wp2_with fail
          go_roundw
          case rel =>
            refine ⟨A2, n' - m, c' - m, rest.drop m, ⟨Sha.mix D'.s bl, bl, 0, D'.len⟩, rfl, by omega, by omega, bytes_setCell _ HB5.out, ⟨?_, ⟨HBL.out, by show 0 < 64; omega⟩, HG5.out.trans (grown_setCell _), tab_setCell _ hg HT5.out⟩, ?_⟩
            · exact whole_count _ _ _ 0 _ HBL.out HD5.out
            · have h1 := Sha.pushAll_full D' (rest.take m) HREL.out.ok.1 (by intro h0; have := HL.out; rw [h0] at this; simp at this; omega) (by rw [HL.out]; omega)
              rw [HBL2.out] at h1
              rw [← h1, ← Sha.Dg.pushAll_append, List.take_append_drop]
              exact HALL.out
          case measure =>
            simp [slen]
            omega
      · have q64 : (((D'.n : Int) + (m : Int)) == 64) = false := by rw [beq_eq_false_iff_ne]; omega
        go_wp2_with fail
        go_roundw
        case rel =>
          refine ⟨A2, n' - m, c' - m, rest.drop m, ⟨D'.s, Sha.lay D'.blk D'.n (rest.take m), D'.n + m, D'.len⟩, rfl, by omega, by omega, bytes_setCell _ HB2.out, ⟨?_, ⟨HBL.out, by show D'.n + m < 64; omega⟩, HG.out.trans (grown_setCell _), tab_setCell _ hg HTB.out⟩, ?_⟩
          · rw [HCAST.out]; exact whole_count _ _ _ _ _ HBL.out HD2.out
          · have h1 := Sha.pushAll_some D' (rest.take m) HREL.out.ok.1 (by rw [HL.out]; omega)
            rw [HL.out] at h1
            rw [← h1, ← Sha.Dg.pushAll_append, List.take_append_drop]
            exact HALL.out
        case measure =>
          simp [slen]
          omega
    · obtain rfl : n' = 0 := by omega
      have hr0 : rest = [] := List.eq_nil_of_length_eq_zero hB.1
      subst hr0
      have HE : Hid (D' = D.add bs) := hall
      have HREL := Lib.hid hrel
      clear hrel hall hB
      go_wp2_with fail
      go_end0
      exact ⟨rfl, HE.out ▸ HREL.out.dig, HREL.out.grown⟩
end Go.Proofs.YtceillnmcccckaaDoor.Sh
